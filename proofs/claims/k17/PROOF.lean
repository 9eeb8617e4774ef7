import PyProof.Rows.All
import Wide.All
import OpenK.AllK
import Wide.FinOn
import HandS.ForMost
import HandS.ExcInit
import HandS.Lambda
import HandS.CallLocal
import HandS.ExcIs
import HandS.ExcValue
import HandS.IsInst
import HandS.ForExc
import HandS.TryMany
import HandS.ExcField
import HandS.Words
import HandS.Walk
import HandS.Zip
import HandS.ListItems
import HandS.Evl
import HandS.EndTab
import HandS.Style
import HandS.Conv
import HandS.NoneIn
import HandS.Small
import HandS.SetKeys
import KE.GoesEnum
import PyProof.IsiBase
import KE.KIsAll
import HandS.More
import HandS.OwnEq
import HandS.Deep
import HandS.List
import HandS.SortInts
import KE.KDictZip
import KE.KDictItemsList
import HandS.Iter
import HandS.WordsExc
import HandS.HeadHook4
import HandS.Head3
import HandS.Defaults
import HandS.HeadHook1
import HandS.HeadHook2
import HandS.HeadHook3
import HandS.HeadWalk
import HandS.HeadEnd
import HandS.Head0
import HandS.Head1
import HandS.Head2
import PyProof.ReprRoads
import PyProof.ReprLen
import PySem.Challenge.RW_lastbell_k17_lots_refused
set_option Elab.async false
set_option linter.all false
set_option maxRecDepth 100000
set_option maxHeartbeats 2000000
/-! lambdas with parameters and without captured names, as tracked objects -/
namespace Own
open PySem PySem.Spec PyProof.Rows L2 LamX
/-- at f: the function object of a lambda, its code object at c -/
def LamO (f c : Addr) (q : Str) (ps : Arguments) (bd : Expr) (sc : Scope) : HO :=
  .ext fun h => ∃ pm ctv, h.get? f = some (PySem.W.kla_obj "<lambda>" q ps bd sc [] pm c ctv)
def LamAt (H : Hp) (f : Addr) (q : Str) (ps : Arguments) (bd : Expr) (sc : Scope) : Prop :=
  ∃ c, H f = some (LamO f c q ps bd sc) ∧ H c = some (CodeO c q)
theorem lamO_ok {P : Program} {w : World} {H : Hp} {h : Heap} {f c : Addr} {q : Str} {ps : Arguments} {bd : Expr} {sc : Scope} {pm ctv : Value}
    (e : h.get? f = some (PySem.W.kla_obj "<lambda>" q ps bd sc [] pm c ctv)) : ObjOk P w H h f (LamO f c q ps bd sc) :=
  ⟨⟨pm, ctv, e⟩, ⟨_, e⟩, fun _ _ ⟨p, t, z⟩ k => ⟨p, t, k _ z⟩⟩
theorem lamO_ne {f c : Addr} {q : Str} {ps : Arguments} {bd : Expr} {sc : Scope} (t : Array Value) : LamO f c q ps bd sc ≠ .tbl t := fun z => by
  unfold LamO at z
  cases z
theorem LamAt.ext {H H' : Hp} {f : Addr} {q : Str} {ps : Arguments} {bd : Expr} {sc : Scope} (l : LamAt H f q ps bd sc) (e : ExtN H H') : LamAt H' f q ps bd sc := by
  obtain ⟨c, h1, h2⟩ := l
  exact ⟨c, e _ _ h1 lamO_ne, e _ _ h2 codeO_ne⟩
section
variable {X : Cx} {pins : List (Addr × Obj)} {σ : L2.St} {H : Hp} {s : Shared}
theorem lam_new {T : List (Addr × Str)} {c P : Addr} {ps : Arguments} {bd : Expr} {sc : Scope} {pos : Pos} {E Q : Value → Shared → Prop} (I : Inv X pins σ H s) (TB : TabB X.base X.mg c P)
    (hcode : X.env.code = .ref c) (hm : (P, X.env.qual ++ "<lambda>") ∈ T) (hu : ∀ p ∈ T, p.1 = P → p.2 = X.env.qual ++ "<lambda>") (hT : Tabs T H) (hdef : defaultsOf ps X.env = ([], []))
    (hclo : cloFrom X.env.cells sc.names [] = []) (hnf : ∀ y ∈ sc.names, y.2 ≠ .free)
    (k : ∀ (f : Addr) (H2 : Hp) (s' : Shared), Inv X pins σ H2 s' → ExtN H H2 → Tabs T H2 → H f = none → LamAt H2 f (X.env.qual ++ "<lambda>") ps bd sc → Q (.ref f) s') :
    wpAny (model X.prog X.w) X.A (eval (.Lambda ps bd sc pos) X.env) Q E s := by
  obtain ⟨tb, tP, tt, tc⟩ := hT _ hm
  have bP := TB.bm.keeps I.bk
  have gP : s.heap.get? P = some { cls := .none, data := .fields tb } := I.hok P _ tP
  have clo : closureFor sc X.env = pure [] := by
    have z := closure_ok (env := X.env) (scope := sc) (fun y hy e => absurd e (hnf y hy))
    rw [hclo] at z
    exact z
  refine PySem.W.kla_eval hdef ?_
  rcases among : codeAmong pos tb.toList with _ | cv
  · refine PySem.W.kla_makeFunction clo I.ok.glob (I.mod.glob.keeps I.bk) hcode (TB.code.keeps I.bk) gP tt among TB.gP bP (fun c1 ctv h1 tk e1 ge lt rc ta => ?_)
    obtain ⟨c2, oc, vs, t, ec, goc, doc, vq⟩ := rc
    obtain rfl : c1 = c2 := Value.ref.inj ec
    have nC : H c1 = none := I.hok.fresh ge
    have le1 : s.heap.objs.size ≤ h1.objs.size := Nat.le_of_lt (Nat.lt_of_le_of_lt ge lt)
    have I1 := inv_table (t' := tk) (q := X.env.qual ++ "<lambda>") (more := #[rawInt pos.line, rawInt pos.col, .ref c1]) I tP e1 ta ge ⟨oc, vs, t, goc, doc, vq⟩
    have I2 := I1.laid (t' := tk) (o := LamO h1.objs.size c1 (X.env.qual ++ "<lambda>") ps bd sc) (h' := h1.push (PySem.W.kla_obj "<lambda>" (X.env.qual ++ "<lambda>") ps bd sc [] ((X.mg "__name__").getD .none) c1 ctv))
      (fun b o e => Heap.get?_push_of_some _ e) (Nat.le_refl _) (lamO_ok (Heap.get?_push_size _ rfl))
    have hF : upd (upd H P (.tbl (tb ++ #[rawInt pos.line, rawInt pos.col, .ref c1]))) c1 (CodeO c1 (X.env.qual ++ "<lambda>")) h1.objs.size = none := I1.hok.fresh (Nat.le_refl _)
    have hf : H h1.objs.size = none := I.hok.fresh le1
    have e12 : ExtN H (upd (upd H P (.tbl (tb ++ #[rawInt pos.line, rawInt pos.col, .ref c1]))) c1 (CodeO c1 (X.env.qual ++ "<lambda>"))) := fun b o e n => by
      have nb : b ≠ P := fun z => by
        rw [z, tP] at e
        exact n tb (Option.some.inj e).symm
      rw [upd_ne (ne_of_none e nC), upd_ne nb]
      exact e
    have e2 : ∀ b o, upd (upd H P (.tbl (tb ++ #[rawInt pos.line, rawInt pos.col, .ref c1]))) c1 (CodeO c1 (X.env.qual ++ "<lambda>")) b = some o → upd (upd (upd H P (.tbl (tb ++ #[rawInt pos.line, rawInt pos.col, .ref c1]))) c1 (CodeO c1 (X.env.qual ++ "<lambda>"))) h1.objs.size (LamO h1.objs.size c1 (X.env.qual ++ "<lambda>") ps bd sc) b = some o := fun b o e => by
      rw [upd_ne (ne_of_none e hF)]
      exact e
    have eL : (tb ++ #[rawInt pos.line, rawInt pos.col, .ref c1]).toList = tb.toList ++ [rawInt pos.line, rawInt pos.col, .ref c1] := by simp
    have T1 : Tabs T (upd (upd H P (.tbl (tb ++ #[rawInt pos.line, rawInt pos.col, .ref c1]))) c1 (CodeO c1 (X.env.qual ++ "<lambda>"))) := fun p hp => by
      by_cases hb : p.1 = P
      · refine ⟨tb ++ #[rawInt pos.line, rawInt pos.col, .ref c1], ?_, ?_, fun p2 cv hcv => ?_⟩
        · rw [hb, upd_ne (ne_of_none tP nC)]
          exact upd_same
        · rw [eL]
          exact PySem.TriplesOk_snoc _ _ _ _ tt
        · rw [eL] at hcv
          rw [hu p hp hb]
          rcases among_app _ tt hcv with z | z
          · obtain ⟨c0, y1, y2⟩ := tc p2 cv z
            exact ⟨c0, y1, e12 _ _ y2 codeO_ne⟩
          · exact ⟨c1, z, upd_same⟩
      · obtain ⟨t2, a1, a2, a3⟩ := hT p hp
        refine ⟨t2, ?_, a2, fun p2 cv hcv => ?_⟩
        · rw [upd_ne (ne_of_none a1 nC), upd_ne hb]
          exact a1
        · obtain ⟨c0, y1, y2⟩ := a3 p2 cv hcv
          exact ⟨c0, y1, e12 _ _ y2 codeO_ne⟩
    exact k _ _ _ I2 (e12.trans (ExtN.of e2)) (T1.ext e2) hf ⟨c1, upd_same, e2 _ _ upd_same⟩
  · obtain ⟨c1, rfl, hco⟩ := tc pos cv among
    refine PySem.W.kla_makeFunctionHit clo I.ok.glob (I.mod.glob.keeps I.bk) hcode (TB.code.keeps I.bk) gP tt among bP (fun ctv h1 tk kp le1 => ?_)
    have hf : H h1.objs.size = none := I.hok.fresh le1
    have I2 := I.laid (t' := tk) (o := LamO h1.objs.size c1 (X.env.qual ++ "<lambda>") ps bd sc) (h' := h1.push (PySem.W.kla_obj "<lambda>" (X.env.qual ++ "<lambda>") ps bd sc [] ((X.mg "__name__").getD .none) c1 ctv))
      (fun b o e => Heap.get?_push_of_some _ (kp b o e)) le1 (lamO_ok (Heap.get?_push_size _ rfl))
    have e2 : ∀ b o, H b = some o → upd H h1.objs.size (LamO h1.objs.size c1 (X.env.qual ++ "<lambda>") ps bd sc) b = some o := fun b o e => by
      rw [upd_ne (ne_of_none e hf)]
      exact e
    exact k _ _ _ I2 (ExtN.of e2) (hT.ext e2) hf ⟨c1, upd_same, e2 _ _ hco⟩
end
end Own

set_option Elab.async false
set_option linter.all false
set_option maxRecDepth 100000
set_option maxHeartbeats 2000000
namespace Own
open PySem PySem.Spec PyProof.Rows L2 LamX
abbrev LSp := List V → Hp → VK → Prop
/-- the text of a lambda keeps the promise sp -/
structure LamCode (P : Program) (w : World) (K : PySem.W.Frag) (mg : Str → Option Value) (base : Heap) (k : Nat) (q : Str) (ps : Arguments) (bd : Expr) (sc : Scope) (sp : LSp) : Prop where
  ex : ∃ N pn : List Str, FnScope N pn sc ∧
    (∀ (us : List Value) (pm cv ctv : Value), us.length = pn.length → bindArgs (PySem.W.kla_fn "<lambda>" q ps bd sc [] pm cv ctv) ⟨us, []⟩ = pure (pn.zip us)) ∧
    (∀ vs H Q, sp vs H Q → vs.length = pn.length) ∧
    ∀ (f c : Addr) (A : Around) (outer : List Env) (s : Shared) (H : Hp) (vs : List V) (Q : VK), Room k (A.deeper (envOfC q sc s.heap.objs.size f (.ref c))) → sp vs H Q →
      ∃ t, PE (cxOf CX0 P w K mg base N q sc f (.ref c) A outer s H E0) bd t ∧ t (L2.start N vs) H Q
theorem run_lam {P : Program} {w : World} {K : PySem.W.Frag} {mg : Str → Option Value} {base : Heap} {k : Nat} {q : Str} {ps : Arguments} {bd : Expr} {sc : Scope} {sp : LSp} (C : LamCode P w K mg base k q ps bd sc sp)
    {A : Around} {outer : List Env} {s : Shared} {H : Hp} {f : Addr} {us : List Value} {vs : List V} {Q : VK} (la : LamAt H f q ps bd sc) (e0 : Env0 P w K mg base A outer s H) (hr : Room (k + 1) A) (r : Vals vs us) (h : sp vs H Q) :
    codeAny (model P w) A (.call (.ref f) ⟨us, []⟩) (CR CX0 outer P w H s Q E0) s := by
  obtain ⟨N, pn, S, bi, len, body⟩ := C.ex
  obtain ⟨c, hf, hc⟩ := la
  have hl := len _ _ _ h
  have lu : us.length = pn.length := r.length.symm.trans hl
  have lim : s.heap.NoLimit := e0.mod.nolimit.keeps fun b o e => (e0.bs b o e).1
  obtain ⟨⟨pm, ctv, ho⟩, _, _⟩ := e0.hok f _ hf
  obtain ⟨⟨oc, vs', t', e1, e2, e3⟩, _, _⟩ := e0.hok c _ hc
  have kinds : ∀ y ∈ pn.zip us, sc.names.lookup y.1 = some .local ∨ (sc.names.lookup y.1 = some .cell ∧ ((cellsFrom (s.heap.objs.size + 1) sc.names []).lookup y.1).isSome = true) := fun ⟨n, v⟩ hy => by
    rcases S.par n (List.of_mem_zip hy).1 with z | z
    · exact .inl z
    · exact .inr ⟨z, PySem.W.cellsFrom_some _ _ _ (.inl z)⟩
  refine PySem.W.kla_callFunE hr.depth ho rfl S.co S.gen rfl ⟨c, oc, vs', t', rfl, e1, e2, e3⟩ ?_
  rw [bi us _ _ _ lu]
  refine wpAny_pure (wpAny_newFunctionEnv_cells S.kind kinds fun env he s1 x => ?_)
  subst he
  refine ⟨lim.keeps x.toInCall.keep, ?_⟩
  show codeAny _ _ (.expr bd (envOfC q sc s.heap.objs.size f (.ref c))) _ _
  obtain ⟨t, ht, hq⟩ := body f c A outer s H vs Q (hr.deeper _) h
  have I : Inv (cxOf CX0 P w K mg base N q sc f (.ref c) A outer s H E0) [] (L2.start N vs) H s1 := inv_start S hr.hd e0 hl r x
  refine PySem.W.kla_codeExpr (wpAny_mono (ht.run [] s1 (L2.start N vs) H Q I hq) (fun v s' hs => ?_) fun e s' hs => hs)
  obtain ⟨w', H', J, rv, z⟩ := hs
  exact ⟨w', H', J.os, J.bare, J.base, J.hok, rv, z⟩
/-- x(e, ..), x a local name that holds a lambda -/
def tLamCall (P : Program) (w : World) (K : PySem.W.Frag) (mg : Str → Option Value) (base : Heap) (k i : Nat) (ta : TA) : TE := fun σ H Q =>
  ∃ (f : Addr) (q : Str) (ps : Arguments) (bd : Expr) (sc : Scope) (sp : LSp), σ[i]? = some (some (.ref f)) ∧ LamAt H f q ps bd sc ∧ LamCode P w K mg base k q ps bd sc sp ∧
    ta σ H fun vs H1 => LamAt H1 f q ps bd sc ∧ sp vs H1 Q
section
variable {X : Cx} {k i : Nat} {x : Str} {p pos : Pos} {e : Expr} {es : List Expr} {ta : TA}
theorem fnAt_of {H : Hp} {s : Shared} {f : Addr} {q : Str} {ps : Arguments} {bd : Expr} {sc : Scope} (hok : HOk X.prog X.w H s.heap) (l : LamAt H f q ps bd sc) : PySem.W.FnAt f s.heap := by
  obtain ⟨c, hf, _⟩ := l
  obtain ⟨⟨pm, ctv, ho⟩, _, _⟩ := hok f _ hf
  exact ⟨_, _, _, _, ho⟩
theorem pe_callLam (hr : Room (k + 1) X.A) (hN : X.N[i]? = some x) (hv : Vis X.env.scope x) (ha : PA X (e :: es) ta)
    (hdb : (x == ("__debug__" : Str)) = false := by decide) (hcd : (x == ("__classdict__" : Str)) = false := by decide)
    (he : starEach (e :: es) X.env = (false, eval e X.env) :: starEach es X.env := by rfl) (hpl : (backTo pos (starEach es X.env)).any (·.1) = false := by rfl) :
    PE X (.Call (.Name x p) (e :: es) [] pos) (tLamCall X.prog X.w X.K X.mg X.base k i ta) := by
  refine ⟨fun pins s σ H Q I h => ?_⟩
  obtain ⟨f, q, ps, bd, sc, sp, hs, la, C, ht⟩ := h
  refine wpAny_Call_Name_kw (thn ((pe_var (pos := p) hN hv hdb hcd).run pins s σ H (fun v H1 => v = .ref f ∧ H1 = H) I ⟨.ref f, hs, rfl, rfl⟩) fun u s1 ⟨v, H1, I1, r1, q1⟩ => ?_)
  obtain ⟨rfl, rfl⟩ := q1
  obtain rfl : u = Value.ref f := r1
  refine PySem.W.callWith_F (fnAt_of I1.hok la) (thn (ha.run pos pins s1 σ _ _ I1 ht) fun us s2 ⟨vs, H2, I2, r, la2, hq⟩ => ⟨fnAt_of I2.hok la2, ?_⟩) he hpl
  show wpAny _ _ (call (.ref f) us) _ _ _
  refine wpAny_call (codeAny_mono (run_lam C la2 I2.env0 hr r hq) fun r' s' z => ?_)
  cases r' with
  | error e => exact (show False from z).elim
  | ok fl =>
    cases fl with
    | ret u => exact I2.after z
    | next => exact False.elim z
    | brk => exact False.elim z
    | cont => exact False.elim z
/-- a lambda's making, as an expression -/
def tLamNew (T : List (Addr × Str)) (q : Str) (ps : Arguments) (bd : Expr) (sc : Scope) : TE := fun σ H Q =>
  Tabs T H ∧ ∀ (f : Addr) (H2 : Hp), ExtN H H2 → Tabs T H2 → H f = none → LamAt H2 f q ps bd sc → Q (.ref f) H2
theorem pe_lam {T : List (Addr × Str)} {c P : Addr} {ps : Arguments} {bd : Expr} {sc : Scope} (TB : TabB X.base X.mg c P)
    (hcode : X.env.code = .ref c) (hm : (P, X.env.qual ++ "<lambda>") ∈ T) (hu : ∀ p ∈ T, p.1 = P → p.2 = X.env.qual ++ "<lambda>")
    (hdef : defaultsOf ps X.env = ([], []) := by rfl) (hclo : cloFrom X.env.cells sc.names [] = [] := by rfl) (hnf : ∀ y ∈ sc.names, y.2 ≠ .free := by decide +kernel) :
    PE X (.Lambda ps bd sc pos) (tLamNew T (X.env.qual ++ "<lambda>") ps bd sc) := by
  refine ⟨fun pins s σ H Q I h => ?_⟩
  exact lam_new I TB hcode hm hu h.1 hdef hclo hnf fun f H2 s' I2 e2 T2 nf la => ⟨.ref f, H2, I2, rfl, h.2 f H2 e2 T2 nf la⟩
end
end Own

set_option Elab.async false
set_option linter.all false
set_option maxRecDepth 100000
set_option maxHeartbeats 4000000
/-! exceptions of own classes held as values: made, their fields read, asked for their class -/
namespace PySem.W
open PySem PySem.Spec PySem.Calls PyProof.Rows
section
variable {prog : Program} {w : World} {A : Around} {E : Value → Shared → Prop} {s : Shared} {K : Frag} {x D : Addr} {ox : Obj} {od : Option Obj}
theorem own_bound {name : Str} {a g : Value} (hc : (clsIn K D).isSome = true) (ha : findIn K (.ref D) name = some (some a)) (hg : specialIn K a "__get__" = some (some g)) (ht : takesIn K a = some true) :
    findObj K D od name = some (.bind g a) := by
  rcases Option.isSome_iff_exists.mp hc with ⟨cd, hcd⟩
  simp [findObj, hcd, ha, hg, ht]
/-- e.__class__ of an exception, with or without a dict of its own -/
theorem own_class {Q : Option Value → Shared → Prop} (T : L2.ExcC K D) (X : K.In s.heap) (I : InstAt s.heap x ox D od) (h : Q (some (.ref D)) { s with toks := s.toks + 1 }) :
    wpAny (model prog w) A (getAttr? (.ref x) "__class__") Q E s := by
  have isCls : (clsIn K D).isSome = true := by
    rcases any_some T.hd with ⟨cd, hcd, _⟩
    rw [hcd]
    rfl
  have f0 := own_bound (od := od) isCls T.ha T.hn T.ht
  rcases s with ⟨hp, g, d, t, os⟩
  have a0 := I.type (M := model prog w)
  have a1 := looks_findIn (M := model prog w) X T.hg
  have a2 := looks_findIn (M := model prog w) X T.hk
  have a3 := looks_find (M := model prog w) X I f0
  have isB : Looks (model prog w) hp (isInstance (.ref x) (.type "BaseException")) true := a0.andThen (looks_subIn X T.hs)
  have n1 : (onTheHeap (Value.ref D) && Value.builtin "BaseException.__getattribute__" == Value.builtin "object.__getattribute__") = false := by
    have z : (Value.builtin "BaseException.__getattribute__" == Value.builtin "object.__getattribute__") = false := by decide +kernel
    rw [z]
    rfl
  have n2 : (false && onTheHeap (Value.builtin "BaseException.__getattribute__")) = false := rfl
  unfold getAttr? getAttrBy? getAttrBy
  refine wpAny_bind (wpAny_mkText (wpAny_bind (wpAny_attempt (wpAny_holding (wpAny_bind (a0.at (wpAny_bind (a1.at ?_))))))))
  show wpAny _ _ (if (onTheHeap (Value.ref D) && Value.builtin "BaseException.__getattribute__" == Value.builtin "object.__getattribute__") = true then _ else _) _ _ _
  rw [n1, if_neg Bool.false_ne_true]
  unfold getAttrByItsOwn hookBefore
  refine wpAny_bind ?_
  rw [if_pos (show onTheHeap (Value.ref D) = true from rfl)]
  refine a2.at (wpAny_bind (wpAny_attempt (wpAny_holding ?_)))
  unfold callGetattribute
  rw [n2, if_neg Bool.false_ne_true]
  unfold boundAndCalled
  rw [PySem.F.excAttr_ValueError.ga.bind (.ref x)]
  refine wpAny_bind (wpAny_pure ?_)
  show wpAny _ _ (call (.builtin "BaseException.__getattribute__") [.ref x, .str "__class__" t]) _ _ _
  refine wpAny_call (codeAny_call_builtin PySem.F.excAttr_ValueError.ga.plain PySem.F.entry_bexc_ga ?_)
  refine @check_slot (model prog w) _ _ ⟨hp, g, d, t + 1, os⟩ "BaseException.__getattribute__" "BaseException" "__getattribute__" (.ref x) [.str "__class__" t] [] _ (by decide +kernel) (by decide +kernel) isB (PySem.F.args_bexc_ga (.ref x) (.str "__class__" t)) ?_
  unfold Builtin.«object.__getattribute__»
  refine wpAny_bind (wpAny_of_eq (a := ((Value.ref x : Value), [Value.str "__class__" t])) (by first | rfl | (simp only [slotArgs]; rfl)) ?_)
  refine wpAny_bind (wpAny_pure (wpAny_bind (a0.at (wpAny_bind (a3.at ?_)))))
  show wpAny _ _ (holding [Value.builtin "object.__class__"] (call (.builtin "getset_descriptor.__get__") [.builtin "object.__class__", .ref x, .ref D]) >>= ret) _ _ _
  refine wpAny_bind (wpAny_holding (wpAny_call (class_get (s := ⟨hp, g, d, t + 1, os⟩) (ox := ox) (od := od) X I T.hm (wpAny_pure ?_))))
  show wpAny _ _ (handedOut (.ref D)) _ _ _
  rw [handedOut_of (v := .ref D) rfl]
  first
    | exact wpAny_pure (wpAny_pure h)
    | exact wpAny_pure h
    | exact wpAny_pure (wpAny_bind (wpAny_pure (wpAny_pure h)))
theorem own_kit (T : L2.ExcC K D) : KitX K (.ref x) (.ref D) (fun h => ∃ ox od, InstAt h x ox D od) where
  ty := fun _ _ _ ⟨_, _, I⟩ => I.type
  it := fun _ _ X _ => by
    rcases any_some T.hd with ⟨cd, hcd, _⟩
    unfold clsIn at hcd
    split at hcd
    · rename_i c1 d1 cd1 sl1 ho
      intro A1 Q1 E1 s1 k q
      unfold isType loadHead
      exact wpAny_bind (wpAny_loadPart (k _ _ (X _ _ ho)) (wpAny_pure q))
    · cases hcd
  ne := fun h tp dd its n sl X htp => by
    rcases any_some T.hd with ⟨cd, hcd, _⟩
    refine Bool.eq_false_iff.mpr fun q => ?_
    obtain rfl : D = tp := Value.ref.inj (beq_iff_eq.mp q)
    unfold clsIn at hcd
    split at hcd
    · rename_i c1 d1 cd1 sl1 ho
      have z := (X _ _ ho).symm.trans htp
      cases z
    · cases hcd
  ca := fun X ⟨_, _, I⟩ k => own_class T X I k
end
end PySem.W
namespace Own
open PySem PySem.Spec PyProof.Rows L2
/-- at e: an exception of the class at C, made and not raised, whose own dict (where it has one) holds fs -/
structure ExcAt (H : Hp) (e C : Addr) (fs : List (Str × V)) : Prop where
  ex : ∃ d, H e = some (exo e C d) ∧ ((d = none ∧ fs = []) ∨ ∃ dd, d = some dd ∧ H dd = some (exd dd fs))
theorem exd_ne {d : Addr} {fs : List (Str × V)} {t : Array Value} : exd d fs ≠ .tbl t := fun z => by
  have z' : HO.ext _ = HO.tbl t := z
  cases z'
theorem ExcAt.keep {H H' : Hp} {e C : Addr} {fs : List (Str × V)} (x : ExcAt H e C fs) (k : ∀ b o, H b = some o → (∀ t, o ≠ .tbl t) → H' b = some o) : ExcAt H' e C fs := by
  obtain ⟨d, h1, h2⟩ := x.ex
  refine ⟨d, k _ _ h1 fun t => exo_tbl, ?_⟩
  rcases h2 with h2 | ⟨dd, e2, h2⟩
  · exact .inl h2
  · exact .inr ⟨dd, e2, k _ _ h2 fun t => exd_ne⟩
theorem ExcAt.inst {P : Program} {w : World} {H : Hp} {h : Heap} {e C : Addr} {fs : List (Str × V)} (x : ExcAt H e C fs) (hok : HOk P w H h) : ∃ ox od, PySem.W.InstAt h e ox C od := by
  obtain ⟨d, h1, h2⟩ := x.ex
  obtain ⟨t, ho⟩ := exo_at hok h1
  rcases h2 with ⟨rfl, _⟩ | ⟨dd, rfl, h2⟩
  · exact ⟨_, none, ho, rfl, rfl, trivial⟩
  · obtain ⟨mA, hn, _⟩ := exd_at hok h2
    obtain ⟨od, hd, _⟩ := lookIn_ns hn
    exact ⟨_, some od, ho, rfl, rfl, hd⟩
/-- isinstance(e, c) -/
def rIsE (K : PySem.W.Frag) : List V → Hp → VK → Prop := fun xs H Q =>
  ∃ (a D : Addr) (fs : List (Str × V)) (c : V) (cv : Value) (b : Bool), xs = [.ref a, c] ∧ ExcAt H a D fs ∧ ExcC K D ∧ ClsV c cv ∧ PySem.W.kitOne K (.ref D) cv = some b ∧ Q (.bl b) H
theorem call_isE {X : Cx} : CallR X (.builtin "isinstance") (rIsE X.K) := by
  intro pins s σ H xs us Q I r h
  obtain ⟨a, D, fs, c, cv, b, rfl, x, T, k, e, q⟩ := h
  obtain ⟨u1, u2, rfl, r1, r2⟩ := vals2 r
  obtain rfl : u1 = Value.ref a := r1
  obtain rfl := k.eq r2
  exact PySem.W.kia_one (PySem.W.own_kit T) I.kIn (x.inst I.hok) e (fun z => nomatch z) fun tk => ⟨.bl b, H, I.tok tk, rfl, q⟩
/-- e.f -/
def tExF (K : PySem.W.Frag) (ta : TE) (f : Str) : TE := fun σ H Q => ta σ H fun x H1 =>
  ∃ (a C : Addr) (fs : List (Str × V)) (v : V), x = .ref a ∧ ExcAt H1 a C fs ∧ ExcC K C ∧ PySem.W.findIn K (.ref C) f = some none ∧ fs.lookup f = some v ∧ Q v H1
section
variable {X : Cx} {e : Expr} {es : List Expr} {ta : TE} {t tk : TA} {f x : Str} {p pos kpos : Pos}
theorem pe_exF (he : PE X e ta) (hb : attributeBase e f X.env (eval e X.env) = eval e X.env := by rfl) : PE X (.Attribute e f pos) (tExF X.K ta f) := by
  refine ⟨fun pins s σ H Q I h => attr_of hb (thn (he.run pins s σ H _ I h) fun u s1 hh => ?_)⟩
  obtain ⟨y, H1, I1, ry, a, C, fs, v, rfl, xa, T, hno, hl, q⟩ := hh
  obtain rfl : u = Value.ref a := ry
  obtain ⟨d, h1, h2⟩ := xa.ex
  obtain ⟨t1, ho⟩ := exo_at I1.hok h1
  rcases h2 with ⟨_, rfl⟩ | ⟨dd, rfl, h2⟩
  · cases hl
  · obtain ⟨mA, hn, rel⟩ := exd_at I1.hok h2
    obtain ⟨od, hd, lk⟩ := lookIn_ns hn
    have r0 := rel f
    rw [hl] at r0
    obtain ⟨w0, hw, rw0⟩ := RelO.some_of r0
    have J : PySem.W.InstAt s1.heap a _ C (some od) := ⟨ho, rfl, rfl, hd⟩
    exact HandSPX.exc_get I1.kIn J T.hg T.hk T.hs (PySem.W.findObj_own T.hd hno rfl (by rw [lk, hw])) (handed_of rw0) ⟨v, H1, I1.tok _, rw0, q⟩
end
end Own

set_option Elab.async false
set_option linter.all false
set_option maxRecDepth 100000
set_option maxHeartbeats 4000000
/-! C(e, ..), C(k = e, ..), C() of an own exception class, as values -/
namespace PySem.HandSPX
open Builtin Builtin.ObjectAttr
section
variable {M : Model} {prog : Program} {w : World} {A : Around} {E : Value → Shared → Prop} {R : Result → Shared → Prop} {h : Heap} {g : Array GenState} {d : Drawn} {t : Nat} {os : OsState}
variable {nm q : Str} {C N : Addr} {bs bm bmB : List Value} {hdct : Bool} {sn : List Str} {sub : List Value} {ab : Bool} {col : Option Bool} {dd : Option Addr} {k0 k1 k2 k3 k5 : Option Value} {B newId initId : String}
theorem kw_check (F : ExcBaseFacts B newId initId bmB) (hT : ∀ X : String, bm.contains (.type X) = bmB.contains (.type X)) {us : List Value} {kw : List (Str × Value)} {Q : Unit → Shared → Prop}
    (hC : h.get? C = some (excClassObj nm q C N bs bm hdct sn sub ab col dd k0 k1 k2 k3 k5 newId)) (k : Q () ⟨h, g, d, t, os⟩) : wpAny M A (checkBuiltinCall newId ⟨.ref C :: us, kw⟩) Q E ⟨h, g, d, t, os⟩ := by
  have inB : (Value.ref C :: bm).contains (.type B) = true := by
    rw [List.contains_cons, hT, F.hasB]
    exact Bool.or_true _
  have st := F.noStar
  simp only [checkBuiltinCall, F.newKind, F.newSplit, F.newRow]
  repeat (first
    | refine wpAny_loadPart_at hC ?_
    | (refine wpAny_isSubtype_exc hC ?_; rw [inB])
    | refine wpAny_staticBase_exc hC ?_
    | refine wpAny_madeBy_exc hC ?_
    | simp only [bne_self_eq_false, Bool.false_eq_true, if_false]
    | wp_step)
  exact k
theorem kw_new (F : ExcBaseFacts B newId initId bmB) (hT : ∀ X : String, bm.contains (.type X) = bmB.contains (.type X)) {us : List Value} {kw : List (Str × Value)}
    (hC : h.get? C = some (excClassObj nm q C N bs bm hdct sn sub ab col dd k0 k1 k2 k3 k5 newId))
    (k : R (.ok (.ret (.ref (h.objs.size + 1)))) ⟨(h.push (W.kdv_tup us)).push (excO C h.objs.size), g, d, t, os⟩) (hl : us.length ≤ sizeLine) :
    codeAny (model prog w) A (.builtin newId ⟨.ref C :: us, kw⟩) R ⟨h, g, d, t, os⟩ := by
  have fe := F.ends
  have inB : (Value.ref C :: bm).contains (.type B) = true := by
    rw [List.contains_cons, hT, F.hasB]
    exact Bool.or_true _
  have inA : (Value.ref C :: bm).contains (.type "AttributeError") = false := by
    rw [List.contains_cons, hT, F.noAttr]
    rfl
  have inN : (Value.ref C :: bm).contains (.type "NameError") = false := by
    rw [List.contains_cons, hT, F.noName]
    rfl
  refine codeAny_builtinAt F.entry ?_
  unfold Builtin.«BaseException.__new__»
  refine wpAt_bind ?_
  show wpAt _ _ _ (stack >>= _) _ _ _
  refine wpAt_bind (wpAt_stack fun p below => wpAt_of_wpAny ?_)
  wp_walk
  refine wpAt_of_wpAny ?_
  rw [F.owner]
  repeat (first
    | with_reducible refine wpAny_madeHere_exc F.canon hC ?_
    | with_reducible refine wpAny_loadPart_at hC ?_
    | (with_reducible refine wpAny_isSubtype_exc hC ?_; first | rw [inB] | rw [inA] | rw [inN])
    | wp_step)
  show R _ _
  rw [Heap.size_push]
  exact k
theorem kw_typecall (F : ExcBaseFacts B newId initId bmB) (hT : ∀ X : String, bm.contains (.type X) = bmB.contains (.type X)) {us : List Value} {kw : List (Str × Value)} {fI : Addr} {Q : Fin → Shared → Prop}
    (hC : h.get? C = some (excClassObj nm q C N bs bm hdct sn sub ab col dd k0 k1 k2 k3 k5 newId))
    (hi : W.Looks (model prog w) h (typeLookup (.ref C) "__init__") (some (.ref fI))) (hb : ∀ self, W.Looks (model prog w) h (bindSpecial (.ref fI) self) (.ref fI, [self])) (hl : us.length ≤ sizeLine)
    (k : codeAny (model prog w) A (.call (.ref fI) ⟨.ref (h.objs.size + 1) :: us, kw⟩)
      (fun r s' => match r with | .ok (.ret v) => v = .none ∧ Q (.done (.ret (.ref (h.objs.size + 1)))) s' | .ok _ => False | .error e => E e s')
      ⟨(h.push (W.kdv_tup us)).push (excO C h.objs.size), g, d, t, os⟩) :
    wpAny (model prog w) A (Builtin.«type.__call__» ⟨.ref C :: us, kw⟩) Q E ⟨h, g, d, t, os⟩ := by
  repeat (first
    | with_reducible refine wpAny_loadPart_at hC ?_
    | with_reducible refine wpAny_madeBy_exc hC ?_
    | wp_step)
  refine codeAny_call_builtin_code (Code.quiet_builtin _ F.quiet) (kw_check F hT hC (kw_new F hT hC ?_ hl))
  show wpAny _ _ _ _ _ _
  have kp : ∀ b o, h.get? b = some o → ((h.push (W.kdv_tup us)).push (excO C h.objs.size)).get? b = some o := fun b o e => Heap.get?_push_of_some _ (Heap.get?_push_of_some _ e)
  have hC1 := kp _ _ hC
  have hE : ((h.push (W.kdv_tup us)).push (excO C h.objs.size)).get? (h.objs.size + 1) = some (excO C h.objs.size) := by heap_get
  have inC : (Value.ref C :: bm).contains (.ref C) = true := by simp
  have ii := hi.keeps kp
  have bb := (hb (.ref (h.objs.size + 1))).keeps kp
  unfold isInstance
  repeat (first
    | with_reducible refine wpAny_loadPart_at hE ?_
    | (with_reducible refine wpAny_isSubtype_exc hC1 ?_; rw [inC])
    | wp_step)
  show wpAny _ _ (typeLookup (.ref C) _) _ _ _
  refine ii.at (wpAny_holding (wpAny_bind (bb.at (wpAny_bind (wpAny_call (codeAny_mono k fun r s' z => ?_))))))
  rcases r with e | (v | _ | _ | _) <;> first | exact z | exact z.elim | skip
  obtain ⟨rfl, z⟩ := z
  first
    | exact wpAny_pure (wpAny_pure z)
    | (wp_walk; exact z)
theorem kw_call (F : ExcBaseFacts B newId initId bmB) (hT : ∀ X : String, bm.contains (.type X) = bmB.contains (.type X)) {us : List Value} {kw : List (Str × Value)} {fI : Addr}
    (hC : h.get? C = some (excClassObj nm q C N bs bm hdct sn sub ab col dd k0 k1 k2 k3 k5 newId))
    (hi : W.Looks (model prog w) h (typeLookup (.ref C) "__init__") (some (.ref fI))) (hb : ∀ self, W.Looks (model prog w) h (bindSpecial (.ref fI) self) (.ref fI, [self])) (hl : us.length ≤ sizeLine)
    (k : codeAny (model prog w) (A.under (.builtin "type.__call__" ⟨.ref C :: us, kw⟩)) (.call (.ref fI) ⟨.ref (h.objs.size + 1) :: us, kw⟩) (W.InitBack (h.objs.size + 1) R)
      ⟨(h.push (W.kdv_tup us)).push (excO C h.objs.size), g, d, t, os⟩) :
    codeAny (model prog w) A (.call (.ref C) ⟨us, kw⟩) R ⟨h, g, d, t, os⟩ := by
  have l1 := tc_lookup
  have l2 := tc_bind (.ref C)
  have ty : (⟨h, g, d, t, os⟩ : Shared).TypeIs (.ref C) "type" := ⟨_, hC, rfl⟩
  refine codeAny_of_tree ?_
  show wpAny _ _ (callAny (.ref C) _) _ _ _
  repeat (any_goals (first
    | assumption
    | with_reducible refine wpAny_loadPart_at hC ?_
    | wp_step))
  refine ⟨rfl, ?_⟩
  refine codeAny_call_builtin_at (Code.quiet_builtin _ (by decide +kernel)) entry_typeCall (wpAny_check_type_call_sub hC (kw_typecall F hT hC hi hb hl ?_))
  refine codeAny_mono k fun r s' z => ?_
  rcases r with e | (v | _ | _ | _) <;> exact z
end
end PySem.HandSPX

set_option Elab.async false
set_option linter.all false
set_option maxRecDepth 100000
set_option maxHeartbeats 4000000
namespace Own
open PySem PySem.Spec PyProof.Rows L2
/-- a class with its own __init__ (at fI), over ValueError -/
structure ExcI (K : PySem.W.Frag) (C fI : Addr) : Prop where
  ox : OexC K C
  init : PySem.W.findIn K (.ref C) "__init__" = some (some (.ref fI))
  fn : PySem.W.typeIn K (.ref fI) = some (.type "function")
/-- a new exception of the class at C, its __init__ called with it and the values -/
def tMkE (C : Addr) (sp : Sp) (ta : TA) : TE := fun σ H Q => ta σ H fun vs H1 => vs.length ≤ 1000 ∧ ∀ a, H1 a = none →
  sp (.ref a :: vs) (upd H1 a (exo a C none)) (fun v H2 => v = .non ∧ Q (.ref a) H2) E0
def tMkK (C : Addr) (sp : Sp) (rV : List V → List V) (tk : TA) : TE := fun σ H Q => tk σ H fun zs H1 => ∀ a, H1 a = none →
  sp (.ref a :: rV zs) (upd H1 a (exo a C none)) (fun v H2 => v = .non ∧ Q (.ref a) H2) E0
section
variable {X : Cx} {e : Expr} {es : List Expr} {kws : List Keyword} {t tk : TA} {x : Str} {p pos : Pos} {C fI : Addr} {k : Nat} {fd : FuncData} {ps ks : List Str} {sp : Sp}
/-- the making, behind the arguments -/
theorem run_mkE {us ws : List Value} {kw : List (Str × Value)} {vs : List V} {pins : List (Addr × Obj)} {σ : L2.St} {H : Hp} {s : Shared} {Q : VK} (T : ExcI X.K C fI) (G : FnOk X.prog X.w X.K X.mg X.base CX0 k fI fd ps sp) (hr : Room (k + 1) X.A)
    (I : Inv X pins σ H s) (hl : us.length ≤ sizeLine) (rel : ∀ a : Addr, Vals (.ref a :: vs) (.ref a :: ws)) (bind : ∀ (a : Addr) (s' : Shared), X.K.In s'.heap → (Value.ref a :: ws).length = ps.length → BindsTo s' fd ⟨.ref a :: us, kw⟩ (ps.zip (.ref a :: ws)))
    (h : ∀ a, H a = none → sp (.ref a :: vs) (upd H a (exo a C none)) (fun v H2 => v = .non ∧ Q (.ref a) H2) E0) :
    wpAny (model X.prog X.w) X.A (call (.ref C) us kw) (EP X pins σ Q) X.xe s := by
  obtain ⟨nm, q, N, bs, bm, sn, sub, ab, col, dd, k0, k1, k2, k3, k5, hC, hbm⟩ := T.ox.cls
  obtain ⟨hp, g, dr, tt, os⟩ := s
  have lt : hp.objs.size ≤ hp.objs.size + 1 := Nat.le_succ _
  have q0 := h (hp.objs.size + 1) (I.hok.fresh lt)
  have kp : ∀ b o, hp.get? b = some o → ((hp.push (PySem.W.kdv_tup us)).push (PySem.HandSPX.excO C hp.objs.size)).get? b = some o := fun b o z => Heap.get?_push_of_some _ (Heap.get?_push_of_some _ z)
  have hE : ((hp.push (PySem.W.kdv_tup us)).push (PySem.HandSPX.excO C hp.objs.size)).get? (hp.objs.size + 1) = some (PySem.HandSPX.excO C hp.objs.size) := by heap_get
  have I2 : Inv X pins σ (upd H (hp.objs.size + 1) (exo (hp.objs.size + 1) C none)) ⟨(hp.push (PySem.W.kdv_tup us)).push (PySem.HandSPX.excO C hp.objs.size), g, dr, tt, os⟩ :=
    I.laid (t' := tt) (a := hp.objs.size + 1) (o := exo (hp.objs.size + 1) C none) (h' := (hp.push (PySem.W.kdv_tup us)).push (PySem.HandSPX.excO C hp.objs.size)) kp lt (exo_ok hE)
  have rv := rel (hp.objs.size + 1)
  have ll : (Value.ref (hp.objs.size + 1) :: ws).length = ps.length := rv.length.symm.trans (G.len _ _ _ _ q0)
  refine wpAny_call (PySem.HandSPX.kw_call F.excBase_ValueError (fun Y => PySem.HandSPX.refsVE_contains Y bm hbm) (I.kIn _ _ hC) (PySem.W.looks_findIn I.kIn T.init) (fun self => PySem.W.bind_fn I.kIn self T.fn) hl ?_)
  refine codeAny_mono (G.run _ X.stack _ _ ⟨Value.ref (hp.objs.size + 1) :: us, kw⟩ (Value.ref (hp.objs.size + 1) :: ws) _ _ E0 (hr.make C us kw) (I2.env0.make C us kw) (bind _ _ I2.kIn ll) rv q0) fun r s' z => ?_
  cases r with
  | error er => exact (show False from z).elim
  | ok fl =>
    cases fl with
    | ret u =>
      obtain ⟨v, H2, os2, bare2, un2, hok2, rv2, ev, q2⟩ := z
      subst ev
      exact ⟨rv2, I2.after ⟨V.ref (hp.objs.size + 1), H2, os2, bare2, un2, hok2, rfl, q2⟩⟩
    | next => exact False.elim z
    | brk => exact False.elim z
    | cont => exact False.elim z
theorem pe_mkE (T : ExcI X.K C fI) (G : FnOk X.prog X.w X.K X.mg X.base CX0 k fI fd ps sp) (hr : Room (k + 1) X.A) (hb : Binds X.K fd ps []) (hg : Gl X x) (hm : X.mg x = some (.ref C)) (ha : PA X (e :: es) t)
    (hdb : (x == ("__debug__" : Str)) = false := by decide) (he : starEach (e :: es) X.env = (false, eval e X.env) :: starEach es X.env := by rfl) (hpl : (backTo pos (starEach es X.env)).any (·.1) = false := by rfl) :
    PE X (.Call (.Name x p) (e :: es) [] pos) (tMkE C sp t) := by
  refine ⟨fun pins s σ H Q I h => ?_⟩
  refine wpAny_Call_Name_kw (ld_glob I hg hm ?_ hdb)
  refine PySem.W.callWith_K (h₀ := X.base) I.ok.mod.kin T.ox.kC (thn (ha.run pos pins s σ H _ I h) fun us s1 ⟨vs, H1, I1, r1, hz, q1⟩ => ⟨I1.kIn, ?_⟩) he hpl
  show wpAny _ _ (call (.ref C) us) _ _ _
  have hl : us.length ≤ sizeLine := by
    rw [← Paired.length r1, sizeLine_eq]
    omega
  refine run_mkE T G hr I1 hl (fun a => .cons rfl r1) (fun a s' kin ll => ?_) q1
  have b := hb s' (.ref a :: us) kin (by rw [List.append_nil]; exact ll)
  rw [List.append_nil] at b
  exact b
theorem pe_mkK {r : List Value → List Value} {rV : List V → List V} (T : ExcI X.K C fI) (G : FnOk X.prog X.w X.K X.mg X.base CX0 k fI fd ps sp) (hr : Room (k + 1) X.A)
    (hb : ∀ (a : Addr) (ws : List Value) (s' : Shared), X.K.In s'.heap → (Value.ref a :: r ws).length = ps.length → BindsTo s' fd ⟨[.ref a], ks.zip ws⟩ (ps.zip (.ref a :: r ws)))
    (hrel : ∀ {zs : List V} {ws : List Value}, Vals zs ws → Vals (rV zs) (r ws)) (hg : Gl X x) (hm : X.mg x = some (.ref C)) (hkw : PK X kws tk)
    (hall : (backToKw pos (keywordEach kws X.env)).all (·.1.isSome) = true := by rfl) (hks : (backToKw pos (keywordEach kws X.env)).filterMap (·.1) = ks := by rfl)
    (hdb : (x == ("__debug__" : Str)) = false := by decide) (hpl : ((backTo pos (starEach [] X.env)).any (·.1) || (backToKw pos (keywordEach kws X.env)).any (·.1.isNone)) = false := by rfl) :
    PE X (.Call (.Name x p) [] kws pos) (tMkK C sp rV tk) := by
  refine ⟨fun pins s σ H Q I h => ?_⟩
  refine wpAny_Call_Name_kw (ld_glob I hg hm ?_ hdb)
  refine PySem.W.callWith_KW0 (h₀ := X.base) I.ok.mod.kin T.ox.kC hall ?_ hpl
  refine thn (hkw.run pos pins s σ H _ I h) fun ws s2 ⟨zs, H2, I2, rz, q2⟩ => ⟨I2.kIn, ?_⟩
  rw [hks]
  exact run_mkE (us := []) T G hr I2 (Nat.zero_le _) (fun a => .cons rfl (hrel rz)) (fun a s' kin ll => hb a ws s' kin ll) q2
/-- C(), C without an __init__ of its own -/
def tMk0 (C : Addr) : TE := fun _ H Q => ∀ a, H a = none → Q (.ref a) (upd H a (exo a C none))
theorem pe_mk0 {bmB : List Value} {B newId initId : String} (F : ExcBaseFacts B newId initId bmB) (q : PySem.W.excIn X.K C bmB newId = true) (gC : X.mg x = some (.ref C)) (kC : PySem.W.keepIn X.K (.ref C) = true) (hg : Gl X x)
    (hdb : (x == ("__debug__" : Str)) = false := by decide) : PE X (.Call (.Name x p) [] [] pos) (tMk0 C) := by
  refine ⟨fun pins s σ H Q I h => ?_⟩
  refine wpAny_Call_Name_kw (ld_glob I hg gC ?_ hdb)
  refine PySem.W.callWith_K0 I.kIn kC ?_
  show wpAny _ _ (call (.ref C) []) _ _ _
  obtain ⟨bm, N, nm, qn, bs, hdct, sn, sub, ab, col, dd, k0, k1, k2, k3, k5, mN, hC, hN, hni, T⟩ := exc_obj I.kIn q
  refine wpAny_call_exc_subT F T hC hN hni (fun h' a hm => ?_) (Nat.zero_le _)
  have hn : H a = none := I.hok.gone hm.new
  obtain ⟨t0, ht, _, _⟩ := hm.there
  exact ⟨.ref a, upd H a (exo a C none), I.laidN hm.keeps hm.new hn (exo_ok ht), rfl, h a hn⟩
end
end Own

set_option Elab.async false
set_option linter.all false
set_option maxRecDepth 100000
set_option maxHeartbeats 4000000
/-! error classes whose __init__ keeps its arguments as fields: made by place and by names -/
namespace Own
open PySem PySem.Spec PyProof.Rows L2
/-- all but what stands at a (and tables) stays -/
def But1 (a : Addr) (H H' : Hp) : Prop := ∀ b o, b ≠ a → H b = some o → H' b = some o
def spInit1 (C : Addr) (f : Str) : Sp := fun vs H Q _ => ∃ (a : Addr) (v : V), vs = [.ref a, v] ∧ H a = some (exo a C none) ∧ ∀ H', But1 a H H' → ExcAt H' a C [(f, v)] → Q .non H'
def spInit2 (C : Addr) (f g : Str) : Sp := fun vs H Q _ => ∃ (a : Addr) (v w : V), vs = [.ref a, v, w] ∧ H a = some (exo a C none) ∧ ∀ H', But1 a H H' → ExcAt H' a C [(g, w), (f, v)] → Q .non H'
theorem init1_end {H : Hp} {a C dx : Addr} {f : Str} {v : V} (ha : H a = some (exo a C none)) (hd : H dx = none) (ne : dx ≠ a) :
    But1 a H (upd (upd H dx (exd dx [(f, v)])) a (exo a C (some dx))) ∧ ExcAt (upd (upd H dx (exd dx [(f, v)])) a (exo a C (some dx))) a C [(f, v)] := by
  refine ⟨fun b o hb e => ?_, ⟨some dx, upd_same, .inr ⟨dx, rfl, ?_⟩⟩⟩
  · rw [upd_ne hb, upd_ne (ne_of_none e hd)]
    exact e
  · rw [upd_ne ne]
    exact upd_same
theorem init2_end {H : Hp} {a C dx : Addr} {f g : Str} {v w : V} (ha : H a = some (exo a C none)) (hd : H dx = none) (ne : dx ≠ a) :
    But1 a H (upd (upd (upd H dx (exd dx [(f, v)])) a (exo a C (some dx))) dx (exd dx [(g, w), (f, v)])) ∧ ExcAt (upd (upd (upd H dx (exd dx [(f, v)])) a (exo a C (some dx))) dx (exd dx [(g, w), (f, v)])) a C [(g, w), (f, v)] := by
  refine ⟨fun b o hb e => ?_, ⟨some dx, ?_, .inr ⟨dx, rfl, upd_same⟩⟩⟩
  · have nb := ne_of_none e hd
    rw [upd_ne nb, upd_ne hb, upd_ne nb]
    exact e
  · rw [upd_ne ne.symm]
    exact upd_same
/-- what is known of a class of one field -/
structure E1 (P : Program) (w : World) (K : PySem.W.Frag) (mg : Str → Option Value) (base : Heap) (x f : Str) (C : Addr) : Prop where
  g : mg x = some (.ref C)
  ec : ExcC K C
  no : PySem.W.findIn K (.ref C) f = some none
  ex : ∃ (fI : Addr) (fd : FuncData), ExcI K C fI ∧ FnOk P w K mg base CX0 1 fI fd ["self", f] (spInit1 C f) ∧ Binds K fd ["self", f] [] ∧ ∀ (a : Addr) (u : Value) (s' : Shared), BindsTo s' fd ⟨[.ref a], [(f, u)]⟩ [("self", .ref a), (f, u)]
structure E2 (P : Program) (w : World) (K : PySem.W.Frag) (mg : Str → Option Value) (base : Heap) (x f h : Str) (C : Addr) : Prop where
  g : mg x = some (.ref C)
  ec : ExcC K C
  no : PySem.W.findIn K (.ref C) f = some none
  no2 : PySem.W.findIn K (.ref C) h = some none
  ex : ∃ (fI : Addr) (fd : FuncData), ExcI K C fI ∧ FnOk P w K mg base CX0 1 fI fd ["self", f, h] (spInit2 C f h) ∧ Binds K fd ["self", f, h] [] ∧ ∀ (a : Addr) (u v : Value) (s' : Shared), BindsTo s' fd ⟨[.ref a], [(h, v), (f, u)]⟩ [("self", .ref a), (f, u), (h, v)]
/-- a new exception that holds the value -/
def tE1 (C : Addr) (f : Str) (te : TE) : TE := fun σ H Q => te σ H fun v H1 => ∀ a H2, H1 a = none → (∀ b o, H1 b = some o → H2 b = some o) → ExcAt H2 a C [(f, v)] → Q (.ref a) H2
def tE2 (C : Addr) (f h : Str) (te tu : TE) : TE := fun σ H Q => te σ H fun v H1 => tu σ H1 fun u H2 => ∀ a H3, H2 a = none → (∀ b o, H2 b = some o → H3 b = some o) → ExcAt H3 a C [(h, u), (f, v)] → Q (.ref a) H3
def tE2k (C : Addr) (f h : Str) (te tu : TE) : TE := fun σ H Q => te σ H fun u H1 => tu σ H1 fun v H2 => ∀ a H3, H2 a = none → (∀ b o, H2 b = some o → H3 b = some o) → ExcAt H3 a C [(h, u), (f, v)] → Q (.ref a) H3
def tE0 (C : Addr) : TE := fun _ H Q => ∀ a H2, H a = none → (∀ b o, H b = some o → H2 b = some o) → ExcAt H2 a C [] → Q (.ref a) H2
theorem but_new {H H' : Hp} {a : Addr} {o : HO} (n : H a = none) (b : But1 a (upd H a o) H') : ∀ c u, H c = some u → H' c = some u := fun c u e => b c u (ne_of_none e n) (by rw [upd_ne (ne_of_none e n)]; exact e)
section
variable {X : Cx} {e e2 : Expr} {te tu : TE} {x f h : Str} {p pos kp kp2 : Pos} {C : Addr}
theorem PE.imp {t t' : TE} (hp : PE X e t) (k : ∀ σ H Q, t' σ H Q → t σ H Q) : PE X e t' := ⟨fun pins s σ H Q I q => hp.run pins s σ H Q I (k σ H Q q)⟩
theorem TE_mono_of {te : TE} : True := trivial
theorem pe_E1 (E : E1 X.prog X.w X.K X.mg X.base x f C) (hr : Room 2 X.A) (hg : Gl X x) (he : PE X e te) (mono : ∀ σ H Q Q', (∀ v H1, Q v H1 → Q' v H1) → te σ H Q → te σ H Q')
    (hdb : (x == ("__debug__" : Str)) = false := by decide) (hs : starEach [e] X.env = (false, eval e X.env) :: starEach [] X.env := by rfl) : PE X (.Call (.Name x p) [e] [] pos) (tE1 C f te) := by
  obtain ⟨fI, fd, T, G, hb, _⟩ := E.ex
  refine PE.imp (pe_mkE (k := 1) T G hr hb hg E.g (pa_cons he pa_nil hs) hdb hs (by rfl)) fun σ H Q q => ?_
  refine mono σ H _ _ (fun v H1 q1 => ?_) q
  refine ⟨by show 1 ≤ 1000; decide, fun a na => ⟨a, v, rfl, upd_same, fun H2 b x2 => ⟨rfl, q1 a H2 na (but_new na b) x2⟩⟩⟩
theorem pe_E1k (E : E1 X.prog X.w X.K X.mg X.base x f C) (hr : Room 2 X.A) (hg : Gl X x) (he : PE X e te) (mono : ∀ σ H Q Q', (∀ v H1, Q v H1 → Q' v H1) → te σ H Q → te σ H Q')
    (hdb : (x == ("__debug__" : Str)) = false := by decide) : PE X (.Call (.Name x p) [] [⟨some f, e, kp⟩] pos) (tE1 C f te) := by
  obtain ⟨fI, fd, T, G, _, hb⟩ := E.ex
  refine PE.imp (pe_mkK (k := 1) (ks := [f]) (r := id) (rV := id) T G hr (fun a ws s' _ hl => ?_) (fun z => z) hg E.g (pk_cons he pk_nil) (by rfl) (by rfl) hdb (by rfl)) fun σ H Q q => ?_
  · match ws, hl with
    | [u], _ => exact hb a u s'
  · refine mono σ H _ _ (fun v H1 q1 => ?_) q
    exact fun a na => ⟨a, v, rfl, upd_same, fun H2 b x2 => ⟨rfl, q1 a H2 na (but_new na b) x2⟩⟩
theorem pe_E2 (E : E2 X.prog X.w X.K X.mg X.base x f h C) (hr : Room 2 X.A) (hg : Gl X x) (he : PE X e te) (he2 : PE X e2 tu) (mono : ∀ σ H Q Q', (∀ v H1, Q v H1 → Q' v H1) → te σ H Q → te σ H Q') (mono2 : ∀ σ H Q Q', (∀ v H1, Q v H1 → Q' v H1) → tu σ H Q → tu σ H Q')
    (hdb : (x == ("__debug__" : Str)) = false := by decide) (hs : starEach [e, e2] X.env = (false, eval e X.env) :: starEach [e2] X.env := by rfl) (hs2 : starEach [e2] X.env = (false, eval e2 X.env) :: starEach [] X.env := by rfl) (hpl : (backTo pos (starEach [e2] X.env)).any (·.1) = false := by rfl) :
    PE X (.Call (.Name x p) [e, e2] [] pos) (tE2 C f h te tu) := by
  obtain ⟨fI, fd, T, G, hb, _⟩ := E.ex
  refine PE.imp (pe_mkE (k := 1) T G hr hb hg E.g (pa_cons he (pa_cons he2 pa_nil hs2) hs) hdb hs hpl) fun σ H Q q => ?_
  refine mono σ H _ _ (fun v H1 q1 => mono2 σ H1 _ _ (fun u H2 q2 => ?_) q1) q
  exact ⟨by show 2 ≤ 1000; decide, fun a na => ⟨a, v, u, rfl, upd_same, fun H3 b x3 => ⟨rfl, q2 a H3 na (but_new na b) x3⟩⟩⟩
/-- x(h = e, f = e2) -/
theorem pe_E2k (E : E2 X.prog X.w X.K X.mg X.base x f h C) (hr : Room 2 X.A) (hg : Gl X x) (he : PE X e te) (he2 : PE X e2 tu) (mono : ∀ σ H Q Q', (∀ v H1, Q v H1 → Q' v H1) → te σ H Q → te σ H Q') (mono2 : ∀ σ H Q Q', (∀ v H1, Q v H1 → Q' v H1) → tu σ H Q → tu σ H Q')
    (hdb : (x == ("__debug__" : Str)) = false := by decide) : PE X (.Call (.Name x p) [] [⟨some h, e, kp⟩, ⟨some f, e2, kp2⟩] pos) (tE2k C f h te tu) := by
  obtain ⟨fI, fd, T, G, _, hb⟩ := E.ex
  refine PE.imp (pe_mkK (k := 1) (ks := [h, f]) (r := List.reverse) (rV := List.reverse) T G hr (fun a ws s' _ hl => ?_) (fun z => ?_) hg E.g (pk_cons he (pk_cons he2 pk_nil)) (by rfl) (by rfl) hdb (by rfl)) fun σ H Q q => ?_
  · have hl2 : ws.length = 2 := by simpa using hl
    match ws, hl2 with
    | [u, v], _ => exact hb a v u s'
  · rename_i zs ws
    induction z with
    | nil => exact .nil
    | cons r1 r2 ih =>
      rw [List.reverse_cons, List.reverse_cons]
      exact ih.append (.cons r1 .nil)
  · refine mono σ H _ _ (fun u H1 q1 => mono2 σ H1 _ _ (fun v H2 q2 => ?_) q1) q
    exact fun a na => ⟨a, v, u, rfl, upd_same, fun H3 b x3 => ⟨rfl, q2 a H3 na (but_new na b) x3⟩⟩
theorem pe_E0 {bmB : List Value} {B newId initId : String} (F : ExcBaseFacts B newId initId bmB) (q : PySem.W.excIn X.K C bmB newId = true) (gC : X.mg x = some (.ref C)) (kC : PySem.W.keepIn X.K (.ref C) = true) (hg : Gl X x)
    (hdb : (x == ("__debug__" : Str)) = false := by decide) : PE X (.Call (.Name x p) [] [] pos) (tE0 C) := by
  refine PE.imp (pe_mk0 F q gC kC hg hdb) fun σ H Q q a na => q a _ na (fun b o z => ?_) ⟨none, upd_same, .inl ⟨rfl, rfl⟩⟩
  rw [upd_ne (ne_of_none z na)]
  exact z
end
theorem mono_var (i : Nat) : ∀ (σ : L2.St) (H : Hp) (Q Q' : VK), (∀ v H1, Q v H1 → Q' v H1) → tVar i σ H Q → tVar i σ H Q' := fun σ H Q Q' k ⟨v, h, q⟩ => ⟨v, h, k _ _ q⟩
end Own

set_option Elab.async false
set_option linter.all false
set_option maxRecDepth 100000
set_option maxHeartbeats 4000000
/-! raise C(e), C an error class of one field: the error's own dict is new and holds the value -/
namespace Own
open PySem PySem.Spec PyProof.Rows L2
def spIni (C : Addr) (f : Str) : Sp := fun vs H Q _ => ∃ (a : Addr) (v : V), vs = [.ref a, v] ∧ H a = some (exo a C none) ∧ ∀ dx, H dx = none → dx ≠ a → Q .non (upd (upd H dx (exd dx [(f, v)])) a (exo a C (some dx)))
/-- what is known of a class of one field that is raised -/
structure EI (P : Program) (w : World) (K : PySem.W.Frag) (mg : Str → Option Value) (base : Heap) (x f : Str) (C : Addr) : Prop where
  g : mg x = some (.ref C)
  ex : ∃ (fI : Addr) (fd : FuncData), ExcI K C fI ∧ FnOk P w K mg base CX0 1 fI fd ["self", f] (spIni C f) ∧ Binds K fd ["self", f] []
def tRs (C : Addr) (f : Str) (te : TE) : L2.St → Hp → XK → Prop := fun σ H Q => te σ H fun v H1 => ∀ d H2, H1 d = none → (∀ b o, H1 b = some o → H2 b = some o) → H2 d = some (.xd [(f, v)]) → Q (.ref C) (some d) H2
section
variable {X : Cx} {e : Expr} {te : TE} {x f : Str} {p pos pos2 : Pos} {C : Addr}
theorem pmk_EI (E : EI X.prog X.w X.K X.mg X.base x f C) (hr : Room 2 X.A) (hg : Gl X x) (he : PE X e te) (mono : ∀ σ H Q Q', (∀ v H1, Q v H1 → Q' v H1) → te σ H Q → te σ H Q')
    (hdb : (x == ("__debug__" : Str)) = false := by decide) (hs : starEach [e] X.env = (false, eval e X.env) :: starEach [] X.env := by rfl) (hpl : (backTo pos (starEach [] X.env)).any (·.1) = false := by rfl) : PMk X (.Call (.Name x p) [e] [] pos) (tRs C f te) := by
  obtain ⟨fI, fd, T, G, hb⟩ := E.ex
  intro pins s σ H Q I h
  refine pmk_oex (CX := CX0) (ps := ["self", f]) (dvs := []) T.ox T.init T.fn G hr hb .nil pass0 hg E.g (pa_cons he pa_nil hs) hdb hs hpl pins s σ H Q I ?_
  refine mono σ H _ _ (fun v H1 q1 => ?_) h
  refine ⟨by show 1 ≤ 1000; decide, fun a na => ⟨a, v, rfl, upd_same, fun dx nd ne => ⟨rfl, dx, [(f, v)], upd_same, ?_, ?_, ?_⟩⟩⟩
  · rw [upd_ne ne]
    exact upd_same
  · rw [upd_ne ne] at nd
    exact nd
  · have nd1 : H1 dx = none := by
      rw [upd_ne ne] at nd
      exact nd
    refine q1 dx _ nd1 (fun b o e => ?_) upd_same
    have n1 := ne_of_none e nd1
    have n2 := ne_of_none e na
    rw [upd_ne n1, del_ne n2, upd_ne n2, upd_ne n1, upd_ne n2]
    exact e
theorem ps_EI {W : WX} (hc : X.calm = true) (tk : Takes X W) (E : EI X.prog X.w X.K X.mg X.base x f C) (hr : Room 2 X.A) (hg : Gl X x) (he : PE X e te) (mono : ∀ σ H Q Q', (∀ v H1, Q v H1 → Q' v H1) → te σ H Q → te σ H Q')
    (hdb : (x == ("__debug__" : Str)) = false := by decide) (hs : starEach [e] X.env = (false, eval e X.env) :: starEach [] X.env := by rfl) (hpl : (backTo pos (starEach [] X.env)).any (·.1) = false := by rfl) :
    PS X (.Raise (some (.Call (.Name x p) [e] [] pos)) none pos2) (fun _ σ H => tRs C f te σ H fun cls d H' => W cls d σ H') := ps_raise hc tk (pmk_EI E hr hg he mono hdb hs hpl)
end
end Own

set_option Elab.async false
set_option linter.all false
set_option maxRecDepth 100000
set_option maxHeartbeats 4000000
/-! try: .. except A as n: .. except B as n: .. (several clauses, each with its name) -/
namespace Own
open PySem PySem.Spec PyProof.Rows L2
abbrev Sui := Addr → Value → Option Addr → TS
/-- behind a suite its name's slot is empty -/
def gone (i : Nat) (D : Ends) : Ends := { nx := fun σ H => D.nx (σ.set i none) H, rt := D.rt, bk := fun σ H => D.bk (σ.set i none) H, ct := fun σ H => D.ct (σ.set i none) H }
/-- what the clauses wish, one behind the other: class, slot of the name, suite -/
def wAll (K : PySem.W.Frag) (out : WX) (D : Ends) : List (Value × Nat × Sui) → WX
  | [] => out
  | (c, i, ts) :: r => fun k d σ H => ∃ b, PySem.W.exmOne K k c = some b ∧ (b = true → ∀ a, H a = none → ts a k d (gone i D) (σ.set i (some (.ref a))) H) ∧ (b = false → wAll K out D r k d σ H)
inductive Clauses (X : Cx) : List ExceptHandler → List (Value × Nat × Sui) → Prop
  | nil : Clauses X [] []
  | cons {x n : Str} {c : Value} {i : Nat} {ts : Sui} {b : Stmt} {bs : List Stmt} {p q : Pos} {hs : List ExceptHandler} {l : List (Value × Nat × Sui)} (names : Names X x c) (slot : X.N[i]? = some n) (loc : X.env.kindOf n = some .local)
      (body : ∀ (a : Addr) (o : Obj) (k : Value) (d : Option Addr) (pn : List (Addr × Obj)), Zc k d o → (∃ vs, o.data = .fields vs) → PSs (X.suite a ((a, o) :: pn)) (b :: bs) (ts a k d)) (rest : Clauses X hs l) :
      Clauses X (.ExceptHandler (some (.Name x p)) (some n) (b :: bs) q :: hs) ((c, i, ts) :: l)
/-- an exception of the class k (its dict d) lies at a, caught by this frame; sI is the state without it -/
structure Come (X : Cx) (pins : List (Addr × Obj)) (σ : L2.St) (H : Hp) (B : Heap) (a : Addr) (k : Value) (d : Option Addr) (sI s : Shared) : Prop where
  inv : Inv X pins σ H sI
  base : ∀ c o, sI.heap.get? c = some o → c ∉ frs X.stack → B.get? c = some o
  fly : HandSPX.FlyingZ B (X.env :: X.outer) a (Zc k d) s.heap
  slots : sI.heap.UpToSlots s.heap
  off : H a = none
  os : s.os = sI.os
  bare : AllBare s.gens
section
variable {X : Cx} {pins : List (Addr × Obj)} {σ : L2.St} {H : Hp} {B : Heap} {a : Addr} {k : Value} {d : Option Addr} {sI s : Shared}
theorem Come.now (c : Come X pins σ H B a k d sI s) : Inv X pins σ H s := Inv.landed c.inv c.base c.fly.1 c.slots c.os c.bare
theorem Come.again (c : Come X pins σ H B a k d sI s) {h : Heap} (f : HandSPX.FlyingZ B (X.env :: X.outer) a (Zc k d) h) (u : s.heap.UpToSlots h) : Come X pins σ H B a k d sI { s with heap := h } :=
  ⟨c.inv, c.base, f, Heap.UpToSlots.trans c.slots u, c.off, c.os, c.bare⟩
theorem Come.held (c : Come X pins σ H B a k d sI s) (hf : X.env.frame = some X.env.locals) : ∃ o vs, s.heap.get? a = some o ∧ Zc k d o ∧ o.data = .fields vs ∧ Inv (X.suite a ((a, o) :: (X.pn ++ pins))) [] σ H s := by
  obtain ⟨o, vs, e, z, dt⟩ := c.fly.there
  have out : a ∉ frs (X.env :: X.outer) := by
    intro m
    obtain ⟨_, o2, e2, bad⟩ := c.fly.2.2.1.mem m
    rw [e] at e2
    rw [← Option.some.inj e2] at bad
    exact bad _ dt
  have mem : ∀ v ∈ X.env :: X.outer, v.frame = some a → False := fun v hv e3 => out (List.mem_filterMap.mpr ⟨v, hv, e3⟩)
  refine ⟨o, vs, e, z, dt, Inv.suite c.now e dt c.off (fun q => mem X.env List.mem_cons_self (by rw [hf, q])) fun q => ?_⟩
  obtain ⟨v, hv, e3⟩ := List.mem_filterMap.mp q
  exact mem v (List.mem_cons_of_mem _ hv) e3
theorem run_clauses {hds : List ExceptHandler} {l : List (Value × Nat × Sui)} {out : WX} {D : Ends} (st : X.stack = X.env :: X.outer) (hf : X.env.frame = some X.env.locals) (nd : X.N.Nodup) (tk : Takes X out) (C : Clauses X hds l) (c : Come X pins σ H B a k d sI s)
    (w : wAll X.K out D l k d σ H) : wpAny (model X.prog X.w) X.A (handleBy (.ref a) X.env hds) (SP X pins D) X.xe s := by
  have ok := c.inv.ok
  induction C with
  | nil =>
    obtain ⟨_, _, _, o, vs, T, oT, ts, e, z, dt, e1, _⟩ := id c.fly
    refine wpAny_handleBy_nil ?_
    unfold PySem.passOn
    refine wpAny_bind (wpAny_field e dt e1 ?_)
    have noT : ¬ (Value.ref T == Value.none) = true := by simp
    rw [if_neg noT]
    have go : wpAny (model X.prog X.w) X.A (setFlight (.ref a) X.env.frame) (fun _ s2 => wpAny (model X.prog X.w) X.A (throw (.ref a) : Sem Flow) (SP X pins D) X.xe s2) X.xe s := by
      rw [hf]
      refine HandSPX.setFlight_upZ c.fly fun g hg ug => wpAny_throw (tk _ _ ⟨a, B, sI, pins, σ, H, k, d, rfl, c.inv, c.base, Heap.UpToSlots.trans c.slots ug, .inr (.inr ?_), c.off, c.os, c.bare, w⟩)
      rw [st]
      exact hg
    first
      | exact wpAny_bind (wpAny_pure (wpAny_bind go))
      | exact wpAny_bind go
  | @cons x n cv i ts b0 bs p q hs2 l2 names slot loc body rest ih =>
    obtain ⟨b, hit, yes, no⟩ := w
    obtain ⟨o, vs, e, z, dt, S⟩ := c.held hf
    refine wpAny_handleBy_cons (codeAny_handlers_test ?_) (fun q => by cases q)
    have ty : PySem.W.Looks (model X.prog X.w) s.heap (typeOf (.ref a)) k := by
      intro A Q E s2 keep q
      refine wpAny_typeOf_ref (keep _ _ e) ?_
      rw [z.1]
      exact q
    have look := PySem.W.exm_one (M := model X.prog X.w) c.now.kIn ty hit
    have named : ∀ {Q E : Value → Shared → Prop}, Q cv s → wpAny (model X.prog X.w) (X.A.mark (some (.ref a))) (eval (.Name x p) X.env) Q E s := by
      intro Q E q
      obtain ⟨h1, h2, h3⟩ := names
      rcases h3 with h3 | ⟨h3, h4, h5⟩
      · exact ld_glob (X := X.suite a ((a, o) :: (X.pn ++ pins))) S h1 h3 q h2
      · exact ld_blt (X := X.suite a ((a, o) :: (X.pn ++ pins))) S h1 h3 h4 q h5 h2
    refine named (look.here ?_)
    cases b with
    | false => exact ih (no rfl)
    | true =>
      refine codeAny_handlers_suite_as (HandSPX.lands_againZ c.fly fun g fg ug => ?_)
      have c2 := c.again fg ug
      obtain ⟨o2, vs2, e2, z2, dt2, S2⟩ := c2.held hf
      refine store_ok (X := X.suite a ((a, o2) :: (X.pn ++ pins))) (v := .ref a) S2 nd slot (.inl loc) rfl (fun s5 S5 => ?_) (.inr loc)
      refine wpAny_mono ((body a o2 k d (X.pn ++ pins) z2 ⟨_, dt2⟩).run [] s5 _ H _ S5 (yes rfl a c.off)) (fun f s6 r => ?_) fun _ _ bad => bad.elim
      have leave : ∀ {σ6 : L2.St} {H6 : Hp} {R : Shared → Prop}, Inv (X.suite a ((a, o2) :: (X.pn ++ pins))) [] σ6 H6 s6 → (∀ s7, Inv X pins (σ6.set i none) H6 s7 → R s7) → wpAny (model X.prog X.w) X.A (do bindName X.env n .none; unbindBehindTheSuite X.env n q) (fun _ s7 => R s7) X.xe s6 := by
        intro σ6 H6 R S6 r
        exact gone_ok (Inv.unsuite S6 ok) nd slot loc r
      match f, r with
      | .next, ⟨_, _, S6, r⟩ => exact leave S6 fun _ J => ⟨_, _, J, r⟩
      | .brk, ⟨_, _, S6, r⟩ => exact leave S6 fun _ J => ⟨_, _, J, r⟩
      | .cont, ⟨_, _, S6, r⟩ => exact leave S6 fun _ J => ⟨_, _, J, r⟩
      | .ret u, ⟨_, _, _, S6, rv, r⟩ => exact leave S6 fun _ J => ⟨_, _, _, J, rv, r⟩
theorem ps_tryAll {body : List Stmt} {h0 : ExceptHandler} {hds : List ExceptHandler} {l : List (Value × Nat × Sui)} {pos : Pos} {tb : WX → TS} {out : WX} (st : X.stack = X.env :: X.outer) (hf : X.env.frame = some X.env.locals) (nd : X.N.Nodup) (tk : Takes X out)
    (hb : ∀ (W : WX) (pn : List (Addr × Obj)) (xe : Value → Shared → Prop), Takes (X.tr pn xe) W → PassesOwn (model X.prog X.w) X.A X.env xe → PSs (X.tr pn xe) body (tb W)) (C : Clauses X (h0 :: hds) l) :
    PS X (.Try body (h0 :: hds) [] [] pos) (fun D σ H => tb (fun k d σ1 H1 => σ1.length = X.N.length → wAll X.K out D l k d σ1 H1) D σ H) := by
  refine ⟨fun pins s σ H D I w => wpAny_Try_except ?_⟩
  have ok := I.ok
  have fr : X.A.frames = some (X.env :: X.outer) := by rw [ok.frames, st]
  let xe : Value → Shared → Prop := fun e s1 => wpAny (model X.prog X.w) X.A (noteFrame e X.env) (fun _ s2 => wpAny (model X.prog X.w) X.A (setFlight e none) (fun _ s3 => wpAny (model X.prog X.w) X.A (handleBy e X.env (h0 :: hds)) (SP X pins D) X.xe s3) X.xe s2) X.xe s1
  have tk2 : Takes (X.tr (X.pn ++ pins) xe) (fun k d σ1 H1 => σ1.length = X.N.length → wAll X.K out D l k d σ1 H1) := by
    rintro u s1 ⟨a, B, sI, pins1, σ1, H1, k, d, rfl, J, nb, up, sky, na, os, ag, w1⟩
    have sky1 : Sky B (X.env :: X.outer) a (Zc k d) X.env.locals s1.heap := by
      rw [← st]
      exact sky
    refine Sky.land Zc.steady fr hf sky1 fun g fg ug => ?_
    exact run_clauses st hf nd tk C ⟨Inv.ofTry J ok, nb, fg, Heap.UpToSlots.trans up ug, na, os, ag⟩ (w1 J.len)
  refine wpAny_mono ((hb _ (X.pn ++ pins) xe tk2 PassesOwn.looking).run [] s σ H D (Inv.toTry I _) w) (fun f s1 r => ?_) fun _ _ x => x
  match f, r with
  | .next, ⟨_, _, J, r⟩ => exact wpAny_execs_nil ⟨_, _, Inv.ofTry J ok, r⟩
  | .brk, ⟨_, _, J, r⟩ => exact ⟨_, _, Inv.ofTry J ok, r⟩
  | .cont, ⟨_, _, J, r⟩ => exact ⟨_, _, Inv.ofTry J ok, r⟩
  | .ret u, ⟨_, _, _, J, rv, r⟩ => exact ⟨_, _, _, Inv.ofTry J ok, rv, r⟩
end
end Own

set_option Elab.async false
set_option linter.all false
set_option maxRecDepth 100000
namespace K17
open PySem PySem.Spec PyProof.Rows L2 Own
def topS (i : Nat) : Stmt := PySem.Challenge.pw_lastbell_k17_lots_refused.main.body.getD i (.Pass ⟨0, 0, 0, 0⟩)
abbrev sStream : Stmt := topS 51
abbrev sDraw : Stmt := topS 52
abbrev sPick : Stmt := topS 53
abbrev sMixed : Stmt := topS 54
abbrev sStepping : Stmt := topS 57
abbrev sHouse : Stmt := topS 58
abbrev sIsInt : Stmt := topS 15
abbrev sIsNum : Stmt := topS 16
abbrev sIsList : Stmt := topS 17
abbrev sIsPlace : Stmt := topS 20
abbrev sIsRoad : Stmt := topS 21
abbrev sIsDoor : Stmt := topS 22
abbrev sWrongRoad : Stmt := topS 23
abbrev sComes : Stmt := topS 24
abbrev sWrongDoor : Stmt := topS 25
abbrev sInit : Stmt := inClass (topS 19) 0
abbrev sSame : Stmt := topS 55
abbrev sLaw : Stmt := topS 69
abbrev sLoose : Stmt := topS 56
abbrev sMade : Stmt := topS 59
abbrev sHanded : Stmt := topS 60
abbrev sLot : Stmt := topS 61
abbrev sMet : Stmt := topS 62
abbrev sAsks : Stmt := topS 63
abbrev sLess : Stmt := topS 64
abbrev sNoLots : Stmt := topS 65
abbrev sHouR : Stmt := topS 66
abbrev sLotR : Stmt := topS 67
abbrev sRestR : Stmt := topS 68
abbrev sNeedHouse : Stmt := topS 27
abbrev sNeedBell : Stmt := topS 28
abbrev sGivenLot : Stmt := topS 29
abbrev sIsLot : Stmt := topS 30
abbrev sMost : Stmt := topS 36
abbrev sMostPlan : Stmt := topS 37
abbrev sLevels : Stmt := topS 38
abbrev sSteady : Stmt := topS 39
abbrev sLotBell : Stmt := topS 40
abbrev sIsMom : Stmt := topS 46
abbrev sIsLM : Stmt := topS 47
abbrev sWorth : Stmt := topS 48
abbrev sMomFor : Stmt := topS 49
abbrev sPlaces : Stmt := inClass (topS 19) 1
abbrev sRoads : Stmt := inClass (topS 19) 2
abbrev sDoors : Stmt := inClass (topS 19) 3
abbrev sHEq : Stmt := inClass (topS 19) 4
/-- the names that the law's helpers use must be the built-in ones -/
structure Bt (mg : Str → Option Value) : Prop where
  abs : mg "abs" = none
  int : mg "int" = none
  list : mg "list" = none
  len : mg "len" = none
  isi : mg "isinstance" = none
  tuple : mg "tuple" = none
  dict : mg "dict" = none
  bool : mg "bool" = none
  all : mg "all" = none
  zip : mg "zip" = none
  range : mg "range" = none
  enum : mg "enumerate" = none
  max : mg "max" = none
  str : mg "str" = none
  min : mg "min" = none
/-- all that was tracked stays but what stands at a and l -/
def But2 (a l : Addr) (H H' : Hp) : Prop := ∀ b o, b ≠ a → b ≠ l → H b = some o → H' b = some o
theorem But2.trans {a l : Addr} {H H1 H2 : Hp} (x : But2 a l H H1) (y : But2 a l H1 H2) : But2 a l H H2 := fun b o h1 h2 e => y b o h1 h2 (x b o h1 h2 e)
/-- the stream of draws: its list at a, the cells that are left at l -/
structure Strm (N : Int) (H : Hp) (a l : Addr) : Prop where
  ex : ∃ (xs : List Int) (c n m : Int), H a = some (.lst [.ref l, .int c, .int n, .int m]) ∧ H l = some (.lst (xs.map V.int)) ∧ xs.length ≤ 63 ∧ 0 ≤ c ∧ 0 ≤ n ∧ n ≤ N ∧ 0 ≤ m ∧ m < 2147483647
theorem Strm.ne {N : Int} {H : Hp} {a l : Addr} (x : Strm N H a l) : a ≠ l := by
  obtain ⟨xs, c, n, m, h1, h2, _⟩ := x.ex
  refine ne_of h1 h2 fun z => ?_
  have z1 := HO.lst.inj z
  cases xs with
  | nil => cases z1
  | cons y ys => cases z1
theorem Strm.mono {N M : Int} {H : Hp} {a l : Addr} (x : Strm N H a l) (h : N ≤ M) : Strm M H a l := by
  obtain ⟨xs, c, n, m, h1, h2, h3, h4, h5, h6, h7⟩ := x.ex
  exact ⟨xs, c, n, m, h1, h2, h3, h4, h5, Int.le_trans h6 h, h7⟩
theorem Strm.keep {N : Int} {H H' : Hp} {a l : Addr} (x : Strm N H a l) (k : ∀ b o, H b = some o → (∀ t, o ≠ .tbl t) → H' b = some o) : Strm N H' a l := by
  obtain ⟨xs, c, n, m, h1, h2, h3⟩ := x.ex
  exact ⟨xs, c, n, m, k _ _ h1 (fun t z => by cases z), k _ _ h2 (fun t z => by cases z), h3⟩
/-! ### lists of ints and of bools as data -/
theorem dp_ints {K : PySem.W.Frag} {H : Hp} : ∀ xs : List Int, DpAll K H (xs.map V.int) (xs.map PyData.int)
  | [] => .nil
  | x :: r => .cons (.int x) (dp_ints r)
theorem dp_bls {K : PySem.W.Frag} {H : Hp} : ∀ xs : List Bool, DpAll K H (xs.map V.bl) (xs.map PyData.bool)
  | [] => .nil
  | x :: r => .cons (.bl x) (dp_bls r)
theorem lay_ints : ∀ xs : List Int, PyData.canLayAll0 (xs.map PyData.int) = true ∧ PyData.depthAll (xs.map PyData.int) = 0
  | [] => ⟨rfl, rfl⟩
  | x :: r => by
    obtain ⟨h1, h2⟩ := lay_ints r
    constructor
    · show (PyData.canLay0 (.int x) && PyData.canLayAll0 (r.map PyData.int)) = true
      rw [h1] <;> rfl
    · show max (PyData.depth (.int x)) (PyData.depthAll (r.map PyData.int)) = 0
      rw [h2] <;> rfl
theorem lay_bls : ∀ xs : List Bool, PyData.canLayAll0 (xs.map PyData.bool) = true ∧ PyData.depthAll (xs.map PyData.bool) = 0
  | [] => ⟨rfl, rfl⟩
  | x :: r => by
    obtain ⟨h1, h2⟩ := lay_bls r
    constructor
    · show (PyData.canLay0 (.bool x) && PyData.canLayAll0 (r.map PyData.bool)) = true
      rw [h1] <;> rfl
    · show max (PyData.depth (.bool x)) (PyData.depthAll (r.map PyData.bool)) = 0
      rw [h2] <;> rfl
theorem sh_list {ds : List PyData} (h1 : PyData.canLayAll0 ds = true) (h2 : PyData.depthAll ds = 0) : SeqAt.shaped (.list ds) = true := by
  show (PyData.canLayAll0 ds && decide (PyData.depthAll ds + 1 ≤ 64)) = true
  rw [h1, h2]
  rfl
theorem sh_ints (xs : List Int) : SeqAt.shaped (.list (xs.map PyData.int)) = true := sh_list (lay_ints xs).1 (lay_ints xs).2
theorem sh_bls (xs : List Bool) : SeqAt.shaped (.list (xs.map PyData.bool)) = true := sh_list (lay_bls xs).1 (lay_bls xs).2
theorem eqv_bls : ∀ xs : List Bool, PyData.eqvAll (xs.map PyData.bool) (xs.map PyData.bool) = true
  | [] => rfl
  | x :: r => by
    show ((x == x) && PyData.eqvAll (r.map PyData.bool) (r.map PyData.bool)) = true
    rw [eqv_bls r, beq_self_eq_true] <;> rfl
end K17

set_option Elab.async false
set_option linter.all false
set_option maxRecDepth 100000
set_option maxHeartbeats 2000000
namespace K17
open PySem PySem.Spec PyProof.Rows L2 Own
theorem scDraw : FnScope ["_law_stream_here", "_law_many", "_law_cell", "_law_digit", "_law_mixed_here"] ["_law_stream_here", "_law_many"] (defScope sDraw) := ⟨rfl, rfl, rfl, by decide +kernel, rfl, by decide +kernel, by decide +kernel⟩
theorem scPick : FnScope ["_law_stream_here", "_law_things"] ["_law_stream_here", "_law_things"] (defScope sPick) := ⟨rfl, rfl, rfl, by decide +kernel, rfl, by decide +kernel, by decide +kernel⟩
theorem scStream : FnScope ["_law_script"] ["_law_script"] (defScope sStream) := ⟨rfl, rfl, rfl, by decide +kernel, rfl, by decide +kernel, by decide +kernel⟩
def spStream (K : PySem.W.Frag) : Sp := fun vs H Q _ => ∃ (s : Addr) (ns : List Int), vs = [.ref s] ∧ SqL K H s (ns.map V.int) ∧ ns.length ≤ 63 ∧
  ∀ H' a l, Same H H' → H a = none → H l = none → Strm 0 H' a l → Q (.ref a) H'
def spDraw : Sp := fun vs H Q _ => ∃ (a l : Addr) (N many : Int), vs = [.ref a, .int many] ∧ Strm N H a l ∧ 0 ≤ N ∧ N ≤ 1000000000 ∧ 0 < many ∧ many < 1073741824 ∧
  ∀ H' d, 0 ≤ d → d < many → But2 a l H H' → Strm (N + 1) H' a l → Q (.int d) H'
def spPick : Sp := fun vs H Q _ => ∃ (a l p : Addr) (N : Int) (xs : List V), vs = [.ref a, .ref p] ∧ Strm N H a l ∧ 0 ≤ N ∧ N ≤ 1000000000 ∧ p ≠ a ∧ p ≠ l ∧ H p = some (.lst xs) ∧ 0 < xs.length ∧ xs.length ≤ 1000 ∧
  ∀ H' v, v ∈ xs → But2 a l H H' → Strm (N + 1) H' a l → Q v H'
section
variable {P : Program} {w : World} {K : PySem.W.Frag} {mg : Str → Option Value} {base : Heap}
theorem ok_stream {f : Addr} {fd : FuncData} (F : Fun K "_law_stream" "_law_stream" sStream f fd) (T : Bt mg) : FnOk P w K mg base CX0 1 f fd ["_law_script"] (spStream K) := by
  refine F.ok scStream (fun vs H Q E h => ?_) (fun cdv A outer s H vs Q E hr h => ?_)
  · obtain ⟨s, ns, rfl, _⟩ := h
    rfl
  · obtain ⟨s0, ns, rfl, hS, hl, k⟩ := h
    refine ⟨_, pss_one (ps_ret (pe_lst (pa_cons (pe_callTy call_list_of (by rfl) T.list (by decide +kernel) (pa_cons (pv 0) pa_nil)) (pa_cons pe_int (pa_cons pe_int (pa_cons pe_int pa_nil)))))), ?_⟩
    refine ⟨_, rfl, s0, _, rfl, .inl hS, fun l hl0 => ⟨by show 4 ≤ sizeLine; decide, fun a ha => ?_⟩⟩
    have nal : a ≠ l := fun z => by
      rw [z, upd_same] at ha
      cases ha
    have ha0 : H a = none := by
      rw [upd_ne nal] at ha
      exact ha
    refine k _ a l (fun b o e => ?_) ha0 hl0 ⟨ns, 0, 0, 17, upd_same, ?_, hl, by decide, by decide, by decide, by decide, by decide⟩
    · rw [upd_ne (ne_of_none e ha0), upd_ne (ne_of_none e hl0)]
      exact e
    · rw [upd_ne nal.symm]
      exact upd_same
theorem but2_set {a l : Addr} {H H1 : Hp} {o : HO} (b : But2 a l H H1) : But2 a l H (upd H1 a o) := fun x y h1 h2 e => by
  rw [upd_ne h1]
  exact b x y h1 h2 e
theorem but2_setl {a l : Addr} {H H1 : Hp} {o : HO} (b : But2 a l H H1) : But2 a l H (upd H1 l o) := fun x y h1 h2 e => by
  rw [upd_ne h2]
  exact b x y h1 h2 e
theorem but2_new {a l p : Addr} {H H1 : Hp} {o : HO} (b : But2 a l H H1) (hp : H1 p = none) : But2 a l H (upd H1 p o) := fun x y h1 h2 e => by
  have z := b x y h1 h2 e
  rw [upd_ne (ne_of_none z hp)]
  exact z
theorem seq0 (n : Nat) : seqIndex? 0 (n + 1) = some 0 := by
  refine (ixN_seq (n := n + 1) (i := 0) (j := 0) ?_).1
  unfold ixN
  rw [if_pos (Int.le_refl 0), if_pos (by omega)]
  rfl
/-- the stream's state within a draw -/
structure Mid (a l : Addr) (n : Int) (H H' : Hp) (xs : List Int) (c m : Int) : Prop where
  ha : H' a = some (.lst [.ref l, .int c, .int n, .int m])
  hl : H' l = some (.lst (xs.map V.int))
  len : xs.length ≤ 63
  c0 : 0 ≤ c
  m0 : 0 ≤ m
  m1 : m < 2147483647
  but : But2 a l H H'
theorem Mid.ne {a l : Addr} {n : Int} {H H' : Hp} {xs : List Int} {c m : Int} (M : Mid a l n H H' xs c m) : a ≠ l := by
  refine ne_of M.ha M.hl fun z => ?_
  have z1 := HO.lst.inj z
  cases xs with
  | nil => cases z1
  | cons y ys => cases z1
theorem ok_draw {f : Addr} {fd : FuncData} (F : Fun K "_law_draw" "_law_draw" sDraw f fd) (T : Bt mg) : FnOk P w K mg base CX0 1 f fd ["_law_stream_here", "_law_many"] spDraw := by
  refine F.ok scDraw (fun vs H Q E h => ?_) (fun cdv A outer s H vs Q E hr h => ?_)
  · obtain ⟨a, l, N, many, rfl, _⟩ := h
    rfl
  · obtain ⟨a, l, N, many, rfl, S, hN0, hN1, hm0, hm1, k⟩ := h
    have nal := S.ne
    obtain ⟨xs, c, n, m, h1, h2, h3, h4, h5, h6, h7, h8⟩ := S.ex
    refine ⟨_, pss_cons (ps_asg (pe_op op_add (pe_ix ix_list (pv 0) pe_int (fun _ _ => rfl)) pe_int) (pg_sub (pv 0) pe_int set_list))
      (Evl.pss_cut (ps_while PassesOwn.never (PW.pt (pw_and (pt_cmpR op_eq (pe_ix ix_list (pv 0) pe_int (fun _ _ => rfl)) pe_int (nomark _)) (pw_and1 (pt_cmpR (op_neD hr.units) (pe_ix ix_list (pv 0) pe_int (fun _ _ => rfl)) (pe_lst pa_nil) (nomark _)))))
        (pss_cons (ps_set (i := 2) scDraw.nd rfl (Or.inl rfl) (pe_callB call_abs (by rfl) T.abs (by decide +kernel) (pa_cons (pe_bm PySem.F.plainAttrs_list PySem.F.slot_list_pop PySem.F.type_list_pop mt_popAt (pe_ix ix_list (pv 0) pe_int (fun _ _ => rfl)) (pa_cons pe_int pa_nil)) pa_nil)))
        (pss_cons (ps_asg (pe_op op_mod (pe_callTy call_int1 (by rfl) T.int (by decide +kernel) (pa_cons (pe_op op_add (pe_op op_add (pe_op op_mul (pe_ix ix_list (pv 0) pe_int (fun _ _ => rfl)) pe_int) (pv 2)) pe_int) pa_nil)) pe_int) (pg_sub (pv 0) pe_int set_list))
        (pss_one (ps_asg (pe_ifExp (pt_cmpR op_ge (pv 2) (pe_op op_pow pe_int pe_int) (nomark _)) (pv 2) pe_int) (pg_sub (pv 0) pe_int set_list))))))
      (pss_cons (ps_if (pt_cmpR op_gt (pe_ix ix_list (pv 0) pe_int (fun _ _ => rfl)) pe_int (nomark _))
        (pss_cons (ps_set (i := 3) scDraw.nd rfl (Or.inl rfl) (pe_op op_modN (pe_callTy call_int1 (by rfl) T.int (by decide +kernel) (pa_cons (pe_ix ix_list (pv 0) pe_int (fun _ _ => rfl)) pa_nil)) (pv 1)))
        (pss_cons (ps_asg (pe_op op_fdivN (pe_ix ix_list (pv 0) pe_int (fun _ _ => rfl)) (pv 1)) (pg_sub (pv 0) pe_int set_list))
        (pss_one (ps_ret (pv 3))))) pss_nil)
      (pss_cons (ps_set (i := 4) scDraw.nd rfl (Or.inl rfl) (pe_op op_mod (pe_callTy call_int1 (by rfl) T.int (by decide +kernel) (pa_cons (pe_op op_pow (pe_op op_add (pe_op op_add (pe_ix ix_list (pv 0) pe_int (fun _ _ => rfl)) (pe_op op_mul pe_int (pe_ix ix_list (pv 0) pe_int (fun _ _ => rfl)))) pe_int) pe_int) pa_nil)) pe_int))
      (pss_one (ps_ret (pe_op op_modN (pe_op op_mod (pe_callTy call_int1 (by rfl) T.int (by decide +kernel) (pa_cons (pe_op op_pow (pe_op op_add (pe_op op_add (pe_op op_mul (pv 4) pe_int) (pe_op op_mul pe_int (pe_ix ix_list (pv 0) pe_int (fun _ _ => rfl)))) pe_int) pe_int) pa_nil)) pe_int) (pv 1))))))), ?_⟩
    refine ⟨_, rfl, a, _, _, _, rfl, rfl, SqL.of h1, (by rfl), _, _, rfl, rfl, _, rfl, a, _, _, 2, rfl, rfl, h1, (by rfl), ?_⟩
    refine ⟨fun σ' H' => ∃ (xs : List Int) (c m : Int) (v : Option V), σ' = [some (.ref a), some (.int many), v, none, none] ∧ Mid a l (n + 1) H H' xs c m, ?_, ?_⟩
    · refine ⟨fun j σ' H' => ∃ (xs : List Int) (c m : Int) (v : Option V), σ' = [some (.ref a), some (.int many), v, none, none] ∧ Mid a l (n + 1) H H' xs c m ∧ j = xs.length, ⟨_, xs, c, m, none, rfl, ⟨upd_same, by rw [upd_ne nal.symm]; exact h2, h3, h4, h7, h8, fun b o q1 q2 e => by rw [upd_ne q1]; exact e⟩, rfl⟩, ?_⟩
      rintro j σ' H1 ⟨xs, c0, m0, v, rfl, M, rfl⟩
      refine ⟨_, rfl, a, _, _, _, rfl, rfl, SqL.of M.ha, (by rfl), rfl, _, rfl, ?_⟩
      refine ite2 (fun hc => ?_) (fun hc => ?_)
      · have hc0 : c0 = 0 := V.int.inj (of_decide_eq_true hc)
        refine ⟨_, rfl, a, _, _, _, rfl, rfl, SqL.of M.ha, (by rfl), Nat.zero_le _, fun p hp => ?_⟩
        have npa : a ≠ p := ne_of_none M.ha hp
        have npl : l ≠ p := ne_of_none M.hl hp
        have M2 : Mid a l (n + 1) H (upd H1 p (.lst [])) xs c0 m0 := ⟨by rw [upd_ne npa]; exact M.ha, by rw [upd_ne npl]; exact M.hl, M.len, M.c0, M.m0, M.m1, but2_new M.but hp⟩
        refine ⟨.list (xs.map PyData.int), .list [], .lst (SqL.of M2.hl) (dp_ints xs), .lst (SqL.of upd_same) .nil, sh_ints xs, rfl, _, rfl, ?_⟩
        cases xs with
        | nil =>
          refine iteF ?_
          exact ⟨[], c0, m0, v, rfl, M2⟩
        | cons y ys =>
          refine iteT ⟨fun σ2 H2 => ∃ (xs : List Int) (c m : Int) (v : Option V), σ2 = [some (.ref a), some (.int many), v, none, none] ∧ Mid a l (n + 1) H H2 xs c m ∧ ys.length = xs.length, ?_, ?_⟩
          · rintro σ2 H2 ⟨xs, c, m, v, e1, e2, e3⟩
            exact ⟨ys.length, Nat.lt_succ_self _, xs, c, m, v, e1, e2, e3⟩
          · have hl2 := M2.hl
            refine ⟨_, rfl, a, _, _, .ref l, rfl, rfl, SqL.of M2.ha, (by rfl), .inl ⟨rfl, _, SqL.of hl2⟩, l, _, 0, 0, .int y, rfl, rfl, hl2, by decide, by decide, (by rw [List.length_map]; exact seq0 _), rfl, _, rfl, ?_⟩
            have M3 : Mid a l (n + 1) H (upd (upd H1 p (.lst [])) l (.lst (ys.map V.int))) ys c0 m0 := ⟨by rw [upd_ne nal]; exact M2.ha, upd_same, by have := M2.len; simp at this; omega, M2.c0, M2.m0, M2.m1, but2_setl M2.but⟩
            have z0 : ((y :: ys).map V.int).eraseIdx 0 = ys.map V.int := rfl
            rw [z0]
            have cell0 : (0 : Int) ≤ (if y < 0 then -y else y) := by split <;> omega
            generalize (if y < 0 then -y else y) = cell at cell0 ⊢
            refine ⟨_, rfl, a, _, _, _, rfl, rfl, SqL.of M3.ha, (by rfl), _, _, rfl, rfl, .inl ⟨by have := M3.m0; omega, by have := M3.m1; omega⟩, _, rfl, _, _, rfl, rfl, _, _, rfl, rfl, .inl ⟨_, rfl, _, _, rfl, rfl, (show (0 : Int) < 2147483647 by decide), _, rfl, a, _, _, 3, rfl, rfl, M3.ha, (by rfl), ?_⟩⟩
            have r0 := Int.emod_nonneg (m0 * 8191 + cell + 3) (by decide : (2147483647 : Int) ≠ 0)
            have r1 := Int.emod_lt_of_pos (m0 * 8191 + cell + 3) (by decide : (0 : Int) < 2147483647)
            have M4 : Mid a l (n + 1) H (upd (upd (upd H1 p (.lst [])) l (.lst (ys.map V.int))) a (.lst [.ref l, .int c0, .int (n + 1), .int ((m0 * 8191 + cell + 3) % 2147483647)])) ys c0 ((m0 * 8191 + cell + 3) % 2147483647) :=
              ⟨upd_same, by rw [upd_ne nal.symm]; exact M3.hl, M3.len, M3.c0, r0, r1, but2_set M3.but⟩
            refine ⟨_, rfl, _, _, rfl, rfl, ⟨by decide, by decide, by decide⟩, _, _, rfl, rfl, _, rfl, ?_⟩
            have last : ∀ c2 : Int, 0 ≤ c2 → ∃ (xs : List Int) (c m : Int) (v : Option V), [some (V.ref a), some (V.int many), some (V.int cell), none, none] = [some (V.ref a), some (V.int many), v, none, none] ∧ Mid a l (n + 1) H (upd (upd (upd (upd H1 p (.lst [])) l (.lst (ys.map V.int))) a (.lst [.ref l, .int c0, .int (n + 1), .int ((m0 * 8191 + cell + 3) % 2147483647)])) a (.lst [.ref l, .int c2, .int (n + 1), .int ((m0 * 8191 + cell + 3) % 2147483647)])) xs c m ∧ ys.length = xs.length :=
              fun c2 hc2 => ⟨ys, c2, _, _, rfl, ⟨upd_same, by rw [upd_ne nal.symm]; exact M4.hl, M4.len, hc2, r0, r1, but2_set M4.but⟩, rfl⟩
            refine ite2 (fun hge => ?_) (fun hge => ?_)
            · exact ⟨_, rfl, _, rfl, a, _, _, 1, rfl, rfl, M4.ha, (by rfl), last _ cell0⟩
            · exact ⟨_, rfl, a, _, _, 1, rfl, rfl, M4.ha, (by rfl), last _ (Int.le_refl 0)⟩
      · refine iteF ?_
        exact ⟨xs, c0, m0, v, rfl, M⟩
    · rintro σ' H1 ⟨xs, c, m, v, rfl, M⟩
      have mod0 : ∀ z : Int, 0 ≤ z.fmod many ∧ z.fmod many < many := fun z => by
        rw [Int.fmod_eq_emod_of_nonneg z (by omega)]
        exact ⟨Int.emod_nonneg _ (by omega), Int.emod_lt_of_pos _ hm0⟩
      have c0 := M.c0
      have m0 := M.m0
      have m1 := M.m1
      have fin : ∀ (H2 : Hp) (c2 : Int), 0 ≤ c2 → H2 a = some (.lst [.ref l, .int c2, .int (n + 1), .int m]) → H2 l = some (.lst (xs.map V.int)) → Strm (N + 1) H2 a l := fun H2 c2 h0 ha hl => ⟨xs, c2, n + 1, m, ha, hl, M.len, h0, by omega, by omega, m0, m1⟩
      refine ⟨_, rfl, a, _, _, _, rfl, rfl, SqL.of M.ha, (by rfl), _, _, rfl, rfl, _, rfl, ite2 (fun hc => ?_) (fun hc => ?_)⟩
      · refine ⟨_, rfl, a, _, _, _, rfl, rfl, SqL.of M.ha, (by rfl), .inl ⟨_, rfl, _, rfl, _, _, rfl, rfl, (show many ≠ 0 by omega), ?_⟩⟩
        refine ⟨_, rfl, a, _, _, _, rfl, rfl, SqL.of M.ha, (by rfl), _, rfl, _, _, rfl, rfl, ⟨by omega, by omega⟩, _, rfl, a, _, _, 1, rfl, rfl, M.ha, (by rfl), _, rfl, ?_⟩
        refine k _ _ (mod0 c).1 (mod0 c).2 (but2_set M.but) (fin _ (c.fdiv many) ?_ upd_same (by rw [upd_ne nal.symm]; exact M.hl))
        rw [Int.fdiv_eq_ediv_of_nonneg _ (by omega)]
        exact Int.ediv_nonneg c0 (by omega)
      · refine ⟨_, rfl, a, _, _, _, rfl, rfl, SqL.of M.ha, (by rfl), _, rfl, a, _, _, _, rfl, rfl, SqL.of M.ha, (by rfl), _, _, rfl, rfl, .inl ⟨by decide, by decide⟩, _, _, rfl, rfl, _, _, rfl, rfl, _, _, rfl, rfl, ⟨by decide, by decide, ?_⟩, .inl ⟨_, rfl, _, _, rfl, rfl, (show (0 : Int) < 2147483629 by decide), ?_⟩⟩
        · show (m + 7919 * (n + 1) + 104729).natAbs < 2 ^ 64
          omega
        · have r0 := Int.emod_nonneg ((m + 7919 * (n + 1) + 104729) ^ (5 : Int).toNat) (by decide : (2147483629 : Int) ≠ 0)
          have r1 := Int.emod_lt_of_pos ((m + 7919 * (n + 1) + 104729) ^ (5 : Int).toNat) (by decide : (0 : Int) < 2147483629)
          refine ⟨_, rfl, _, _, rfl, rfl, .inl ⟨Int.lt_of_lt_of_le (by decide) r0, Int.lt_trans r1 (by decide)⟩, _, rfl, a, _, _, _, rfl, rfl, SqL.of M.ha, (by rfl), _, _, rfl, rfl, .inl ⟨by decide, by decide⟩, _, _, rfl, rfl, _, _, rfl, rfl, _, _, rfl, rfl, ⟨by decide, by decide, ?_⟩, .inl ⟨_, rfl, _, _, rfl, rfl, (show (0 : Int) < 1000000007 by decide), _, rfl, _, _, rfl, rfl, (show many ≠ 0 by omega), ?_⟩⟩
          · show ((m + 7919 * (n + 1) + 104729) ^ (5 : Int).toNat % 2147483629 * 48271 + 30011 * (n + 1) + 29).natAbs < 2 ^ 64
            generalize (m + 7919 * (n + 1) + 104729) ^ (5 : Int).toNat % 2147483629 = z at r0 r1
            omega
          · exact k _ _ (mod0 _).1 (mod0 _).2 M.but (fin _ c c0 M.ha M.hl)
theorem ok_pick {f fD : Addr} {fd fdD : FuncData} (F : Fun K "_law_pick" "_law_pick" sPick f fd) (T : Bt mg) (FD : Fun K "_law_draw" "_law_draw" sDraw fD fdD) (gD : mg "_law_draw" = some (.ref fD)) (bD : Binds K fdD ["_law_stream_here", "_law_many"] []) :
    FnOk P w K mg base CX0 2 f fd ["_law_stream_here", "_law_things"] spPick := by
  have GD : FnOk P w K mg base CX0 1 fD fdD ["_law_stream_here", "_law_many"] spDraw := ok_draw FD T
  refine F.ok scPick (fun vs H Q E h => ?_) (fun cdv A outer s H vs Q E hr h => ?_)
  · obtain ⟨a, l, p, N, xs, rfl, _⟩ := h
    rfl
  · obtain ⟨a, l, p, N, xs, rfl, S, hN0, hN1, hpa, hpl, hp, hx0, hx1, k⟩ := h
    refine ⟨_, pss_one (ps_ret (pe_ix ix_list (pv 1) (pe_call GD hr (by rfl) gD FD.kp bD .nil pass0 (pa_cons (pv 0) (pa_cons (pe_callB call_len_seq (by rfl) T.len PySem.boot_len (pa_cons (pv 1) pa_nil)) pa_nil))) (fun _ _ => rfl))), ?_⟩
    refine ⟨_, rfl, _, rfl, _, rfl, p, xs, rfl, .inl (SqL.of hp), a, l, N, (xs.length : Int), rfl, S, hN0, hN1, by omega, by omega, fun H' d d0 d1 b S' => ?_⟩
    have hd : d.toNat < xs.length := by omega
    have e : atI xs d = some xs[d.toNat] := at_of (j := d.toNat) (by omega) (List.getElem?_eq_getElem hd)
    exact ⟨p, xs, d, _, rfl, rfl, SqL.of (b _ _ hpa hpl hp), e, k H' _ (List.getElem_mem hd) b S'⟩
end
end K17

set_option Elab.async false
set_option linter.all false
set_option maxRecDepth 100000
set_option maxHeartbeats 4000000
namespace K17
open PySem PySem.Spec PyProof.Rows L2 Own
theorem scMixed : FnScope ["_law_stream_here", "_law_things", "_law_left", "_law_found", "_law_k"] ["_law_stream_here", "_law_things"] (defScope sMixed) := ⟨rfl, rfl, rfl, by decide +kernel, rfl, by decide +kernel, by decide +kernel⟩
/-- what was new behind a call was new ahead of it -/
theorem But2.fresh {N : Int} {a l p : Addr} {H H' : Hp} (b : But2 a l H H') (S : Strm N H' a l) (h : H' p = none) : H p = none := by
  obtain ⟨xs, c, n, m, h1, h2, _⟩ := S.ex
  cases e : H p with
  | none => rfl
  | some o =>
    rw [b p o (ne_of_none h1 h).symm (ne_of_none h2 h).symm e] at h
    cases h
theorem But2.refl {a l : Addr} {H : Hp} : But2 a l H H := fun _ _ _ _ e => e
theorem Strm.but {N : Int} {a l : Addr} {H H' : Hp} (S : Strm N H a l) (k : ∀ b o, H b = some o → H' b = some o) : Strm N H' a l := S.keep fun b o e _ => k b o e
/-- a draw's place and the list's are unlike new ones -/
theorem Strm.ne_new {N : Int} {a l p : Addr} {H : Hp} (S : Strm N H a l) (h : H p = none) : p ≠ a ∧ p ≠ l := by
  obtain ⟨xs, c, n, m, h1, h2, _⟩ := S.ex
  exact ⟨(ne_of_none h1 h).symm, (ne_of_none h2 h).symm⟩
def spMixed : Sp := fun vs H Q _ => ∃ (a l p : Addr) (N : Int) (xs : List V), vs = [.ref a, .ref p] ∧ Strm N H a l ∧ 0 ≤ N ∧ N + 100 ≤ 1000000000 ∧ p ≠ a ∧ p ≠ l ∧ H p = some (.lst xs) ∧ xs.length ≤ 100 ∧
  ∀ H' q ys, List.Perm ys xs → But2 a l H H' → H q = none → H' q = some (.lst ys) → Strm (N + 100) H' a l → Q (.ref q) H'
structure MixI (a l p pl pf : Addr) (N : Int) (xs : List V) (H0 : Hp) (i : Nat) (σ : L2.St) (H : Hp) : Prop where
  s : ∃ k, σ = [some (.ref a), some (.ref p), some (.ref pl), some (.ref pf), k]
  d : ∃ ls fs, H pl = some (.lst ls) ∧ H pf = some (.lst fs) ∧ ls.length + i = xs.length ∧ fs.length = i ∧ List.Perm (fs ++ ls) xs
  b : But2 a l H0 H
  t : Strm (N + i) H a l
theorem same_new {H : Hp} {p : Addr} {o : HO} (h : H p = none) : Same H (upd H p o) := fun b u e => by
  rw [upd_ne (ne_of_none e h)]
  exact e
theorem perm_erase : ∀ {ls : List V} {j : Nat} (h : j < ls.length), List.Perm ([ls[j]] ++ ls.eraseIdx j) ls
  | x :: r, 0, _ => .refl _
  | x :: r, j + 1, h => by
    have z := perm_erase (ls := r) (j := j) (Nat.lt_of_succ_lt_succ h)
    show List.Perm (r[j]'(Nat.lt_of_succ_lt_succ h) :: x :: r.eraseIdx j) (x :: r)
    exact .trans (.swap _ _ _) (.cons _ z)
theorem Strm.upd {N : Int} {a l p : Addr} {H : Hp} {o : HO} (S : Strm N H a l) (h1 : p ≠ a) (h2 : p ≠ l) : Strm N (L2.upd H p o) a l := by
  obtain ⟨xs, c, n, m, h3, h4, h5⟩ := S.ex
  exact ⟨xs, c, n, m, by rw [upd_ne h1.symm]; exact h3, by rw [upd_ne h2.symm]; exact h4, h5⟩
section
variable {P : Program} {w : World} {K : PySem.W.Frag} {mg : Str → Option Value} {base : Heap}
theorem ok_mixed {f fD : Addr} {fd fdD : FuncData} (F : Fun K "_law_mixed" "_law_mixed" sMixed f fd) (T : Bt mg) (FD : Fun K "_law_draw" "_law_draw" sDraw fD fdD) (gD : mg "_law_draw" = some (.ref fD)) (bD : Binds K fdD ["_law_stream_here", "_law_many"] []) :
    FnOk P w K mg base CX0 2 f fd ["_law_stream_here", "_law_things"] spMixed := by
  have GD : FnOk P w K mg base CX0 1 fD fdD ["_law_stream_here", "_law_many"] spDraw := ok_draw FD T
  refine F.ok scMixed (fun vs H Q E h => ?_) (fun cdv A outer s H vs Q E hr h => ?_)
  · obtain ⟨a, l, p, N, xs, rfl, _⟩ := h
    rfl
  · obtain ⟨a, l, p, N, xs, rfl, S, hN0, hN1, hpa, hpl, hp, hx, k⟩ := h
    refine ⟨_, (pss_cons (ps_par (i := 2) (j := 3) (by rfl) scMixed.nd rfl rfl (by decide) rfl rfl (pa_cons (pe_callTy call_list_of (by rfl) T.list (by decide +kernel) (pa_cons (pv 1) pa_nil)) (pa_cons (pe_lst pa_nil) pa_nil)) (by rfl))
  (pss_cons (ps_for PassesOwn.never rfl (pi_range1 (by rfl) T.range (pa_cons (pe_callB call_len_seq (by rfl) T.len (by decide +kernel) (pa_cons (pv 2) pa_nil)) pa_nil)) (pg_name (i := 4) (x := "_law_k") scMixed.nd rfl (Or.inl rfl)) (pss_one (ps_expr (pe_bm PySem.F.plainAttrs_list PySem.F.slot_list_append PySem.F.type_list_append mt_append (pv 3) (pa_cons (pe_bm PySem.F.plainAttrs_list PySem.F.slot_list_pop PySem.F.type_list_pop mt_popAt (pv 2) (pa_cons (pe_call GD hr (by rfl) gD FD.kp bD .nil pass0 (pa_cons (pv 0) (pa_cons (pe_callB call_len_seq (by rfl) T.len (by decide +kernel) (pa_cons (pv 2) pa_nil)) pa_nil))) pa_nil)) pa_nil)))))
  (pss_one (ps_ret (pv 3))))), ?_⟩
    refine ⟨_, rfl, p, xs, rfl, .inl (SqL.of hp), fun pl hpl0 => ⟨Nat.zero_le _, fun pf hpf => ⟨_, _, rfl, ?_⟩⟩⟩
    have ⟨n1, n2⟩ := S.ne_new hpl0
    have S1 : Strm N (upd H pl (.lst xs)) a l := S.but fun b o e => same_new hpl0 b o e
    have ⟨n3, n4⟩ := S1.ne_new hpf
    have S2 : Strm N (upd (upd H pl (.lst xs)) pf (.lst [])) a l := S1.but fun b o e => same_new hpf b o e
    have npf : pl ≠ pf := ne_of_none (H := upd H pl (.lst xs)) upd_same hpf
    have hf0 : H pf = none := by
      rw [upd_ne npf.symm] at hpf
      exact hpf
    have b0 : But2 a l H (upd (upd H pl (.lst xs)) pf (.lst [])) := but2_new (but2_new But2.refl hpl0) hpf
    refine ⟨_, rfl, pl, xs, rfl, .inl (SqL.of (by rw [upd_ne npf]; exact upd_same)), _, rfl, by omega, by omega, ?_⟩
    refine for_range (MixI a l p pl pf N xs H) ⟨⟨_, rfl⟩, ⟨xs, [], by rw [upd_ne npf]; exact upd_same, upd_same, rfl, rfl, .refl _⟩, b0, by simpa using S2⟩ (fun i σ H1 hi w => ?_) (fun σ H1 w => ?_)
    · obtain ⟨⟨k0, rfl⟩, ⟨ls, fs, hl, hf, e1, e2, pm⟩, bt, st⟩ := w
      have hi' : i < xs.length := by omega
      have e0 : (xs.length : Int).toNat = xs.length := by omega
      refine ⟨_, rfl, .inl ⟨rfl, _, SqL.of hf⟩, _, rfl, .inl ⟨rfl, _, SqL.of hl⟩, _, rfl, _, rfl, pl, ls, rfl, .inl (SqL.of hl), a, l, _, _, rfl, st, by omega, by omega, by omega, by omega, fun H2 d d0 d1 b2 st2 => ?_⟩
      have hl2 := b2 _ _ n1 n2 hl
      have hf2 := b2 _ _ n3 n4 hf
      have hd : d.toNat < ls.length := by omega
      refine ⟨pl, ls, d, d.toNat, ls[d.toNat], rfl, rfl, hl2, by omega, by omega, (ixN_seq (n := ls.length) (i := d) (j := d.toNat) ?_).1, List.getElem?_eq_getElem hd, ?_⟩
      · unfold ixN
        rw [if_pos d0, if_pos d1]
      refine ⟨pf, fs, _, rfl, rfl, ?_, ?_, ?_⟩
      · rw [upd_ne npf.symm]
        exact hf2
      · rw [e2]
        exact Nat.lt_of_lt_of_le (Nat.lt_of_lt_of_le hi' hx) (by decide)
      · refine ⟨⟨_, rfl⟩, ⟨ls.eraseIdx d.toNat, fs ++ [ls[d.toNat]], ?_, upd_same, ?_, ?_, ?_⟩, ?_, ?_⟩
        · rw [upd_ne npf]
          exact upd_same
        · rw [List.length_eraseIdx_of_lt hd]
          omega
        · rw [List.length_append, e2]
          rfl
        · refine List.Perm.trans ?_ pm
          rw [List.append_assoc]
          refine List.Perm.append_left fs ?_
          exact perm_erase hd
        · exact fun b o h1 h2 e => by
            have z := bt b o h1 h2 e
            have z1 := b2 _ _ h1 h2 z
            have q1 : b ≠ pl := ne_of_none e hpl0
            have q2 : b ≠ pf := ne_of_none e hf0
            rw [upd_ne q2, upd_ne q1]
            exact z1
        · have z : N + ((i + 1 : Nat) : Int) = N + i + 1 := by omega
          rw [z]
          refine (st2.upd n1 n2).upd n3 n4
    · obtain ⟨⟨k0, rfl⟩, ⟨ls, fs, hl, hf, e1, e2, pm⟩, bt, st⟩ := w
      have e0 : (xs.length : Int).toNat = xs.length := by omega
      rw [e0] at e1 e2 st
      have ln : ls = [] := List.eq_nil_of_length_eq_zero (by omega)
      rw [ln, List.append_nil] at pm
      refine ⟨_, rfl, k _ pf fs pm bt hf0 hf (st.mono (by omega))⟩
end
end K17

set_option Elab.async false
set_option linter.all false
set_option maxRecDepth 100000
set_option maxHeartbeats 8000000
namespace K17
open PySem PySem.Spec PyProof.Rows L2 Own
section
variable {X : Cx} {e : Expr} {g g2 : TG}
theorem pg_or (h : PG X e g) (h2 : PG X e g2) : PG X e (fun v σ H Q => g v σ H Q ∨ g2 v σ H Q) := ⟨fun pins s σ H v u Q I r hw => by
  rcases hw with hw | hw
  · exact h.run pins s σ H v u Q I r hw
  · exact h2.run pins s σ H v u Q I r hw⟩
end
/-! ### kinds of values -/
def atomV : V → Bool
  | .non => true
  | .bl _ => true
  | .int _ => true
  | .str _ => true
  | _ => false
/-- an atom, a list, a tuple or a dict -/
def Shp (H : Hp) (v : V) : Prop := atomV v = true ∨ (∃ a xs, v = .ref a ∧ H a = some (.lst xs)) ∨ (∃ a xs, v = .ref a ∧ H a = some (.tup xs)) ∨ ∃ a kvs, v = .ref a ∧ H a = some (.dK kvs)
theorem Shp.same {H H' : Hp} {v : V} (h : Shp H v) (e : Same H H') : Shp H' v := by
  rcases h with h | ⟨a, xs, h1, h2⟩ | ⟨a, xs, h1, h2⟩ | ⟨a, xs, h1, h2⟩
  · exact .inl h
  · exact .inr (.inl ⟨a, xs, h1, e _ _ h2⟩)
  · exact .inr (.inr (.inl ⟨a, xs, h1, e _ _ h2⟩))
  · exact .inr (.inr (.inr ⟨a, xs, h1, e _ _ h2⟩))
theorem shp_int {H : Hp} (i : Int) : Shp H (.int i) := .inl rfl
/-- what a list or a tuple holds -/
def seqOf (H : Hp) : V → Option (List V)
  | .ref a => match H a with
    | some (.lst xs) => some xs
    | some (.tup xs) => some xs
    | _ => none
  | _ => none
theorem seq_same {H H' : Hp} {v : V} (h : Shp H v) (e : Same H H') : seqOf H' v = seqOf H v := by
  rcases h with h | ⟨a, xs, rfl, h2⟩ | ⟨a, xs, rfl, h2⟩ | ⟨a, xs, rfl, h2⟩
  · cases v <;> first | rfl | cases h
  · show (match H' a with | some (.lst xs) => some xs | some (.tup xs) => some xs | _ => none) = (match H a with | some (.lst xs) => some xs | some (.tup xs) => some xs | _ => none)
    rw [h2, e _ _ h2]
  · show (match H' a with | some (.lst xs) => some xs | some (.tup xs) => some xs | _ => none) = (match H a with | some (.lst xs) => some xs | some (.tup xs) => some xs | _ => none)
    rw [h2, e _ _ h2]
  · show (match H' a with | some (.lst xs) => some xs | some (.tup xs) => some xs | _ => none) = (match H a with | some (.lst xs) => some xs | some (.tup xs) => some xs | _ => none)
    rw [h2, e _ _ h2]
theorem seq_lst {H : Hp} {a : Addr} {xs : List V} (h : H a = some (.lst xs)) : seqOf H (.ref a) = some xs := by
  show (match H a with | some (.lst xs) => some xs | some (.tup xs) => some xs | _ => none) = some xs
  rw [h]
theorem seq_tup {H : Hp} {a : Addr} {xs : List V} (h : H a = some (.tup xs)) : seqOf H (.ref a) = some xs := by
  show (match H a with | some (.lst xs) => some xs | some (.tup xs) => some xs | _ => none) = some xs
  rw [h]
theorem seq_atom {H : Hp} {v : V} (h : atomV v = true) : seqOf H v = none := by
  cases v <;> first | rfl | cases h
theorem seq_dic {H : Hp} {a : Addr} {kvs : List (Key × V)} (h : H a = some (.dK kvs)) : seqOf H (.ref a) = none := by
  show (match H a with | some (.lst xs) => some xs | some (.tup xs) => some xs | _ => none) = none
  rw [h]
def isI : V → Bool
  | .int _ => true
  | _ => false
def isN : V → Bool
  | .int i => decide (0 ≤ i)
  | _ => false
def isP (n : Int) : V → Bool
  | .int i => decide (0 ≤ i) && decide (i < n)
  | _ => false
/-! ### types -/
def TyS (K : PySem.W.Frag) (H : Hp) (x : V) (T : String) : Prop := ∀ H', Same H H' → TyX K H' x (.type T)
theorem TyS.grow {K : PySem.W.Frag} {H H' : Hp} {x : V} {T : String} (h : TyS K H x T) (e : Same H H') : TyS K H' x T := fun H2 e2 => h H2 (e.trans e2)
theorem TyS.now {K : PySem.W.Frag} {H : Hp} {x : V} {T : String} (h : TyS K H x T) : TyX K H x (.type T) := h H (Same.refl H)
theorem kit2 {K : PySem.W.Frag} {T a b : String} {x y r : Bool} (ha : kitB T a = some x) (hb : kitB T b = some y) (h : (x || y) = r) : PySem.W.kitAny K (.type T) [.type a, .type b] = some r := by
  subst h
  refine kitAny_cons (kit_ty ha) (fun e => ?_) (fun e => by rw [e]; rfl)
  rw [e]
  refine kitAny_cons (kit_ty hb) (fun e => ?_) (fun e => by rw [e]; rfl)
  rw [e]
  exact kitAny_nil
theorem shp_ty {K : PySem.W.Frag} {H : Hp} {v : V} (h : Shp H v) : ∃ (T : String) (i b l t s : Bool), TyS K H v T ∧ kitB T "int" = some i ∧ kitB T "bool" = some b ∧ kitB T "list" = some l ∧ kitB T "tuple" = some t ∧ kitB T "str" = some s ∧
    isI v = (i && !b) ∧ (seqOf H v).isSome = (l || t) ∧ (s = true → ∃ z, v = .str z) ∧ (∀ z, v = .str z → s = true) := by
  rcases h with h | ⟨a, xs, rfl, h2⟩ | ⟨a, xs, rfl, h2⟩ | ⟨a, xs, rfl, h2⟩
  · cases v with
    | non => exact ⟨"NoneType", false, false, false, false, false, fun _ _ => .base .non, by decide +kernel, by decide +kernel, by decide +kernel, by decide +kernel, by decide +kernel, rfl, rfl, fun z => (by cases z), fun z e => (by cases e)⟩
    | bl b => exact ⟨"bool", true, true, false, false, false, fun _ _ => .base (.bl b), by decide +kernel, by decide +kernel, by decide +kernel, by decide +kernel, by decide +kernel, rfl, rfl, fun z => (by cases z), fun z e => (by cases e)⟩
    | int i => exact ⟨"int", true, false, false, false, false, fun _ _ => .base (.int i), by decide +kernel, by decide +kernel, by decide +kernel, by decide +kernel, by decide +kernel, rfl, rfl, fun z => (by cases z), fun z e => (by cases e)⟩
    | str x => exact ⟨"str", false, false, false, false, true, fun _ _ => .base (.str x), by decide +kernel, by decide +kernel, by decide +kernel, by decide +kernel, by decide +kernel, rfl, rfl, fun _ => ⟨x, rfl⟩, fun _ _ => rfl⟩
    | _ => cases h
  · exact ⟨"list", false, false, true, false, false, fun H' e => .base (.lst (e _ _ h2)), by decide +kernel, by decide +kernel, by decide +kernel, by decide +kernel, by decide +kernel, rfl, by rw [seq_lst h2]; rfl, fun z => (by cases z), fun z e => (by cases e)⟩
  · exact ⟨"tuple", false, false, false, true, false, fun H' e => .base (.tup (e _ _ h2)), by decide +kernel, by decide +kernel, by decide +kernel, by decide +kernel, by decide +kernel, rfl, by rw [seq_tup h2]; rfl, fun z => (by cases z), fun z e => (by cases e)⟩
  · exact ⟨"dict", false, false, false, false, false, fun H' e => .base (.dK (e _ _ h2)), by decide +kernel, by decide +kernel, by decide +kernel, by decide +kernel, by decide +kernel, rfl, by rw [seq_dic h2]; rfl, fun z => (by cases z), fun z e => (by cases e)⟩
/-! ### is_integer, is_number, is_list, is_place -/
def spInt : Sp := fun vs H Q _ => ∃ v, vs = [v] ∧ Shp H v ∧ Q (.bl (isI v)) H
def spNum : Sp := fun vs H Q _ => ∃ v, vs = [v] ∧ Shp H v ∧ Q (.bl (isN v)) H
def spLst : Sp := fun vs H Q _ => ∃ v, vs = [v] ∧ Shp H v ∧ ∀ H', Same H H' → Q (.bl (seqOf H v).isSome) H'
def spPlace : Sp := fun vs H Q _ => ∃ (n : Int) (v : V), vs = [.int n, v] ∧ Shp H v ∧ Q (.bl (isP n v)) H
theorem scIsInt : FnScope ["thing"] ["thing"] (defScope sIsInt) := ⟨rfl, rfl, rfl, by decide +kernel, rfl, by decide +kernel, by decide +kernel⟩
theorem scIsNum : FnScope ["thing"] ["thing"] (defScope sIsNum) := ⟨rfl, rfl, rfl, by decide +kernel, rfl, by decide +kernel, by decide +kernel⟩
theorem scIsList : FnScope ["thing"] ["thing"] (defScope sIsList) := ⟨rfl, rfl, rfl, by decide +kernel, rfl, by decide +kernel, by decide +kernel⟩
theorem scIsPlace : FnScope ["places", "thing"] ["places", "thing"] (defScope sIsPlace) := ⟨rfl, rfl, rfl, by decide +kernel, rfl, by decide +kernel, by decide +kernel⟩
section
variable {P : Program} {w : World} {K : PySem.W.Frag} {mg : Str → Option Value} {base : Heap}
theorem ok_isInt {f : Addr} {fd : FuncData} (F : Fun K "is_integer" "is_integer" sIsInt f fd) (T : Bt mg) : FnOk P w K mg base CX0 1 f fd ["thing"] spInt := by
  refine F.ok scIsInt (fun vs H Q E h => ?_) (fun cdv A outer s H vs Q E hr h => ?_)
  · obtain ⟨v, rfl, _⟩ := h
    rfl
  · obtain ⟨v, rfl, hv, k⟩ := h
    refine ⟨_, (pss_one (ps_ret (pe_and (pe_callB call_isi (by rfl) T.isi (by decide +kernel) (pa_cons (pv 0) (pa_cons (pe_bltn (v := .ty "int") (by rfl) T.int (by decide +kernel) rfl) pa_nil))) (pe_one (pe_not (pe_callB call_isi (by rfl) T.isi (by decide +kernel) (pa_cons (pv 0) (pa_cons (pe_bltn (v := .ty "bool") (by rfl) T.bool (by decide +kernel) rfl) pa_nil)))))))), ?_⟩
    obtain ⟨Ty, i, b, l, t, s, ty, ki, kb, kl, kt, ks, e1, e2, _⟩ := shp_ty (K := K) hv
    refine ⟨_, rfl, _, _, _, _, i, rfl, .ty _, ty.now, kit_ty ki, i, rfl, ?_⟩
    cases i with
    | true =>
      refine iteT ⟨_, rfl, _, _, _, _, b, rfl, .ty _, ty.now, kit_ty kb, b, rfl, ?_⟩
      rw [e1] at k
      exact k
    | false =>
      refine iteF ?_
      rw [e1] at k
      exact k
theorem ok_isNum {f fI : Addr} {fd fdI : FuncData} (F : Fun K "is_number" "is_number" sIsNum f fd) (T : Bt mg) (FI : Fun K "is_integer" "is_integer" sIsInt fI fdI) (gI : mg "is_integer" = some (.ref fI)) (bI : Binds K fdI ["thing"] []) : FnOk P w K mg base CX0 2 f fd ["thing"] spNum := by
  have GI : FnOk P w K mg base CX0 1 fI fdI ["thing"] spInt := ok_isInt FI T
  refine F.ok scIsNum (fun vs H Q E h => ?_) (fun cdv A outer s H vs Q E hr h => ?_)
  · obtain ⟨v, rfl, _⟩ := h
    rfl
  · obtain ⟨v, rfl, hv, k⟩ := h
    refine ⟨_, (pss_one (ps_ret (pe_and (pe_call GI hr (by rfl) gI FI.kp bI .nil pass0 (pa_cons (pv 0) pa_nil)) (pe_one (pe_cmpR op_ge (pv 0) pe_int (nomark _)))))), ?_⟩
    refine ⟨_, rfl, v, rfl, hv, _, rfl, ?_⟩
    cases v with
    | int i => exact iteT ⟨_, rfl, _, _, rfl, rfl, k⟩
    | _ => exact iteF k
theorem ok_isLst {f : Addr} {fd : FuncData} (F : Fun K "is_list" "is_list" sIsList f fd) (T : Bt mg) : FnOk P w K mg base CX0 1 f fd ["thing"] spLst := by
  refine F.ok scIsList (fun vs H Q E h => ?_) (fun cdv A outer s H vs Q E hr h => ?_)
  · obtain ⟨v, rfl, _⟩ := h
    rfl
  · obtain ⟨v, rfl, hv, k⟩ := h
    refine ⟨_, (pss_one (ps_ret (pe_callB call_isiT (by rfl) T.isi (by decide +kernel) (pa_cons (pv 0) (pa_cons (pe_tup (pa_cons (pe_bltn (v := .ty "list") (by rfl) T.list (by decide +kernel) rfl) (pa_cons (pe_bltn (v := .ty "tuple") (by rfl) T.tuple (by decide +kernel) rfl) pa_nil))) pa_nil))))), ?_⟩
    obtain ⟨Ty, i, b, l, t, s, ty, ki, kb, kl, kt, ks, e1, e2, _⟩ := shp_ty (K := K) hv
    refine ⟨_, rfl, (by show 2 ≤ sizeLine; decide), fun tp htp => ?_⟩
    have e3 := same_new (o := HO.tup [V.ty "list", V.ty "tuple"]) htp
    refine ⟨_, tp, _, _, _, l || t, rfl, upd_same, .cons (.ty _) (.cons (.ty _) .nil), (ty.grow e3).now, kit2 kl kt rfl, ?_⟩
    rw [← e2]
    exact k _ e3
theorem ok_isPlace {f fI fN : Addr} {fd fdI fdN : FuncData} (F : Fun K "is_place" "is_place" sIsPlace f fd) (T : Bt mg) (FI : Fun K "is_integer" "is_integer" sIsInt fI fdI) (gI : mg "is_integer" = some (.ref fI)) (bI : Binds K fdI ["thing"] [])
    (FN : Fun K "is_number" "is_number" sIsNum fN fdN) (gN : mg "is_number" = some (.ref fN)) (bN : Binds K fdN ["thing"] []) : FnOk P w K mg base CX0 3 f fd ["places", "thing"] spPlace := by
  have GN : FnOk P w K mg base CX0 2 fN fdN ["thing"] spNum := ok_isNum FN T FI gI bI
  refine F.ok scIsPlace (fun vs H Q E h => ?_) (fun cdv A outer s H vs Q E hr h => ?_)
  · obtain ⟨n, v, rfl, _⟩ := h
    rfl
  · obtain ⟨n, v, rfl, hv, k⟩ := h
    refine ⟨_, (pss_one (ps_ret (pe_and (pe_call GN hr (by rfl) gN FN.kp bN .nil pass0 (pa_cons (pv 1) pa_nil)) (pe_one (pe_cmpR op_lt (pv 1) (pv 0) (nomark _)))))), ?_⟩
    refine ⟨_, rfl, v, rfl, hv, _, rfl, ?_⟩
    cases v with
    | int i =>
      refine ite2 (fun h0 => ?_) (fun h0 => ?_)
      · refine ⟨_, rfl, _, rfl, _, _, rfl, rfl, ?_⟩
        have e : isP n (.int i) = decide (i < n) := by
          show (decide (0 ≤ i) && decide (i < n)) = decide (i < n)
          rw [show decide (0 ≤ i) = true from h0]
          rfl
        rw [e] at k
        exact k
      · have e : isP n (.int i) = false := by
          show (decide (0 ≤ i) && decide (i < n)) = false
          rw [show decide (0 ≤ i) = false from Bool.eq_false_iff.mpr h0]
          rfl
        rw [e] at k
        exact k
    | _ => exact iteF k
end
end K17

set_option Elab.async false
set_option linter.all false
set_option maxRecDepth 100000
set_option maxHeartbeats 8000000
namespace K17
open PySem PySem.Spec PyProof.Rows L2 Own
def isRoad (n : Int) : Option (List V) → Bool
  | some [x, y, l, r] => isP n x && (isP n y && (!decide (x = y) && (isN l && (isN r && !decide (r = .int 0)))))
  | _ => false
def isIO : V → Bool
  | .str z => inV (.str z) [.str "in", .str "out"]
  | _ => false
def isDoor (n : Int) : Option (List V) → Bool
  | some [s, p, h] => isIO s && (isP n p && isN h)
  | _ => false
def spRoad : Sp := fun vs H Q _ => ∃ (n : Int) (v : V), vs = [.int n, v] ∧ Shp H v ∧ (∀ xs, seqOf H v = some xs → ∀ x ∈ xs, Shp H x) ∧ ∀ H', Same H H' → Q (.bl (isRoad n (seqOf H v))) H'
def spDoor : Sp := fun vs H Q _ => ∃ (n : Int) (v : V), vs = [.int n, v] ∧ Shp H v ∧ (∀ xs, seqOf H v = some xs → ∀ x ∈ xs, Shp H x) ∧ ∀ H', Same H H' → Q (.bl (isDoor n (seqOf H v))) H'
theorem scIsRoad : FnScope ["places", "thing", "begin", "end", "length", "room"] ["places", "thing"] (defScope sIsRoad) := ⟨rfl, rfl, rfl, by decide +kernel, rfl, by decide +kernel, by decide +kernel⟩
theorem scIsDoor : FnScope ["places", "thing", "sort", "place", "hour"] ["places", "thing"] (defScope sIsDoor) := ⟨rfl, rfl, rfl, by decide +kernel, rfl, by decide +kernel, by decide +kernel⟩
theorem sq_of {K : PySem.W.Frag} {H : Hp} {v : V} {xs : List V} (h : Shp H v) (e : seqOf H v = some xs) : ∃ a, v = .ref a ∧ (H a = some (.lst xs) ∨ H a = some (.tup xs)) := by
  rcases h with h | ⟨a, ys, rfl, h2⟩ | ⟨a, ys, rfl, h2⟩ | ⟨a, ys, rfl, h2⟩
  · rw [seq_atom h] at e
    cases e
  · rw [seq_lst h2] at e
    exact ⟨a, rfl, .inl (by rw [h2, Option.some.inj e])⟩
  · rw [seq_tup h2] at e
    exact ⟨a, rfl, .inr (by rw [h2, Option.some.inj e])⟩
  · rw [seq_dic h2] at e
    cases e
theorem isRoad_len {n : Int} {xs : List V} (h : xs.length ≠ 4) : isRoad n (some xs) = false := by
  match xs, h with
  | [], _ => rfl
  | [_], _ => rfl
  | [_, _], _ => rfl
  | [_, _, _], _ => rfl
  | [_, _, _, _], h => exact absurd rfl h
  | _ :: _ :: _ :: _ :: _ :: _, _ => rfl
theorem isDoor_len {n : Int} {xs : List V} (h : xs.length ≠ 3) : isDoor n (some xs) = false := by
  match xs, h with
  | [], _ => rfl
  | [_], _ => rfl
  | [_, _], _ => rfl
  | [_, _, _], h => exact absurd rfl h
  | _ :: _ :: _ :: _ :: _, _ => rfl
theorem isP_int {n : Int} {v : V} (h : isP n v = true) : ∃ i, v = .int i := by
  cases v <;> first | exact ⟨_, rfl⟩ | cases h
theorem isN_int {v : V} (h : isN v = true) : ∃ i, v = .int i ∧ 0 ≤ i := by
  cases v with
  | int i => exact ⟨i, rfl, of_decide_eq_true h⟩
  | _ => cases h
section
variable {P : Program} {w : World} {K : PySem.W.Frag} {mg : Str → Option Value} {base : Heap}
theorem ok_isRoad {f fI fN fL fPl : Addr} {fd fdI fdN fdL fdPl : FuncData} (F : Fun K "is_road" "is_road" sIsRoad f fd) (T : Bt mg) (FI : Fun K "is_integer" "is_integer" sIsInt fI fdI) (gI : mg "is_integer" = some (.ref fI)) (bI : Binds K fdI ["thing"] [])
    (FN : Fun K "is_number" "is_number" sIsNum fN fdN) (gN : mg "is_number" = some (.ref fN)) (bN : Binds K fdN ["thing"] []) (FL : Fun K "is_list" "is_list" sIsList fL fdL) (gL : mg "is_list" = some (.ref fL)) (bL : Binds K fdL ["thing"] [])
    (FPl : Fun K "is_place" "is_place" sIsPlace fPl fdPl) (gPl : mg "is_place" = some (.ref fPl)) (bPl : Binds K fdPl ["places", "thing"] []) : FnOk P w K mg base CX0 4 f fd ["places", "thing"] spRoad := by
  have GN : FnOk P w K mg base CX0 2 fN fdN ["thing"] spNum := ok_isNum FN T FI gI bI
  have GL : FnOk P w K mg base CX0 1 fL fdL ["thing"] spLst := ok_isLst FL T
  have GPl : FnOk P w K mg base CX0 3 fPl fdPl ["places", "thing"] spPlace := ok_isPlace FPl T FI gI bI FN gN bN
  refine F.ok scIsRoad (fun vs H Q E h => ?_) (fun cdv A outer s H vs Q E hr h => ?_)
  · obtain ⟨n, v, rfl, _⟩ := h
    rfl
  · obtain ⟨n, v, rfl, hv, hi, k⟩ := h
    refine ⟨_, (pss_cons (ps_if (PW.pt (pw_or (pt_not (pt_val (pe_call GL (hr.mono (by decide)) (by rfl) gL FL.kp bL .nil pass0 (pa_cons (pv 1) pa_nil)))) (pw_or1 (pt_cmpR op_ne (pe_callB call_len_seq (by rfl) T.len (by decide +kernel) (pa_cons (pv 1) pa_nil)) pe_int (nomark _))))) (pss_one (ps_ret pe_bl)) pss_nil)
  (Evl.pss_cut (ps_asg (pv 1) (pg_or (pg_tup rfl (pgs_cons (pg_name (i := 2) (x := "begin") scIsRoad.nd rfl (Or.inl rfl)) (pgs_cons (pg_name (i := 3) (x := "end") scIsRoad.nd rfl (Or.inl rfl)) (pgs_cons (pg_name (i := 4) (x := "length") scIsRoad.nd rfl (Or.inl rfl)) (pgs_cons (pg_name (i := 5) (x := "room") scIsRoad.nd rfl (Or.inl rfl)) pgs_nil))))) (pg_unl rfl (pgs_cons (pg_name (i := 2) (x := "begin") scIsRoad.nd rfl (Or.inl rfl)) (pgs_cons (pg_name (i := 3) (x := "end") scIsRoad.nd rfl (Or.inl rfl)) (pgs_cons (pg_name (i := 4) (x := "length") scIsRoad.nd rfl (Or.inl rfl)) (pgs_cons (pg_name (i := 5) (x := "room") scIsRoad.nd rfl (Or.inl rfl)) pgs_nil)))))))
  (pss_cons (ps_if (PW.pt (pw_or (pt_not (pt_val (pe_call GPl hr (by rfl) gPl FPl.kp bPl .nil pass0 (pa_cons (pv 0) (pa_cons (pv 2) pa_nil))))) (pw_or (pt_not (pt_val (pe_call GPl hr (by rfl) gPl FPl.kp bPl .nil pass0 (pa_cons (pv 0) (pa_cons (pv 3) pa_nil))))) (pw_or1 (pt_cmpR op_eq (pv 2) (pv 3) (nomark _)))))) (pss_one (ps_ret pe_bl)) pss_nil)
  (pss_one (ps_ret (pe_and (pe_call GN (hr.mono (by decide)) (by rfl) gN FN.kp bN .nil pass0 (pa_cons (pv 4) pa_nil)) (pe_and (pe_call GN (hr.mono (by decide)) (by rfl) gN FN.kp bN .nil pass0 (pa_cons (pv 5) pa_nil)) (pe_one (pe_cmpR op_gt (pv 5) pe_int (nomark _)))))))))), ?_⟩
    refine ⟨_, rfl, v, rfl, hv, fun H1 e1 => ⟨_, rfl, ?_⟩⟩
    cases hs : seqOf H v with
    | none =>
      rw [hs] at k
      exact k _ e1
    | some xs =>
      rw [hs] at k
      obtain ⟨a, rfl, ha⟩ := sq_of (K := K) hv hs
      refine iteF ⟨_, rfl, a, xs, rfl, ?_, rfl, _, rfl, ?_⟩
      · rcases ha with ha | ha
        · exact .inl (SqL.of (e1 _ _ ha))
        · exact .inr (SqT.of (e1 _ _ ha))
      refine ite2 (fun hc => ?_) (fun hc => ?_)
      · rw [isRoad_len (fun z => by rw [z] at hc; cases hc)] at k
        exact k _ e1
      · have hl : xs.length = 4 := by
          have z : decide (V.int (xs.length : Nat) = V.int 4) = true := by simpa using hc
          exact Int.ofNat.inj (V.int.inj (of_decide_eq_true z))
        match xs, hl with
        | [x, y, l, r], _ =>
          have sh := hi _ hs
          have sx := (sh x (by simp)).same e1
          have sy := (sh y (by simp)).same e1
          have sl := (sh l (by simp)).same e1
          have sr := (sh r (by simp)).same e1
          refine ⟨fun σ' H' => H' = H1 ∧ σ' = [some (.int n), some (.ref a), some x, some y, some l, some r], ?_, ?_⟩
          · refine ⟨_, rfl, ?_⟩
            rcases ha with ha | ha
            · exact .inr ⟨a, _, rfl, SqL.of (e1 _ _ ha), rfl, _, _, rfl, _, _, rfl, _, _, rfl, _, _, rfl, rfl, rfl, rfl⟩
            · exact .inl ⟨a, _, rfl, SqT.of (e1 _ _ ha), rfl, _, _, rfl, _, _, rfl, _, _, rfl, _, _, rfl, rfl, rfl, rfl⟩
          · rintro σ' H' ⟨rfl, rfl⟩
            have no : isRoad n (some [x, y, l, r]) = false → Q (.bl false) H' := fun z => by
              rw [z] at k
              exact k _ e1
            refine ⟨_, rfl, _, rfl, n, x, rfl, sx, _, rfl, ?_⟩
            cases hx : isP n x with
            | false => exact no (by show (isP n x && _) = false; rw [hx]; rfl)
            | true =>
              refine ⟨_, rfl, _, rfl, n, y, rfl, sy, _, rfl, ?_⟩
              cases hy : isP n y with
              | false => exact no (by show (isP n x && (isP n y && _)) = false; rw [hx, hy]; rfl)
              | true =>
                obtain ⟨xi, rfl⟩ := isP_int hx
                obtain ⟨yi, rfl⟩ := isP_int hy
                refine ⟨_, rfl, _, rfl, rfl, _, rfl, ite2 (fun hc => ?_) (fun hc => ?_)⟩
                · exact no (by show (isP n _ && (isP n _ && (!decide (V.int xi = V.int yi) && _))) = false; rw [hx, hy, hc]; rfl)
                · have hxy : decide (V.int xi = V.int yi) = false := Bool.eq_false_iff.mpr hc
                  have e : isRoad n (some [.int xi, .int yi, l, r]) = (isN l && (isN r && !decide (r = .int 0))) := by
                    show (isP n _ && (isP n _ && (!decide (V.int xi = V.int yi) && _))) = _
                    rw [hx, hy, hxy]
                    rfl
                  rw [e] at k
                  refine ⟨_, rfl, l, rfl, sl, _, rfl, ?_⟩
                  cases hl : isN l with
                  | false =>
                    rw [hl] at k
                    exact k _ e1
                  | true =>
                    rw [hl] at k
                    refine ⟨_, rfl, r, rfl, sr, _, rfl, ?_⟩
                    cases hr' : isN r with
                    | false =>
                      rw [hr'] at k
                      exact k _ e1
                    | true =>
                      rw [hr'] at k
                      obtain ⟨ri, rfl, r0⟩ := isN_int hr'
                      refine ⟨_, rfl, _, _, rfl, rfl, ?_⟩
                      have z : decide (ri > 0) = (true && (true && !decide (V.int ri = V.int 0))) := by
                        by_cases q : ri = 0
                        · rw [q]
                          rfl
                        · rw [decide_eq_true (show ri > 0 by omega), decide_eq_false (fun w => q (V.int.inj w))]
                          rfl
                      have k2 := k _ e1
                      rw [← z] at k2
                      exact k2
theorem ok_isDoor {f fI fN fL fPl : Addr} {fd fdI fdN fdL fdPl : FuncData} (F : Fun K "is_door" "is_door" sIsDoor f fd) (T : Bt mg) (FI : Fun K "is_integer" "is_integer" sIsInt fI fdI) (gI : mg "is_integer" = some (.ref fI)) (bI : Binds K fdI ["thing"] [])
    (FN : Fun K "is_number" "is_number" sIsNum fN fdN) (gN : mg "is_number" = some (.ref fN)) (bN : Binds K fdN ["thing"] []) (FL : Fun K "is_list" "is_list" sIsList fL fdL) (gL : mg "is_list" = some (.ref fL)) (bL : Binds K fdL ["thing"] [])
    (FPl : Fun K "is_place" "is_place" sIsPlace fPl fdPl) (gPl : mg "is_place" = some (.ref fPl)) (bPl : Binds K fdPl ["places", "thing"] []) : FnOk P w K mg base CX0 4 f fd ["places", "thing"] spDoor := by
  have GN : FnOk P w K mg base CX0 2 fN fdN ["thing"] spNum := ok_isNum FN T FI gI bI
  have GL : FnOk P w K mg base CX0 1 fL fdL ["thing"] spLst := ok_isLst FL T
  have GPl : FnOk P w K mg base CX0 3 fPl fdPl ["places", "thing"] spPlace := ok_isPlace FPl T FI gI bI FN gN bN
  refine F.ok scIsDoor (fun vs H Q E h => ?_) (fun cdv A outer s H vs Q E hr h => ?_)
  · obtain ⟨n, v, rfl, _⟩ := h
    rfl
  · obtain ⟨n, v, rfl, hv, hi, k⟩ := h
    refine ⟨_, (pss_cons (ps_if (PW.pt (pw_or (pt_not (pt_val (pe_call GL (hr.mono (by decide)) (by rfl) gL FL.kp bL .nil pass0 (pa_cons (pv 1) pa_nil)))) (pw_or1 (pt_cmpR op_ne (pe_callB call_len_seq (by rfl) T.len (by decide +kernel) (pa_cons (pv 1) pa_nil)) pe_int (nomark _))))) (pss_one (ps_ret pe_bl)) pss_nil)
  (Evl.pss_cut (ps_asg (pv 1) (pg_or (pg_tup rfl (pgs_cons (pg_name (i := 2) (x := "sort") scIsDoor.nd rfl (Or.inl rfl)) (pgs_cons (pg_name (i := 3) (x := "place") scIsDoor.nd rfl (Or.inl rfl)) (pgs_cons (pg_name (i := 4) (x := "hour") scIsDoor.nd rfl (Or.inl rfl)) pgs_nil)))) (pg_unl rfl (pgs_cons (pg_name (i := 2) (x := "sort") scIsDoor.nd rfl (Or.inl rfl)) (pgs_cons (pg_name (i := 3) (x := "place") scIsDoor.nd rfl (Or.inl rfl)) (pgs_cons (pg_name (i := 4) (x := "hour") scIsDoor.nd rfl (Or.inl rfl)) pgs_nil))))))
  (pss_cons (ps_if (PW.pt (pw_or (pt_not (pt_val (pe_callB call_isi (by rfl) T.isi (by decide +kernel) (pa_cons (pv 2) (pa_cons (pe_bltn (v := .ty "str") (by rfl) T.str (by decide +kernel) rfl) pa_nil))))) (pw_or1 (pt_cmpR op_notIn_seq (pv 2) (pe_tup (pa_cons pe_str (pa_cons pe_str pa_nil))) (by rfl))))) (pss_one (ps_ret pe_bl)) pss_nil)
  (pss_one (ps_ret (pe_and (pe_call GPl hr (by rfl) gPl FPl.kp bPl .nil pass0 (pa_cons (pv 0) (pa_cons (pv 3) pa_nil))) (pe_one (pe_call GN (hr.mono (by decide)) (by rfl) gN FN.kp bN .nil pass0 (pa_cons (pv 4) pa_nil))))))))), ?_⟩
    refine ⟨_, rfl, v, rfl, hv, fun H1 e1 => ⟨_, rfl, ?_⟩⟩
    cases hs : seqOf H v with
    | none =>
      rw [hs] at k
      exact k _ e1
    | some xs =>
      rw [hs] at k
      obtain ⟨a, rfl, ha⟩ := sq_of (K := K) hv hs
      refine iteF ⟨_, rfl, a, xs, rfl, ?_, rfl, _, rfl, ?_⟩
      · rcases ha with ha | ha
        · exact .inl (SqL.of (e1 _ _ ha))
        · exact .inr (SqT.of (e1 _ _ ha))
      refine ite2 (fun hc => ?_) (fun hc => ?_)
      · rw [isDoor_len (fun z => by rw [z] at hc; cases hc)] at k
        exact k _ e1
      · have hl : xs.length = 3 := by
          have z : decide (V.int (xs.length : Nat) = V.int 3) = true := by simpa using hc
          exact Int.ofNat.inj (V.int.inj (of_decide_eq_true z))
        match xs, hl with
        | [x, y, l], _ =>
          have sh := hi _ hs
          have sx := (sh x (by simp)).same e1
          have sy := (sh y (by simp)).same e1
          have sl := (sh l (by simp)).same e1
          refine ⟨fun σ' H' => H' = H1 ∧ σ' = [some (.int n), some (.ref a), some x, some y, some l], ?_, ?_⟩
          · refine ⟨_, rfl, ?_⟩
            rcases ha with ha | ha
            · exact .inr ⟨a, _, rfl, SqL.of (e1 _ _ ha), rfl, _, _, rfl, _, _, rfl, _, _, rfl, rfl, rfl, rfl⟩
            · exact .inl ⟨a, _, rfl, SqT.of (e1 _ _ ha), rfl, _, _, rfl, _, _, rfl, _, _, rfl, rfl, rfl, rfl⟩
          · rintro σ' H' ⟨rfl, rfl⟩
            obtain ⟨Ty, i, b, ll, t, s, ty, ki, kb, kl, kt, ks, e0, e2, s1, s2⟩ := shp_ty (K := K) sx
            refine ⟨_, rfl, _, _, _, _, s, rfl, .ty _, ty.now, kit_ty ks, s, rfl, ?_⟩
            cases s with
            | false =>
              have z : isDoor n (some [x, y, l]) = false := by
                cases x with
                | str q => exact absurd (s2 q rfl) (by decide)
                | _ => rfl
              rw [z] at k
              exact k _ e1
            | true =>
              obtain ⟨z, rfl⟩ := s1 rfl
              refine ⟨_, rfl, (by show 2 ≤ sizeLine; decide), fun tp htp => ?_⟩
              have e3 := same_new (o := HO.tup [V.str "in", V.str "out"]) htp
              refine ⟨tp, _, rfl, .inr (SqT.of upd_same), rfl, (by decide +kernel), _, rfl, ?_⟩
              cases hio : isIO (.str z) with
              | false =>
                have q : inV (.str z) [.str "in", .str "out"] = false := hio
                have e : isDoor n (some [.str z, y, l]) = false := by
                  show (isIO (.str z) && _) = false
                  rw [hio]
                  rfl
                rw [e] at k
                rw [q]
                exact k _ (e1.trans e3)
              | true =>
                have q : inV (.str z) [.str "in", .str "out"] = true := hio
                have e : isDoor n (some [.str z, y, l]) = (isP n y && isN l) := by
                  show (isIO (.str z) && (isP n y && isN l)) = _
                  rw [hio]
                  rfl
                rw [e] at k
                rw [q]
                refine iteF ⟨_, rfl, _, rfl, n, y, rfl, sy.same e3, _, rfl, ?_⟩
                cases hy : isP n y with
                | false =>
                  rw [hy] at k
                  exact k _ (e1.trans e3)
                | true =>
                  rw [hy] at k
                  exact ⟨_, rfl, l, rfl, sl.same e3, k _ (e1.trans e3)⟩
end
end K17

set_option Elab.async false
set_option linter.all false
set_option maxRecDepth 100000
set_option maxHeartbeats 8000000
namespace K17
open PySem PySem.Spec PyProof.Rows L2 Own
/-! ### a walk over a dict that is read off just then -/
def iKeysN (td : TE) : TI := fun σ H R => td σ H fun x H1 => ∃ d kvs, x = .ref d ∧ H1 d = some (.dK kvs) ∧ ∀ o, R (Itk d o kvs) (upd H1 d (.frz o (.dK kvs)))
section
variable {X : Cx} {tg e : Expr} {td : TE} {st : Stmt} {t t2 : TS}
theorem pi_keysN (he : PE X e td) : PI X tg e (iKeysN td) := by
  refine ⟨fun pins s σ H R I h => ?_⟩
  refine thn (he.run pins s σ H _ I h) fun u s1 ⟨x, H1, I1, rx, d, kvs, ex, hd, q⟩ => ?_
  subst ex
  obtain rfl : u = Value.ref d := rx
  obtain ⟨o, I2⟩ := I1.lock hd trivial
  obtain ⟨hs, hgd, hx, es, ep, vs, hdt, hsz, kv, hm⟩ := I2.frzK upd_same
  refine iter_keys hs hgd hx hdt (pi_one (tk := s1.toks) I2 _ (turn_keys _ hdt) ⟨_, Heap.get?_push_size _ rfl, rfl, ?_⟩ (q o))
  rw [hsz] <;> rfl
theorem ps_or (h : PS X st t) (h2 : PS X st t2) : PS X st (fun D σ H => t D σ H ∨ t2 D σ H) := ⟨fun pins s σ H D I hw => by
  rcases hw with hw | hw
  · exact h.run pins s σ H D I hw
  · exact h2.run pins s σ H D I hw⟩
end
/-! ### ways of roads of length 0 -/
inductive Rch (es : List (Int × Int)) : Int → Int → Prop
  | one {a b : Int} (h : (a, b) ∈ es) : Rch es a b
  | step {a b c : Int} (h : Rch es a b) (h2 : (b, c) ∈ es) : Rch es a c
/-- a dict of ints -/
def trueD (bs : List Int) : List (Key × V) := bs.map fun i => (Sum.inl i, V.bl true)
theorem trueD_val {x : Int} : ∀ bs : List Int, valV (trueD bs) (Sum.inl x) = if x ∈ bs then some (V.bl true) else none
  | [] => rfl
  | b :: r => by
    have ih := trueD_val (x := x) r
    show valV ((Sum.inl b, V.bl true) :: trueD r) (Sum.inl x) = _
    by_cases e : b = x
    · rw [if_pos (by rw [e]; exact List.mem_cons_self)]
      exact valV_pos (p := (Sum.inl b, V.bl true)) (by rw [e])
    · rw [valV_neg (p := (Sum.inl b, V.bl true)) (fun z => e (Sum.inl.inj z)), ih]
      by_cases m : x ∈ r
      · rw [if_pos m, if_pos (List.mem_cons_of_mem _ m)]
      · rw [if_neg m, if_neg (fun z => by
          rcases List.mem_cons.mp z with q | q
          · exact e q.symm
          · exact m q)]
theorem trueD_put {x : Int} {bs : List Int} (h : x ∉ bs) : putK (trueD bs) (Sum.inl x) (V.bl true) = trueD (bs ++ [x]) := by
  rw [putK_new _ (by rw [trueD_val, if_neg h])]
  unfold trueD
  rw [List.map_append]
  rfl
theorem trueD_len (bs : List Int) : (trueD bs).length = bs.length := List.length_map _
/-- the roads of length 0 so far, by the places where they begin -/
def Onw (H : Hp) (o : Addr) (es : List (Int × Int)) : Prop := ∃ kvs : List (Key × V), H o = some (.dK kvs) ∧ kvs.length ≤ es.length ∧
  (∀ a : Int, (valV kvs (Sum.inl a) = none ∧ ∀ b, (a, b) ∉ es) ∨ ∃ d bs, valV kvs (Sum.inl a) = some (.ref d) ∧ H d = some (.dK (trueD bs)) ∧ bs.length ≤ es.length ∧ d ≠ o ∧ ∀ b, b ∈ bs ↔ (a, b) ∈ es) ∧
  ∀ a a' d, valV kvs (Sum.inl a) = some (.ref d) → valV kvs (Sum.inl a') = some (.ref d) → a = a'
theorem Onw.same {H H' : Hp} {o : Addr} {es : List (Int × Int)} (h : Onw H o es) (e : ∀ b u, H b = some u → H' b = some u) : Onw H' o es := by
  obtain ⟨kvs, h1, h2, h3, h4⟩ := h
  refine ⟨kvs, e _ _ h1, h2, fun a => ?_, h4⟩
  rcases h3 a with h | ⟨d, bs, k1, k2, k3, k4⟩
  · exact .inl h
  · exact .inr ⟨d, bs, k1, e _ _ k2, k3, k4⟩
def spComes : Sp := fun vs H Q _ => ∃ (o : Addr) (s t : Int) (es : List (Int × Int)), vs = [.ref o, .int s, .int t] ∧ Onw H o es ∧ es.length ≤ 1000 ∧ ∀ H' c, Same H H' → (c = true ↔ Rch es s t) → Q (.bl c) H'
abbrev NComes : List Str := ["onward", "begin", "end", "seen", "waiting", "here", "place"]
theorem scComes : FnScope NComes ["onward", "begin", "end"] (defScope sComes) := ⟨rfl, rfl, rfl, by decide +kernel, rfl, by decide +kernel, by decide +kernel⟩
/-- while it is looked for: all in seen is come to, and what is seen and not waiting has all its next ones in seen, none of them the end -/
structure Look (es : List (Int × Int)) (s t : Int) (ss ws : List Int) : Prop where
  nd : ss.Nodup
  b : s ∈ ss
  w : ∀ x ∈ ws, x ∈ ss
  r : ∀ x ∈ ss, x = s ∨ Rch es s x
  c : ∀ x ∈ ss, x ∈ ws ∨ ∀ y, (x, y) ∈ es → y ∈ ss ∧ y ≠ t
  l : ws.length ≤ ss.length
theorem Look.no {es : List (Int × Int)} {s t : Int} {ss : List Int} (l : Look es s t ss []) : ¬ Rch es s t := by
  have key : ∀ {a b : Int}, Rch es a b → a = s → b ∈ ss ∧ b ≠ t := fun {a b} h => by
    induction h with
    | one h =>
      intro e
      subst e
      rcases l.c _ l.b with z | z
      · cases z
      · exact z _ h
    | step h h2 ih =>
      intro e
      rcases l.c _ (ih e).1 with z | z
      · cases z
      · exact z _ h2
  exact fun h => (key h rfl).2 rfl
theorem nd_len : ∀ {xs ys : List Int}, xs.Nodup → (∀ x ∈ xs, x ∈ ys) → xs.length ≤ ys.length
  | [], _, _, _ => Nat.zero_le _
  | x :: r, ys, h, s => by
    obtain ⟨h1, h2⟩ := List.nodup_cons.mp h
    have hx := s x List.mem_cons_self
    have ih := nd_len (xs := r) (ys := ys.erase x) h2 fun y hy => (List.mem_erase_of_ne (fun z => h1 (by rw [← z]; exact hy))).mpr (s y (List.mem_cons_of_mem _ hy))
    rw [List.length_erase_of_mem hx] at ih
    have z := List.length_pos_of_mem hx
    rw [List.length_cons]
    omega
/-- how many places there can be -/
theorem seen_len {es : List (Int × Int)} {s : Int} {ss : List Int} (nd : ss.Nodup) (r : ∀ x ∈ ss, x = s ∨ Rch es s x) : ss.length ≤ es.length + 1 := by
  have z := nd_len (ys := s :: es.map Prod.snd) nd fun x hx => by
    rcases r x hx with rfl | h
    · exact List.mem_cons_self
    · cases h with
      | one h => exact List.mem_cons_of_mem _ (List.mem_map.mpr ⟨_, h, rfl⟩)
      | step _ h => exact List.mem_cons_of_mem _ (List.mem_map.mpr ⟨_, h, rfl⟩)
  rw [List.length_cons, List.length_map] at z
  exact z
/-- while the next ones of h are gone through -/
structure Step (es : List (Int × Int)) (s t h : Int) (done : List Int) (ss ws : List Int) : Prop where
  nd : ss.Nodup
  b : s ∈ ss
  w : ∀ x ∈ ws, x ∈ ss
  r : ∀ x ∈ ss, x = s ∨ Rch es s x
  c : ∀ x ∈ ss, x ∈ ws ∨ x = h ∨ ∀ y, (x, y) ∈ es → y ∈ ss ∧ y ≠ t
  p : ∀ y ∈ done, y ∈ ss ∧ y ≠ t
  hs : h ∈ ss
  l : ws.length ≤ ss.length
theorem Look.pop {es : List (Int × Int)} {s t h : Int} {ss ws : List Int} (l : Look es s t ss (ws ++ [h])) : Step es s t h [] ss ws where
  nd := l.nd
  b := l.b
  w := fun x hx => l.w x (List.mem_append.mpr (.inl hx))
  r := l.r
  c := fun x hx => by
    rcases l.c x hx with z | z
    · rcases List.mem_append.mp z with q | q
      · exact .inl q
      · exact .inr (.inl (List.mem_singleton.mp q))
    · exact .inr (.inr z)
  p := fun y hy => by cases hy
  hs := l.w h (List.mem_append.mpr (.inr List.mem_cons_self))
  l := by
    have z := l.l
    rw [List.length_append] at z
    omega
theorem Step.old {es : List (Int × Int)} {s t h x : Int} {done ss ws : List Int} (l : Step es s t h done ss ws) (hx : x ∈ ss) (ht : x ≠ t) : Step es s t h (done ++ [x]) ss ws :=
  ⟨l.nd, l.b, l.w, l.r, l.c, fun y hy => by
    rcases List.mem_append.mp hy with q | q
    · exact l.p y q
    · rw [List.mem_singleton.mp q]
      exact ⟨hx, ht⟩, l.hs, l.l⟩
theorem Step.new {es : List (Int × Int)} {s t h x : Int} {done ss ws : List Int} (l : Step es s t h done ss ws) (hx : x ∉ ss) (ht : x ≠ t) (he : (h, x) ∈ es) : Step es s t h (done ++ [x]) (ss ++ [x]) (ws ++ [x]) := by
  have up : ∀ y, y ∈ ss → y ∈ ss ++ [x] := fun y hy => List.mem_append.mpr (.inl hy)
  have me : x ∈ ss ++ [x] := List.mem_append.mpr (.inr List.mem_cons_self)
  refine ⟨List.nodup_append.mpr ⟨l.nd, by simp, fun a ha b hb z => ?_⟩, up _ l.b, fun y hy => ?_, fun y hy => ?_, fun y hy => ?_, fun y hy => ?_, up _ l.hs, by rw [List.length_append, List.length_append]; exact Nat.succ_le_succ l.l⟩
  · rw [List.mem_singleton.mp hb] at z
    exact hx (by rw [← z]; exact ha)
  · rcases List.mem_append.mp hy with q | q
    · exact up _ (l.w y q)
    · rw [List.mem_singleton.mp q]
      exact me
  · rcases List.mem_append.mp hy with q | q
    · exact l.r y q
    · rw [List.mem_singleton.mp q]
      rcases l.r h l.hs with z | z
      · rw [z] at he
        exact .inr (.one he)
      · exact .inr (.step z he)
  · rcases List.mem_append.mp hy with q | q
    · rcases l.c y q with z | z | z
      · exact .inl (List.mem_append.mpr (.inl z))
      · exact .inr (.inl z)
      · exact .inr (.inr fun u hu => ⟨up _ (z u hu).1, (z u hu).2⟩)
    · exact .inl (List.mem_append.mpr (.inr q))
  · rcases List.mem_append.mp hy with q | q
    · exact ⟨up _ (l.p y q).1, (l.p y q).2⟩
    · rw [List.mem_singleton.mp q]
      exact ⟨me, ht⟩
theorem Step.look {es : List (Int × Int)} {s t h : Int} {done ss ws : List Int} (l : Step es s t h done ss ws) (d : ∀ y, (h, y) ∈ es → y ∈ done) : Look es s t ss ws :=
  ⟨l.nd, l.b, l.w, l.r, fun x hx => by
    rcases l.c x hx with z | z | z
    · exact .inl z
    · rw [z]
      exact .inr fun y hy => l.p y (d y hy)
    · exact .inr z, l.l⟩
structure CI (H : Hp) (o s t : V) (sd wl : Addr) (es : List (Int × Int)) (si ti : Int) (m : Nat) (σ : L2.St) (H' : Hp) : Prop where
  ex : ∃ (ss ws : List Int) (here place : Option V), σ = [some o, some s, some t, some (.ref sd), some (.ref wl), here, place] ∧ H' sd = some (.dK (trueD ss)) ∧ H' wl = some (.lst (ws.map V.int)) ∧ Same H H' ∧ Look es si ti ss ws ∧ m = 2 * (es.length + 1 - ss.length) + ws.length
structure CL (H : Hp) (o s t : V) (sd wl d : Addr) (od : Obj) (bs : List Int) (es : List (Int × Int)) (si ti h : Int) (m : Nat) (i : Nat) (σ : L2.St) (H' : Hp) : Prop where
  ex : ∃ (ss ws : List Int) (place : Option V), σ = [some o, some s, some t, some (.ref sd), some (.ref wl), some (.int h), place] ∧ H' sd = some (.dK (trueD ss)) ∧ H' wl = some (.lst (ws.map V.int)) ∧ Step es si ti h (bs.take i) ss ws ∧ 2 * (es.length + 1 - ss.length) + ws.length < m
  k : ∀ b u, H b = some u → b ≠ d → H' b = some u
  f : H' d = some (.frz od (.dK (trueD bs)))
section
variable {P : Program} {w : World} {K : PySem.W.Frag} {mg : Str → Option Value} {base : Heap}
theorem ok_comes {f : Addr} {fd : FuncData} (F : Fun K "comes_to" "comes_to" sComes f fd) (T : Bt mg) : FnOk P w K mg base CX0 1 f fd ["onward", "begin", "end"] spComes := by
  refine F.ok scComes (fun vs H Q E h => ?_) (fun cdv A outer s H vs Q E hr h => ?_)
  · obtain ⟨o, s, t, es, rfl, _⟩ := h
    rfl
  · obtain ⟨o, s, t, es, rfl, O, hes, k⟩ := h
    have hu := hu_of hr
    refine ⟨_, (pss_cons (ps_set (i := 3) scComes.nd rfl (Or.inl rfl) (pe_disp (pps_cons (pv 1) pe_bl pps_nil) (by rfl) (by rfl) (fun z => by cases z) (by decide)))
  (pss_cons (ps_set (i := 4) scComes.nd rfl (Or.inl rfl) (pe_lst (pa_cons (pv 1) pa_nil)))
  (pss_cons (ps_while PassesOwn.never (pt_truth (pv 4) (by intro _; rfl)) (pss_cons (ps_set (i := 5) scComes.nd rfl (Or.inl rfl) (pe_bm0 PySem.F.plainAttrs_list PySem.F.slot_list_pop PySem.F.type_list_pop mt_pop (pv 4)))
  (pss_one (ps_or (ps_lock (ps_for PassesOwn.never rfl (pi_keys (pe_dget2 (hu_of hr) (pv 0) (pv 5) pe_dnewK ⟨by rfl, by rfl, by rfl, by rfl⟩)) (pg_name (i := 6) (x := "place") scComes.nd rfl (Or.inl rfl))
   (pss_cons (ps_if (pt_cmpR op_eq (pv 6) (pv 2) (nomark _)) (pss_one (ps_ret pe_bl)) pss_nil)
  (pss_one (ps_if (pt_cmp (pc_dnotin (hu_of hr) (pv 6) (pv 3))) (pss_cons (ps_dput (hu_of hr) (pv 3) (pv 6) pe_bl rfl)
  (pss_one (ps_expr (pe_bm PySem.F.plainAttrs_list PySem.F.slot_list_append PySem.F.type_list_append mt_append (pv 4) (pa_cons (pv 6) pa_nil))))) pss_nil))))) (ps_for PassesOwn.never rfl (pi_keysN (pe_dget2 (hu_of hr) (pv 0) (pv 5) pe_dnewK ⟨by rfl, by rfl, by rfl, by rfl⟩)) (pg_name (i := 6) (x := "place") scComes.nd rfl (Or.inl rfl))
   (pss_cons (ps_if (pt_cmpR op_eq (pv 6) (pv 2) (nomark _)) (pss_one (ps_ret pe_bl)) pss_nil)
  (pss_one (ps_if (pt_cmp (pc_dnotin (hu_of hr) (pv 6) (pv 3))) (pss_cons (ps_dput (hu_of hr) (pv 3) (pv 6) pe_bl rfl)
  (pss_one (ps_expr (pe_bm PySem.F.plainAttrs_list PySem.F.slot_list_append PySem.F.type_list_append mt_append (pv 4) (pa_cons (pv 6) pa_nil))))) pss_nil))))))))
  (pss_one (ps_ret pe_bl))))), ?_⟩
    refine fun sd hsd => ⟨_, rfl, upd_same, [(.inl s, .bl true)], rfl, (by show 1 ≤ 15; decide), _, rfl, (by show 1 ≤ sizeLine; decide), fun wl hwl => ?_⟩
    have md : mergeK [] [((Sum.inl s, V.bl true) : Key × V)] = trueD [s] := rfl
    rw [md] at hwl ⊢
    have s1 : Same H (upd (upd H sd (.dK [])) sd (.dK (trueD [s]))) := fun b u e => by
      rw [upd_ne (ne_of_none e hsd), upd_ne (ne_of_none e hsd)]
      exact e
    have nsw : sd ≠ wl := ne_of_none (H := upd (upd H sd (.dK [])) sd (.dK (trueD [s]))) upd_same hwl
    have hwl0 : H wl = none := by
      rw [upd_ne nsw.symm, upd_ne nsw.symm] at hwl
      exact hwl
    have lk0 : Look es s t [s] [s] := ⟨by simp, List.mem_cons_self, fun x hx => hx, fun x hx => .inl (List.mem_singleton.mp hx), fun x hx => .inl hx, Nat.le_refl _⟩
    refine ⟨CI H (.ref o) (.int s) (.int t) sd wl es s t, ⟨_, ⟨[s], [s], _, _, rfl, by rw [upd_ne nsw]; exact upd_same, upd_same, s1.trans (same_new hwl), lk0, rfl⟩⟩, ?_⟩
    rintro m σ H1 ⟨ss, ws, here, place, rfl, hs, hw, sm, lk, rfl⟩
    refine ⟨_, rfl, _, .inl ⟨_, SqL.of hw, rfl⟩, ?_⟩
    rcases List.eq_nil_or_concat ws with rfl | ⟨wi, h, rfl⟩
    · exact iteF (k _ _ sm ⟨fun z => (by cases z), fun z => absurd z lk.no⟩)
    · have en : (!(List.map V.int (wi ++ [h])).isEmpty) = true := by simp
      rw [List.concat_eq_append] at hw lk ⊢
      rw [en]
      refine iteT ⟨fun σ' H' => ∃ m', m' < 2 * (es.length + 1 - ss.length) + (wi ++ [h]).length ∧ CI H (.ref o) (.int s) (.int t) sd wl es s t m' σ' H', fun σ' H' z => z, ?_⟩
      have lst : (List.map V.int (wi ++ [h]))[(List.map V.int (wi ++ [h])).length - 1]? = some (.int h) := by
        simp
      have drp : (List.map V.int (wi ++ [h])).dropLast = wi.map V.int := by
        rw [List.map_append]
        simp
      refine ⟨_, rfl, .inl ⟨rfl, _, SqL.of hw⟩, wl, _, .int h, rfl, rfl, hw, lst, ?_⟩
      rw [drp]
      have sm2 : Same H (upd H1 wl (.lst (wi.map V.int))) := fun b u e => by
        rw [upd_ne (ne_of_none e hwl0)]
        exact sm _ _ e
      have hs2 : upd H1 wl (.lst (wi.map V.int)) sd = some (.dK (trueD ss)) := by
        rw [upd_ne nsw]
        exact hs
      have hw2 : upd H1 wl (.lst (wi.map V.int)) wl = some (.lst (wi.map V.int)) := upd_same
      generalize upd H1 wl (.lst (wi.map V.int)) = H2 at sm2 hs2 hw2 ⊢
      have st0 := lk.pop
      have mm : 2 * (es.length + 1 - ss.length) + wi.length < 2 * (es.length + 1 - ss.length) + (wi ++ [h]).length := by
        rw [List.length_append, List.length_singleton]
        omega
      generalize 2 * (es.length + 1 - ss.length) + (wi ++ [h]).length = m at mm ⊢
      clear hs hw sm lst drp en lk
      obtain ⟨kvs, hk, lkv, adj, inj⟩ := O
      rcases adj h with ⟨no, ne⟩ | ⟨d, bs, yes, hd, lb, ndo, ib⟩
      · refine .inr ⟨_, rfl, o, rfl, .inl ⟨kvs, .inl (sm2 _ _ hk)⟩, _, rfl, fun e he => ⟨_, DGet.k (k := Sum.inl h) (same_new he _ _ (sm2 _ _ hk)), e, [], ?_, upd_same, fun oe => ?_⟩⟩
        · rw [no]
          rfl
        · refine for_it walk_keys (fun i σ' H' => ∃ m', m' < m ∧ CI H (.ref o) (.int s) (.int t) sd wl es s t m' σ' H' ∧ H' e = some (.frz oe (.dK []))) ?_ (fun i σ' H' _ ⟨_, _, _, z⟩ => z) (fun i x σ' H' H'' hi => absurd hi (Nat.not_lt_zero i)) (fun σ' H' ⟨m', z1, z2, _⟩ => ⟨m', z1, z2⟩)
          have s3 : ∀ b u, H2 b = some u → upd (upd H2 e (.dK [])) e (.frz oe (.dK [])) b = some u := fun b u z => by
            rw [upd_ne (ne_of_none z he), upd_ne (ne_of_none z he)]
            exact z
          exact ⟨_, mm, ⟨ss, wi, _, _, rfl, s3 _ _ hs2, s3 _ _ hw2, fun b u z => s3 _ _ (sm2 _ _ z), st0.look fun y hy => absurd hy (ne y), rfl⟩, upd_same⟩
      · have nsd : sd ≠ d := (ne_of_none hd hsd).symm
        have nwd : wl ≠ d := (ne_of_none hd hwl0).symm
        have nod : o ≠ d := ndo.symm
        refine .inl ⟨d, _, sm2 _ _ hd, trivial, fun od => ?_⟩
        have fz : ∀ b u, H b = some u → b ≠ d → upd H2 d (.frz od (.dK (trueD bs))) b = some u := fun b u e n => by
          rw [upd_ne n]
          exact sm2 _ _ e
        refine ⟨_, rfl, o, rfl, .inl ⟨kvs, .inl (fz _ _ hk nod)⟩, _, rfl, fun e he => ?_⟩
        have he2 : H2 e = none ∧ e ≠ d := by
          by_cases z : e = d
          · rw [z, upd_same] at he
            cases he
          · rw [upd_ne z] at he
            exact ⟨he, z⟩
        have s3 : ∀ b u, upd H2 d (.frz od (.dK (trueD bs))) b = some u → upd (upd H2 d (.frz od (.dK (trueD bs)))) e (.dK []) b = some u := fun b u z => by
          rw [upd_ne (ne_of_none z he)]
          exact z
        refine ⟨_, DGet.k (k := Sum.inl h) (s3 _ _ (fz _ _ hk nod)), ?_⟩
        rw [yes]
        refine ⟨d, od, rfl, .inl ⟨trueD bs, s3 _ _ upd_same, ?_⟩⟩
        have undo : ∀ H', (∀ b u, H b = some u → b ≠ d → H' b = some u) → Same H (upd H' d (.dK (trueD bs))) := fun H' z b u e => by
          by_cases q : b = d
          · rw [q, upd_same, ← hd, ← q]
            exact e
          · rw [upd_ne q]
            exact z b u e q
        refine for_it walk_keys (CL H (.ref o) (.int s) (.int t) sd wl d od bs es s t h m) ?_ (fun i σ' H' _ q => q.f) ?_ ?_
        · refine ⟨⟨ss, wi, _, rfl, s3 _ _ ?_, s3 _ _ ?_, st0, mm⟩, fun b u z n => s3 _ _ (fz b u z n), s3 _ _ upd_same⟩
          · rw [upd_ne nsd]
            exact hs2
          · rw [upd_ne nwd]
            exact hw2
        · rintro i x σ' H3 H4 hi ⟨⟨ss3, ws3, place3, rfl, hs3, hw3, stp, mm3⟩, k3, f3⟩ ⟨rfl, kk, vv, hkv, rfl⟩
          have hkv' : (trueD bs)[i]? = some (kk, vv) := hkv
          unfold trueD at hkv'
          rw [List.getElem?_map] at hkv'
          obtain ⟨y, hy, e⟩ := Option.map_eq_some_iff.mp hkv'
          obtain rfl : Sum.inl y = kk := (Prod.mk.inj e).1
          have ey : (h, y) ∈ es := (ib y).mp (List.mem_of_getElem? hy)
          have tk : bs.take (i + 1) = bs.take i ++ [y] := by
            rw [List.take_add_one, hy]
            rfl
          refine ⟨_, rfl, _, rfl, rfl, _, rfl, ite2 (fun hc => ?_) (fun hc => ?_)⟩
          · have et : y = t := V.int.inj (of_decide_eq_true hc)
            refine ⟨f3, k _ _ (undo _ k3) ⟨fun _ => ?_, fun _ => rfl⟩⟩
            rw [← et]
            rcases stp.r h stp.hs with z | z
            · rw [z] at ey
              exact .one ey
            · exact .step z ey
          · have nt : y ≠ t := fun z => hc (decide_eq_true (congrArg V.int z))
            refine ⟨_, rfl, _, rfl, sd, _, rfl, DGet.k (k := Sum.inl y) hs3, _, rfl, ?_⟩
            rw [trueD_val]
            by_cases hm : y ∈ ss3
            · rw [if_pos hm]
              refine iteF ⟨⟨ss3, ws3, _, rfl, hs3, hw3, ?_, mm3⟩, k3, f3⟩
              rw [tk]
              exact stp.old hm nt
            · rw [if_neg hm]
              have stp2 := stp.new hm nt ey
              have ls : (ss3 ++ [y]).length ≤ es.length + 1 := seen_len stp2.nd stp2.r
              have ls2 : ss3.length + 1 ≤ es.length + 1 := by
                rw [List.length_append] at ls
                exact ls
              refine iteT ⟨_, rfl, _, rfl, sd, _, rfl, DPut.k (k := Sum.inl y) hs3 (by rw [trueD_len]; exact Nat.lt_of_le_of_lt (show ss3.length ≤ 1000 by omega) (by decide)), ?_⟩
              rw [trueD_put hm]
              have hw4 : upd H4 sd (.dK (trueD (ss3 ++ [y]))) wl = some (.lst (ws3.map V.int)) := by
                rw [upd_ne nsw.symm]
                exact hw3
              have lw : ws3.length < sizeLine := Nat.lt_of_le_of_lt (show ws3.length ≤ 1000 by have := stp.l; omega) (by decide)
              refine ⟨_, rfl, .inl ⟨rfl, _, SqL.of hw4⟩, _, rfl, wl, _, _, rfl, rfl, hw4, by rw [List.length_map]; exact lw, ?_⟩
              refine ⟨⟨ss3 ++ [y], ws3 ++ [y], _, rfl, ?_, ?_, ?_, ?_⟩, fun b u z n => ?_, ?_⟩
              · rw [upd_ne nsw]
                exact upd_same
              · rw [upd_same, List.map_append]
                rfl
              · rw [tk]
                exact stp2
              · rw [List.length_append, List.length_append, List.length_singleton]
                omega
              · rw [upd_ne (ne_of_none z hwl0), upd_ne (ne_of_none z hsd)]
                exact k3 b u z n
              · rw [upd_ne nwd.symm, upd_ne nsd.symm]
                exact f3
        · rintro σ' H3 ⟨⟨ss3, ws3, place3, rfl, hs3, hw3, stp, mm3⟩, k3, f3⟩
          have full : bs.take (trueD bs).length = bs := by
            rw [trueD_len, List.take_of_length_le (Nat.le_refl _)]
          rw [full] at stp
          refine ⟨f3, _, mm3, ⟨ss3, ws3, _, _, rfl, ?_, ?_, undo _ k3, stp.look fun y hy => (ib y).mpr hy, rfl⟩⟩
          · rw [upd_ne nsd]
            exact hs3
          · rw [upd_ne nwd]
            exact hw3
end
end K17

set_option Elab.async false
set_option linter.all false
set_option maxRecDepth 100000
set_option maxHeartbeats 8000000
namespace K17
open PySem PySem.Spec PyProof.Rows L2 Own
theorem trueD_puts (x : Int) (bs : List Int) : ∃ bs', putK (trueD bs) (Sum.inl x) (V.bl true) = trueD bs' ∧ bs'.length ≤ bs.length + 1 ∧ ∀ b, b ∈ bs' ↔ b ∈ bs ∨ b = x := by
  by_cases h : x ∈ bs
  · refine ⟨bs, ?_, Nat.le_succ _, fun b => ⟨.inl, fun z => z.elim id fun q => by rw [q]; exact h⟩⟩
    unfold putK
    rw [valV_any, trueD_val, if_pos h]
    show (trueD bs).map _ = _
    unfold trueD
    rw [List.map_map]
    refine List.map_congr_left fun i _ => ?_
    show (if (Sum.inl i : Key) = Sum.inl x then (Sum.inl i, V.bl true) else (Sum.inl i, V.bl true)) = _
    split <;> rfl
  · refine ⟨bs ++ [x], trueD_put h, by rw [List.length_append]; exact Nat.le_refl _, fun b => ?_⟩
    rw [List.mem_append, List.mem_singleton]
theorem Onw.old {H : Hp} {o d : Addr} {es : List (Int × Int)} {a b : Int} {kvs : List (Key × V)} {bs : List Int} (O : Onw H o es) (hk : H o = some (.dK kvs)) (hv : valV kvs (Sum.inl a) = some (.ref d)) (hd : H d = some (.dK (trueD bs))) (nd : d ≠ o) :
    Onw (upd H d (.dK (putK (trueD bs) (Sum.inl b) (V.bl true)))) o (es ++ [(a, b)]) := by
  obtain ⟨kvs', h1, h2, h3, h4⟩ := O
  obtain rfl : kvs' = kvs := by
    rw [h1] at hk
    exact HO.dK.inj (Option.some.inj hk)
  refine ⟨kvs', by rw [upd_ne nd.symm]; exact h1, by rw [List.length_append]; exact Nat.le_succ_of_le h2, fun x => ?_, h4⟩
  obtain ⟨bs', e1, e2, e3⟩ := trueD_puts b bs
  by_cases hx : x = a
  · subst hx
    rcases h3 x with ⟨no, _⟩ | ⟨d', bs2, k1, k2, k3, k4, k5⟩
    · rw [hv] at no
      cases no
    · rw [hv] at k1
      obtain rfl := V.ref.inj (Option.some.inj k1)
      rw [hd] at k2
      have e4 : trueD bs = trueD bs2 := HO.dK.inj (Option.some.inj k2)
      have e5 : bs = bs2 := by
        have inj : ∀ {u v : List Int}, trueD u = trueD v → u = v := fun {u} => by
          induction u with
          | nil =>
            intro v z
            cases v with
            | nil => rfl
            | cons y r => cases z
          | cons y r ih =>
            intro v z
            cases v with
            | nil => cases z
            | cons y2 r2 =>
              obtain ⟨z1, z2⟩ := List.cons.inj z
              rw [Sum.inl.inj (Prod.mk.inj z1).1, ih z2]
        exact inj e4
      subst e5
      refine .inr ⟨d, bs', hv, by rw [upd_same, e1], by rw [List.length_append]; exact Nat.le_trans e2 (Nat.succ_le_succ k3), nd, fun y => ?_⟩
      rw [e3, k5, List.mem_append, List.mem_singleton]
      exact or_congr Iff.rfl ⟨fun z => by rw [z], fun z => (Prod.mk.inj z).2⟩
  · have ne : ∀ y, (x, y) ∈ es ++ [(a, b)] ↔ (x, y) ∈ es := fun y => by
      rw [List.mem_append, List.mem_singleton]
      exact ⟨fun z => z.elim id fun q => absurd (Prod.mk.inj q).1 hx, .inl⟩
    rcases h3 x with ⟨no, nn⟩ | ⟨d', bs2, k1, k2, k3, k4, k5⟩
    · exact .inl ⟨no, fun y z => nn y ((ne y).mp z)⟩
    · have n2 : d' ≠ d := fun z => hx (h4 x a d (by rw [k1, z]) hv)
      exact .inr ⟨d', bs2, k1, by rw [upd_ne n2]; exact k2, by rw [List.length_append]; exact Nat.le_succ_of_le k3, k4, fun y => (k5 y).trans (ne y).symm⟩
theorem Onw.fresh {H : Hp} {o e : Addr} {es : List (Int × Int)} {a b : Int} {kvs : List (Key × V)} (O : Onw H o es) (hk : H o = some (.dK kvs)) (hv : valV kvs (Sum.inl a) = none) (he : H e = none) :
    Onw (upd (upd (upd H e (.dK [])) o (.dK (putK kvs (Sum.inl a) (.ref e)))) e (.dK (putK [] (Sum.inl b) (V.bl true)))) o (es ++ [(a, b)]) := by
  obtain ⟨kvs', h1, h2, h3, h4⟩ := O
  obtain rfl : kvs' = kvs := by
    rw [h1] at hk
    exact HO.dK.inj (Option.some.inj hk)
  have neo : o ≠ e := ne_of_none h1 he
  have nde : ∀ x d, valV kvs' (Sum.inl x) = some (.ref d) → d ≠ e := fun x d z => by
    rcases h3 x with ⟨no, _⟩ | ⟨d', bs2, k1, k2, _⟩
    · rw [z] at no
      cases no
    · rw [z] at k1
      rw [V.ref.inj (Option.some.inj k1)]
      exact ne_of_none k2 he
  refine ⟨putK kvs' (Sum.inl a) (.ref e), by rw [upd_ne neo]; exact upd_same, ?_, fun x => ?_, fun x x' d z z' => ?_⟩
  · rw [putK_new _ hv, List.length_append, List.length_append]
    exact Nat.succ_le_succ h2
  · rw [valV_put]
    by_cases hx : x = a
    · subst hx
      rw [if_pos rfl]
      refine .inr ⟨e, [b], rfl, ?_, by rw [List.length_append]; exact Nat.le_add_left _ _, neo.symm, fun y => ?_⟩
      · rw [upd_same]
        rfl
      · rw [List.mem_singleton, List.mem_append, List.mem_singleton]
        rcases h3 x with ⟨_, nn⟩ | ⟨d', bs2, k1, _⟩
        · exact ⟨fun z => .inr (by rw [z]), fun z => z.elim (fun q => absurd q (nn y)) fun q => (Prod.mk.inj q).2⟩
        · rw [hv] at k1
          cases k1
    · rw [if_neg (fun z => hx (Sum.inl.inj z))]
      have ne : ∀ y, (x, y) ∈ es ++ [(a, b)] ↔ (x, y) ∈ es := fun y => by
        rw [List.mem_append, List.mem_singleton]
        exact ⟨fun z => z.elim id fun q => absurd (Prod.mk.inj q).1 hx, .inl⟩
      rcases h3 x with ⟨no, nn⟩ | ⟨d', bs2, k1, k2, k3, k4, k5⟩
      · exact .inl ⟨no, fun y z => nn y ((ne y).mp z)⟩
      · have n2 : d' ≠ e := nde x d' k1
        exact .inr ⟨d', bs2, k1, by rw [upd_ne n2, upd_ne k4, upd_ne n2]; exact k2, by rw [List.length_append]; exact Nat.le_succ_of_le k3, k4, fun y => (k5 y).trans (ne y).symm⟩
  · rw [valV_put] at z z'
    by_cases hx : x = a
    · by_cases hx' : x' = a
      · rw [hx, hx']
      · rw [if_pos (by rw [hx])] at z
        rw [if_neg (fun q => hx' (Sum.inl.inj q))] at z'
        obtain rfl := V.ref.inj (Option.some.inj z)
        exact absurd rfl (nde _ _ z')
    · rw [if_neg (fun q => hx (Sum.inl.inj q))] at z
      by_cases hx' : x' = a
      · rw [if_pos (by rw [hx'])] at z'
        obtain rfl := V.ref.inj (Option.some.inj z')
        exact absurd rfl (nde _ _ z)
      · rw [if_neg (fun q => hx' (Sum.inl.inj q))] at z'
        exact h4 x x' d z z'
end K17

set_option Elab.async false
set_option linter.all false
set_option maxRecDepth 100000
set_option maxHeartbeats 4000000
/-! enumerate(t), t a tuple -/
namespace Own
open PySem PySem.Spec PyProof.Rows L2
/-- enumerate(v) of a thing of which iter(v) is a new object -/
theorem enum_one {v : Value} {o : Obj} {B : Heap → Prop} (b : Begins v o B) :
    Meets (Builtin.«enumerate.__new__» ⟨[.type "enumerate", v], []⟩) (fun _ R s => B s.heap ∧
      R (.ok (.ret (.ref (s.heap.push o).objs.size))) { s with heap := (s.heap.push o).push { cls := .type "enumerate", data := .fields #[.none, .bool false, .ref s.heap.objs.size, rawInt 0, .none, .none] } }) := by
  refine .of_wp fun prog w A R s h => ?_
  obtain ⟨hp, g, d, tk, os⟩ := s
  obtain ⟨hB, hR⟩ := h
  have ss := sub_enumerate
  have it : ∀ {A' : Around} {E : Value → Shared → Prop} {Q : Value → Shared → Prop}, Q (.ref hp.objs.size) ⟨hp.push o, g, d, tk, os⟩ → wpAny (model prog w) A' (pyIter v) Q E ⟨hp, g, d, tk, os⟩ :=
    fun z => b.iter prog w _ _ ⟨hp, g, d, tk, os⟩ _ hB z
  wp_walk using it
  refine wpAny_stack_any fun st => wpAny_pure ?_
  split
  · rename_i c _ _ _ _ _
    cases (c == Value.type "enumerate") <;>
    · wp_walk using it
      exact ⟨_, rfl, hR⟩
  · wp_walk using it
    exact ⟨_, rfl, hR⟩
theorem call_enumT {prog : Program} {w : World} {A : Around} {E : Value → Shared → Prop} {s : Shared} {l : Addr} {items : Array Value} {Q : Value → Shared → Prop} (hL : s.heap.IsTuple l items)
    (h : ∀ h', IsEnum h' (s.heap.objs.size + 1) s.heap.objs.size 0 .none → h'.IsTupleIter s.heap.objs.size l 0 → (∀ b o, s.heap.get? b = some o → h'.get? b = some o) → Q (.ref (s.heap.objs.size + 1)) { s with heap := h' }) :
    wpAny (model prog w) A (call (.type "enumerate") [.ref l]) Q E s := by
  have b := begins_tuple l items
  refine callType_new F.called_enumerate (by decide) (F.typeCall_enumerate_1 _) (F.newCall_enumerate_1 _) (fun obj => F.args_object_init_2 obj _) F.entry_enumerate_new (enum_one b) ⟨hL, ?_⟩
  generalize hit : ({ cls := .type "tuple_iterator", data := .fields #[.ref l, .int 0 0] } : Obj) = oi at b
  have fr : oi.isFreed = false := b.free
  have sz : (s.heap.push oi).objs.size = s.heap.objs.size + 1 := Heap.size_push ..
  show _ ∧ _
  rw [sz]
  have e1 := Heap.get?_push_size (s.heap.push oi) (o := { cls := .type "enumerate", data := .fields #[.none, .bool false, .ref s.heap.objs.size, rawInt 0, .none, .none] }) rfl
  rw [sz] at e1
  refine ⟨⟨_, e1, rfl⟩, h _ e1 ⟨oi, Heap.get?_push_of_some _ (Heap.get?_push_size _ fr), ?_, ?_⟩ fun b o x => Heap.get?_push_of_some _ (Heap.get?_push_of_some _ x)⟩
  · rw [← hit]
  · rw [← hit]
    rfl
theorem pyNext_enum_stopT {prog : Program} {w : World} {A : Around} {E : Value → Shared → Prop} {s : Shared} {e it l : Addr} {i : Nat} {items : Array Value} {old : Value} {Q : Option Value → Shared → Prop} (hh : A.handled = none)
    (he : IsEnum s.heap e it i old) (hit : s.heap.IsTupleIter it l i) (hl : s.heap.IsTuple l items) (hx : items[i]? = none) (hQ : ∀ h', Heap.ExtBut it s.heap h' → Q none { s with heap := h' }) : wpAny (model prog w) A (pyNext (.ref e)) Q E s := by
  have hT : s.TypeIs (.ref e) "enumerate" := ⟨_, he, rfl⟩
  unfold pyNext
  refine wpAny_bind (wpAny_attempt (wpAny_callSpecial?_slot (name := Str.ofString "__next__") hT F.slot_enumerate_next (wpAny_call_entry F.slot_enumerate_next hT F.entry_enumerate_next ?_ (F.args_enumerate_next_1 _))))
  show wpAny _ _ (field (.ref e) 2 >>= _) _ _ _
  refine wpAny_bind (wpAny_field he rfl (x := .ref it) rfl (wpAny_bind (wpAny_nextOf_tuple_end hh hit hl hx fun h' x eb hc => ?_)))
  obtain ⟨o, ho, hc⟩ := hc
  exact wpAny_bind (wpAny_isInstance (T := "StopIteration") (b := true) ⟨o, ho, hc⟩ isSubtype_stop (wpAny_pure (hQ _ eb)))
/-- the tuple at a, each item in a new pair -/
def IteT (K : PySem.W.Frag) (a : Addr) : It where
  go := fun i H => ∃ (xs : List V) (x : V), SqT K H a xs ∧ xs[i]? = some x
  yld := fun i H v H' => ∃ T x, v = .ref T ∧ H T = none ∧ H' = upd H T (.tup [.int (i : Nat), x]) ∧ ∀ xs, SqT K H a xs → xs[i]? = some x
  stop := fun i H => ∃ xs : List V, SqT K H a xs ∧ xs.length ≤ i
theorem turn_enumT {P : Program} {w : World} {K : PySem.W.Frag} {elts : List Expr} {kk : Nat} {tpos : Pos} (a e it : Addr) :
    Turn P w K (.Tuple elts kk tpos) (IteT K a) [e, it] e (fun i h => (∃ old, IsEnum h e it ((i : Nat) : Int) old) ∧ h.IsTupleIter it a i ∧ e ≠ it ∧ a ≠ it ∧ a ≠ e) where
  mem := by simp
  obj := fun i h st b hb => by
    obtain ⟨⟨old, he⟩, ⟨o, ho, _, hd⟩, _⟩ := st
    rcases (show b = e ∨ b = it by simpa using hb) with rfl | rfl
    · exact ⟨_, he, fun v q => nomatch q⟩
    · exact ⟨o, ho, fun v q => by rw [hd] at q; cases q⟩
  keep := fun i h h' st k => by
    obtain ⟨⟨old, he⟩, hi, r⟩ := st
    exact ⟨⟨old, k e (by simp) _ he⟩, hi.at fun o q => k it (by simp) o q, r⟩
  item := by
    intro X hP hw hK hc i pins s σ H E I hf st hg
    subst hP hw hK
    obtain ⟨⟨old, he⟩, hit, n1, n2, n3⟩ := st
    obtain ⟨xs, x, hq, hx⟩ := hg
    obtain ⟨its, rv, p, _⟩ := I.tuple hq
    obtain ⟨u, hu, ru⟩ := rv.get hx
    have le : e < s.heap.objs.size := Heap.lt_size he
    have li : it < s.heap.objs.size := by
      obtain ⟨_, q, _⟩ := hit
      exact Heap.lt_size q
    have hlt : i < its.toArray.size := by
      have z := (List.getElem?_eq_some_iff.mp hu).1
      simpa using z
    refine wpAny_pyNext_enum_itemD (A := X.A) (Draws.tuple (A := X.A.in1) (I.ok.hd hc) it a n2 its.toArray) he ⟨hit, show s.heap.IsTuple a its.toArray from p⟩ hlt n1 (by simp [n1, n3.symm]) fun x' h' tk hx' ho hst hT hsz hk => ?_
    obtain rfl : x' = u := by
      have z : its.toArray[i]? = some u := by simpa using hu
      exact Option.some.inj (hx'.symm.trans z)
    refine ⟨_, rfl, wpAny_letOwnedTupleGo_enum (s := { s with heap := h', toks := tk + 1 }) ho fun h'' he' sb => ?_⟩
    have hT2 : h''.get? s.heap.objs.size = some { cls := .type "tuple", data := .seq #[.int i tk, x'] } := (sb.2 _ (Nat.ne_of_gt le)).trans hT
    have new : ObjOk X.prog X.w (upd H s.heap.objs.size (.tup [.int (i : Nat), x])) h'' s.heap.objs.size (.tup [.int (i : Nat), x]) :=
      ⟨by show 2 ≤ sizeLine; decide, [.int i tk, x'], .cons ⟨_, rfl⟩ (.cons ru .nil), ⟨_, hT2, rfl, _, rfl⟩⟩
    have I1 : Inv X pins σ (upd H s.heap.objs.size (.tup [.int (i : Nat), x])) { s with heap := h'', toks := tk + 1 } :=
      I.turnedNew (ch := [e, it]) (fun b ob hb q => (sb.2 b (fun z => hb (by simp [z]))).trans (hk b ob (fun z => hb (by simp [z])) (fun z => hb (by simp [z])) q)) hf (Nat.le_refl _) new
    refine ⟨.ref s.heap.objs.size, _, I1, rfl, ⟨_, x, rfl, I.hok.fresh (Nat.le_refl _), rfl, fun ys hy => by rw [I.tuple_inj hy hq]; exact hx⟩, ⟨⟨x', ?_⟩, hst.1.at fun o q => (sb.2 it (Ne.symm n1)).trans q, n1, n2, n3⟩, fun b hb => ?_⟩
    · rw [show ((i + 1 : Nat) : Int) = (i : Int) + 1 by omega]
      exact he'
    · have hb' : b < s.heap.objs.size := by
        rcases (show b = e ∨ b = it by simpa using hb) with rfl | rfl
        · exact le
        · exact li
      rw [upd_ne (Nat.ne_of_lt hb')]
      exact (hf b hb).1
  done := by
    intro X hP hw hK hc i pins s σ H E I hf st hg
    subst hP hw hK
    obtain ⟨⟨old, he⟩, hit, n1, n2, n3⟩ := st
    obtain ⟨xs, hq, hx⟩ := hg
    obtain ⟨its, rv, p, _⟩ := I.tuple hq
    obtain ⟨f0, f1, f2, f3, f4, f5⟩ := hf it (by simp)
    have hl := rv.length
    have hd : its.toArray[i]? = none := by
      simp
      omega
    refine pyNext_enum_stopT (I.ok.hd hc) he hit (show s.heap.IsTuple a its.toArray from p) hd fun h' eb => ⟨rfl, I.turned (t' := s.toks) (fun b o hb q => eb b o hb q) f0 f1 f3 f4 f5⟩
  self := fun A i s Q E st h => by
    obtain ⟨⟨_, he⟩, _⟩ := st
    exact wpAny_pyIter_enum he h
def iEnumT (K : PySem.W.Frag) (ta : TA) : TI := fun σ H R => ta σ H fun vs H1 => ∃ a xs, vs = [.ref a] ∧ SqT K H1 a xs ∧ R (IteT K a) H1
theorem pi_enumT {X : Cx} {e : Expr} {ta : TA} {p pos tpos : Pos} {elts : List Expr} {kk : Nat} (hg : Gl X "enumerate") (hm : X.mg "enumerate" = none) (ha : PA X [e] ta) (hs : starEach [e] X.env = [(false, eval e X.env)] := by rfl) :
    PI X (.Tuple elts kk tpos) (.Call (.Name "enumerate" p) [e] [] pos) (iEnumT X.K ta) := by
  refine ⟨fun pins s σ H R I h => ?_⟩
  refine Call_ (ld_blt I hg hm boot_enumerate (PyProof.Rows.callWith_type1 (thn (ha.run pos pins s σ H _ I h) fun us s1 ⟨vs, H1, I1, r1, q1⟩ => ?_) hs rfl))
  obtain ⟨a, xs, rfl, hq, q⟩ := q1
  obtain ⟨v, rfl, rv⟩ : ∃ v, us = [v] ∧ RelV (.ref a) v := by
    cases r1 with
    | cons r rr =>
      cases rr
      exact ⟨_, rfl, r⟩
  cases rv
  obtain ⟨its, rv, p', hz⟩ := I1.tuple hq
  have pt : s1.heap.IsTuple a its.toArray := p'
  have la : a < s1.heap.objs.size := by
    obtain ⟨o, ho, _⟩ := pt
    exact Heap.lt_size ho
  refine call_enumT pt fun h' he hit hk => wpAny_pyIter_enum he ?_
  have I2 : Inv X pins σ H1 { s1 with heap := h' } := I1.kept (t' := s1.toks) hk
  refine ⟨s1.heap.objs.size + 1, [s1.heap.objs.size + 1, s1.heap.objs.size], _, _, H1, rfl, I2, turn_enumT a (s1.heap.objs.size + 1) s1.heap.objs.size, ⟨⟨.none, he⟩, hit, Nat.succ_ne_self _, Nat.ne_of_lt la, Nat.ne_of_lt (Nat.lt_succ_of_lt la)⟩, fun b hb => ?_, q⟩
  have hle : s1.heap.objs.size ≤ b := by
    rcases (show b = s1.heap.objs.size + 1 ∨ b = s1.heap.objs.size by simpa using hb) with z | z
    · rw [z]
      exact Nat.le_succ _
    · rw [z]
      exact Nat.le_refl _
  exact I1.fpOk hle (I1.hok.fresh hle)
theorem walk_enumT {K : PySem.W.Frag} {a : Addr} {xs : List V} : Walk (IteT K a) xs.length (fun H => SqT K H a xs) (YPair (fun i => some (.int (i : Nat))) (fun i => xs[i]?)) where
  goes := fun i _ hi q => ⟨xs, xs[i], q, by simp [hi]⟩
  stops := fun _ q => ⟨xs, q, Nat.le_refl _⟩
  yields := fun i H v H' _ q y => by
    obtain ⟨T, x, h1, h2, h3, h4⟩ := y
    exact ⟨T, .int (i : Nat), x, h1, h2, h3, rfl, h4 xs q⟩
/-- one of two ways to walk -/
theorem pi_or {X : Cx} {tg it : Expr} {w1 w2 : TI} (h : PI X tg it w1) (k : PI X tg it w2) : PI X tg it (fun σ H R => w1 σ H R ∨ w2 σ H R) := ⟨fun pins s σ H R I q => q.elim (h.run pins s σ H R I) (k.run pins s σ H R I)⟩
end Own

set_option Elab.async false
set_option linter.all false
set_option maxRecDepth 100000
set_option maxHeartbeats 8000000
namespace K17
open PySem PySem.Spec PyProof.Rows L2 Own
/-- the roads of length 0 -/
def zero1 : Option (List V) → List (Int × Int)
  | some [.int a, .int b, .int 0, _] => [(a, b)]
  | _ => []
def zeros (ss : List (Option (List V))) : List (Int × Int) := ss.flatMap zero1
theorem zero1_len (s : Option (List V)) : (zero1 s).length ≤ 1 := by
  unfold zero1
  split
  · exact Nat.le_refl _
  · exact Nat.zero_le _
theorem zeros_len : ∀ ss : List (Option (List V)), (zeros ss).length ≤ ss.length
  | [] => Nat.le_refl _
  | s :: r => by
    show (zero1 s ++ zeros r).length ≤ r.length + 1
    have h1 := zero1_len s
    have h2 := zeros_len r
    rw [List.length_append]
    omega
/-- at j is something that is no road, or a road that closes a ring -/
def BadAt (n : Int) (ss : List (Option (List V))) (j : Nat) : Prop := ∃ s, ss[j]? = some s ∧ (isRoad n s = false ∨ ∃ a b r, s = some [.int a, .int b, .int 0, r] ∧ Rch (zeros (ss.take j)) b a)
/-- what is told of the roads -/
def WRes (n : Int) (ss : List (Option (List V))) (r : V) : Prop := (r = .non ∧ ∀ j, j < ss.length → ¬ BadAt n ss j) ∨ ∃ j : Nat, r = .int j ∧ j < ss.length ∧ BadAt n ss j ∧ ∀ i, i < j → ¬ BadAt n ss i
/-- things of which each may be asked for its items -/
def Items (H : Hp) (xs : List V) : Prop := ∀ v ∈ xs, Shp H v ∧ ∀ ys, seqOf H v = some ys → ∀ y ∈ ys, Shp H y
theorem Items.same {H H' : Hp} {xs : List V} (h : Items H xs) (e : Same H H') : Items H' xs := fun v hv => by
  obtain ⟨h1, h2⟩ := h v hv
  refine ⟨h1.same e, fun ys hs y hy => ?_⟩
  rw [seq_same h1 e] at hs
  exact (h2 ys hs y hy).same e
theorem Items.seqs {H H' : Hp} {xs : List V} (h : Items H xs) (e : Same H H') : xs.map (seqOf H') = xs.map (seqOf H) := List.map_congr_left fun v hv => seq_same (h v hv).1 e
/-- a list or a tuple of these stands at a -/
def Sqs (H : Hp) (a : Addr) (xs : List V) : Prop := H a = some (.lst xs) ∨ H a = some (.tup xs)
theorem Sqs.same {H H' : Hp} {a : Addr} {xs : List V} (h : Sqs H a xs) (e : Same H H') : Sqs H' a xs := h.imp (fun z => e _ _ z) fun z => e _ _ z
theorem Sqs.seq {H : Hp} {a : Addr} {xs : List V} (h : Sqs H a xs) : seqOf H (.ref a) = some xs := h.elim seq_lst seq_tup
theorem Sqs.shp {H : Hp} {a : Addr} {xs : List V} (h : Sqs H a xs) : Shp H (.ref a) := h.elim (fun z => .inr (.inl ⟨a, xs, rfl, z⟩)) fun z => .inr (.inr (.inl ⟨a, xs, rfl, z⟩))
/-- enumerate over either -/
theorem enum_or {K : PySem.W.Frag} {ta : TA} {σ : L2.St} {H0 H : Hp} {a : Addr} {xs : List V} (hs : Sqs H0 a xs) (e : Same H0 H) {R : It → Hp → Prop} (hta : ∀ S : List V → Hp → Prop, S [.ref a] H → ta σ H S)
    (h : ∀ (J : It) (G : Hp → Prop), Walk J xs.length G (YPair (fun i => some (.int (i : Nat))) (fun i => xs[i]?)) → (∀ H', Same H0 H' → G H') → R J H) : iEnum K ta σ H R ∨ iEnumT K ta σ H R := by
  rcases hs with hs | hs
  · exact .inl (hta _ ⟨a, xs, rfl, SqL.of (e _ _ hs), h (Ite K a) _ walk_enum fun H' k => SqL.of (k _ _ hs)⟩)
  · exact .inr (hta _ ⟨a, xs, rfl, SqT.of (e _ _ hs), h (IteT K a) _ walk_enumT fun H' k => SqT.of (k _ _ hs)⟩)
/-- a for or a comprehension over either -/
theorem walk_or {K : PySem.W.Frag} {te : TE} {σ : L2.St} {H0 H : Hp} {a : Addr} {xs : List V} (hs : Sqs H0 a xs) (e : Same H0 H) {R : It → Hp → Prop} (hte : ∀ S : VK, S (.ref a) H → te σ H S)
    (h : ∀ (J : It) (G : Hp → Prop), Walk J xs.length G (YAt xs) → (∀ H', Same H0 H' → G H') → R J H) : iList K te σ H R ∨ iTup K te σ H R := by
  rcases hs with hs | hs
  · exact .inl (hte _ ⟨a, rfl, ⟨_, SqL.of (e _ _ hs)⟩, h (Itl K a) _ walk_list fun H' k => SqL.of (k _ _ hs)⟩)
  · exact .inr (hte _ ⟨a, rfl, ⟨_, SqT.of (e _ _ hs)⟩, h (Itt K a) _ walk_tup fun H' k => SqT.of (k _ _ hs)⟩)
def spWrong (res : Int → List (Option (List V)) → V → Prop) (K : PySem.W.Frag) : Sp := fun vs H Q _ => ∃ (n : Int) (v : V), vs = [.int n, v] ∧ Shp H v ∧
  ((seqOf H v = none ∧ ∀ H', Same H H' → Q (.int 0) H') ∨
   ∃ a xs, v = .ref a ∧ Sqs H a xs ∧ Items H xs ∧ xs.length ≤ 1000 ∧ ∀ H' r, Same H H' → res n (xs.map (seqOf H)) r → Q r H')
abbrev NWRoad : List Str := ["places", "roads", "onward", "index", "thing", "begin", "end", "length", "_"]
theorem scWRoad : FnScope NWRoad ["places", "roads"] (defScope sWrongRoad) := ⟨rfl, rfl, rfl, by decide +kernel, rfl, by decide +kernel, by decide +kernel⟩
structure WI (H : Hp) (n : Int) (a o : Addr) (xs : List V) (i : Nat) (σ : L2.St) (H' : Hp) : Prop where
  s : ∃ index thing b e l u, σ = [some (.int n), some (.ref a), some (.ref o), index, thing, b, e, l, u]
  k : Same H H'
  on : Onw H' o (zeros ((xs.map (seqOf H)).take i))
  f : ∀ kvs x d, H' o = some (.dK kvs) → valV kvs (Sum.inl x) = some (.ref d) → H d = none
  g : ∀ j, j < i → ¬ BadAt n (xs.map (seqOf H)) j
theorem road_of {n : Int} {s : Option (List V)} (h : isRoad n s = true) : ∃ x y l r : Int, s = some [.int x, .int y, .int l, .int r] ∧ x ≠ y ∧ 0 ≤ l := by
  match s, h with
  | some [x, y, l, r], h =>
    have h' : (isP n x && (isP n y && (!decide (x = y) && (isN l && (isN r && !decide (r = .int 0)))))) = true := h
    simp only [Bool.and_eq_true] at h'
    obtain ⟨h1, h2, h3, h4, h5, _⟩ := h'
    obtain ⟨xi, rfl⟩ := isP_int h1
    obtain ⟨yi, rfl⟩ := isP_int h2
    obtain ⟨li, rfl, l0⟩ := isN_int h4
    obtain ⟨ri, rfl, _⟩ := isN_int h5
    refine ⟨xi, yi, li, ri, rfl, fun z => ?_, l0⟩
    rw [z, decide_eq_true rfl] at h3
    cases h3
  | none, h => cases h
  | some [], h => cases h
  | some [_], h => cases h
  | some [_, _], h => cases h
  | some [_, _, _], h => cases h
  | some (_ :: _ :: _ :: _ :: _ :: _), h => cases h
section
variable {P : Program} {w : World} {K : PySem.W.Frag} {mg : Str → Option Value} {base : Heap}
theorem ok_wroad {f fI fN fL fPl fR fC : Addr} {fd fdI fdN fdL fdPl fdR fdC : FuncData} (F : Fun K "first_wrong_road" "first_wrong_road" sWrongRoad f fd) (T : Bt mg) (FI : Fun K "is_integer" "is_integer" sIsInt fI fdI) (gI : mg "is_integer" = some (.ref fI)) (bI : Binds K fdI ["thing"] [])
    (FN : Fun K "is_number" "is_number" sIsNum fN fdN) (gN : mg "is_number" = some (.ref fN)) (bN : Binds K fdN ["thing"] []) (FL : Fun K "is_list" "is_list" sIsList fL fdL) (gL : mg "is_list" = some (.ref fL)) (bL : Binds K fdL ["thing"] [])
    (FPl : Fun K "is_place" "is_place" sIsPlace fPl fdPl) (gPl : mg "is_place" = some (.ref fPl)) (bPl : Binds K fdPl ["places", "thing"] [])
    (FR : Fun K "is_road" "is_road" sIsRoad fR fdR) (gR : mg "is_road" = some (.ref fR)) (bR : Binds K fdR ["places", "thing"] [])
    (FC : Fun K "comes_to" "comes_to" sComes fC fdC) (gC : mg "comes_to" = some (.ref fC)) (bC : Binds K fdC ["onward", "begin", "end"] []) : FnOk P w K mg base CX0 5 f fd ["places", "roads"] (spWrong WRes K) := by
  have GL : FnOk P w K mg base CX0 1 fL fdL ["thing"] spLst := ok_isLst FL T
  have GR : FnOk P w K mg base CX0 4 fR fdR ["places", "thing"] spRoad := ok_isRoad FR T FI gI bI FN gN bN FL gL bL FPl gPl bPl
  have GC : FnOk P w K mg base CX0 1 fC fdC ["onward", "begin", "end"] spComes := ok_comes FC T
  refine F.ok scWRoad (fun vs H Q E h => ?_) (fun cdv A outer s H vs Q E hr h => ?_)
  · obtain ⟨n, v, rfl, _⟩ := h
    rfl
  · obtain ⟨n, v, rfl, hv, hc⟩ := h
    refine ⟨_, (pss_cons (ps_if (pt_not (pt_val (pe_call GL (hr.mono (by decide)) (by rfl) gL FL.kp bL .nil pass0 (pa_cons (pv 1) pa_nil)))) (pss_one (ps_ret pe_int)) pss_nil)
  (pss_cons (ps_set (i := 2) scWRoad.nd rfl (Or.inl rfl) pe_dnewK)
  (pss_cons (ps_for PassesOwn.never rfl (pi_or (pi_enum (by rfl) T.enum (pa_cons (pv 1) pa_nil)) (pi_enumT (by rfl) T.enum (pa_cons (pv 1) pa_nil))) (pg_tup rfl (pgs_cons (pg_name (i := 3) (x := "index") scWRoad.nd rfl (Or.inl rfl)) (pgs_cons (pg_name (i := 4) (x := "thing") scWRoad.nd rfl (Or.inl rfl)) pgs_nil))) (pss_cons (ps_if (pt_not (pt_val (pe_call GR hr (by rfl) gR FR.kp bR .nil pass0 (pa_cons (pv 0) (pa_cons (pv 4) pa_nil))))) (pss_one (ps_ret (pv 3))) pss_nil)
  (Evl.pss_cut (ps_asg (pv 4) (pg_or (pg_tup rfl (pgs_cons (pg_name (i := 5) (x := "begin") scWRoad.nd rfl (Or.inl rfl)) (pgs_cons (pg_name (i := 6) (x := "end") scWRoad.nd rfl (Or.inl rfl)) (pgs_cons (pg_name (i := 7) (x := "length") scWRoad.nd rfl (Or.inl rfl)) (pgs_cons (pg_name (i := 8) (x := "_") scWRoad.nd rfl (Or.inl rfl)) pgs_nil))))) (pg_unl rfl (pgs_cons (pg_name (i := 5) (x := "begin") scWRoad.nd rfl (Or.inl rfl)) (pgs_cons (pg_name (i := 6) (x := "end") scWRoad.nd rfl (Or.inl rfl)) (pgs_cons (pg_name (i := 7) (x := "length") scWRoad.nd rfl (Or.inl rfl)) (pgs_cons (pg_name (i := 8) (x := "_") scWRoad.nd rfl (Or.inl rfl)) pgs_nil)))))))
  (pss_one (ps_if (pt_cmpR op_eq (pv 7) pe_int (nomark _)) (pss_cons (ps_if (pt_val (pe_call GC (hr.mono (by decide)) (by rfl) gC FC.kp bC .nil pass0 (pa_cons (pv 2) (pa_cons (pv 6) (pa_cons (pv 5) pa_nil))))) (pss_one (ps_ret (pv 3))) pss_nil)
  (pss_one (ps_asg pe_bl (pg_sub (pe_dsetd (pv 2) (pv 5) pe_dnewK ⟨by rfl, by rfl, by rfl, by rfl⟩) (pv 6) (set_dict (hu_of hr)))))) pss_nil)))))
  (pss_one (ps_ret pe_non))))), ?_⟩
    refine ⟨_, rfl, v, rfl, hv, fun H1 e1 => ⟨_, rfl, ?_⟩⟩
    rcases hc with ⟨hs, k⟩ | ⟨a, xs, rfl, ha, it, lx, k⟩
    · rw [hs]
      exact k _ e1
    · rw [ha.seq]
      refine iteF (fun o ho => ?_)
      have e2 : Same H (upd H1 o (.dK [])) := e1.trans (same_new ho)
      have ho0 : H o = none := by
        cases e : H o with
        | none => rfl
        | some u =>
          rw [e1 _ _ e] at ho
          cases ho
      refine enum_or (K := K) ha e2 (fun S q => ⟨_, rfl, q⟩) fun J G wk hG => ?_
      refine for_it wk (WI H n a o xs) ⟨⟨_, _, _, _, _, _, rfl⟩, e2, ⟨[], upd_same, Nat.le_refl _, fun x => .inl ⟨rfl, fun y z => by cases z⟩, fun x x' d z => by cases z⟩, fun kvs x d z1 z2 => ?_, fun j hj => absurd hj (Nat.not_lt_zero j)⟩ (fun i σ' H' _ w => hG _ w.k) ?_ ?_
      · rw [upd_same] at z1
        rw [← HO.dK.inj (Option.some.inj z1)] at z2
        cases z2
      · rintro i x σ' H3 H4 hi ⟨⟨index, thing, b0, e0, l0, u0, rfl⟩, ks, O, fr, good⟩ ⟨t, x1, y1, rfl, ht, rfl, hx, hy⟩
        obtain rfl : V.int (i : Nat) = x1 := Option.some.inj hx
        have s4 := same_new (o := .tup [.int (i : Nat), y1]) ht
        have k4 := ks.trans s4
        have O4 := O.same s4
        refine ⟨t, _, rfl, SqT.of upd_same, rfl, _, _, rfl, _, _, rfl, rfl, ?_⟩
        have hy' : xs[i]? = some y1 := hy
        have hym := List.mem_of_getElem? hy'
        obtain ⟨sh, shi⟩ := it y1 hym
        have sh4 := sh.same k4
        have sq4 := seq_same sh k4
        have at_i : (xs.map (seqOf H))[i]? = some (seqOf H y1) := by
          rw [List.getElem?_map, hy']
          rfl
        have tk : (xs.map (seqOf H)).take (i + 1) = (xs.map (seqOf H)).take i ++ [seqOf H y1] := by
          rw [List.take_add_one, at_i]
          rfl
        have hlen : i < (xs.map (seqOf H)).length := by
          rw [List.length_map]
          exact hi
        refine ⟨_, rfl, _, rfl, n, y1, rfl, sh4, (fun ys e y m => ?_), fun H5 e5 => ?_⟩
        · rw [sq4] at e
          exact (shi ys e y m).same k4
        rw [sq4]
        have k5 := k4.trans e5
        have O5 := O4.same e5
        have fr5 : ∀ kvs x d, H5 o = some (.dK kvs) → valV kvs (Sum.inl x) = some (.ref d) → H d = none := fun kvs x d z1 z2 => by
          obtain ⟨kvs', h1, _⟩ := O
          have z3 := e5 _ _ (s4 _ _ h1)
          rw [z1] at z3
          have z4 : kvs = kvs' := HO.dK.inj (Option.some.inj z3)
          rw [z4] at z2
          exact fr kvs' x d h1 z2
        refine ⟨_, rfl, ?_⟩
        cases hR : isRoad n (seqOf H y1) with
        | false => exact iteT ⟨_, rfl, k _ _ k5 (.inr ⟨i, rfl, hlen, ⟨_, at_i, .inl hR⟩, good⟩)⟩
        | true =>
          refine iteF ?_
          obtain ⟨p, q, l, r, es, npq, l0⟩ := road_of hR
          obtain ⟨a1, rfl, ha1⟩ := sq_of (K := K) sh es
          refine ⟨fun σ' H' => H' = H5 ∧ σ' = [some (.int n), some (.ref a), some (.ref o), some (.int (i : Nat)), some (.ref a1), some (.int p), some (.int q), some (.int l), some (.int r)], ?_, ?_⟩
          · refine ⟨_, rfl, ?_⟩
            rcases ha1 with ha1 | ha1
            · exact .inr ⟨a1, _, rfl, SqL.of (k5 _ _ ha1), rfl, _, _, rfl, _, _, rfl, _, _, rfl, _, _, rfl, rfl, rfl, rfl⟩
            · exact .inl ⟨a1, _, rfl, SqT.of (k5 _ _ ha1), rfl, _, _, rfl, _, _, rfl, _, _, rfl, _, _, rfl, rfl, rfl, rfl⟩
          · rintro σ' H' ⟨rfl, rfl⟩
            have tz : zeros ((xs.map (seqOf H)).take (i + 1)) = zeros ((xs.map (seqOf H)).take i) ++ zero1 (seqOf H (.ref a1)) := by
              rw [tk]
              unfold zeros
              rw [List.flatMap_append]
              show _ = _ ++ zero1 (seqOf H (.ref a1))
              rw [List.flatMap_cons, List.flatMap_nil, List.append_nil]
            have lz : (zeros ((xs.map (seqOf H)).take i)).length ≤ 1000 := by
              refine Nat.le_trans (zeros_len _) ?_
              rw [List.length_take, List.length_map]
              omega
            have nobad : ∀ j, j < i + 1 → (j = i → ¬ BadAt n (xs.map (seqOf H)) i) → ¬ BadAt n (xs.map (seqOf H)) j := fun j hj hi2 => by
              by_cases z : j = i
              · rw [z]
                exact hi2 z
              · exact good j (by omega)
            refine ⟨_, rfl, rfl, _, rfl, ite2 (fun hl => ?_) (fun hl => ?_)⟩
            · obtain rfl : l = 0 := V.int.inj (of_decide_eq_true hl)
              have z1 : zero1 (seqOf H (.ref a1)) = [(p, q)] := by
                rw [es]
                rfl
              rw [z1] at tz
              refine ⟨_, rfl, _, rfl, _, rfl, o, q, p, _, rfl, O5, lz, fun H6 c e6 hc => ⟨_, rfl, ?_⟩⟩
              have k6 := k5.trans e6
              have O6 := O5.same e6
              cases c with
              | true => exact iteT ⟨_, rfl, k _ _ k6 (.inr ⟨i, rfl, hlen, ⟨_, at_i, .inr ⟨p, q, _, es, hc.mp rfl⟩⟩, good⟩)⟩
              | false =>
                have nr : ¬ Rch (zeros ((xs.map (seqOf H)).take i)) q p := fun z => by
                  have := hc.mpr z
                  cases this
                have nb : ¬ BadAt n (xs.map (seqOf H)) i := fun ⟨s', h1, h2⟩ => by
                  rw [at_i] at h1
                  rw [← Option.some.inj h1] at h2
                  rcases h2 with h2 | ⟨a', b', r', h2, h3⟩
                  · rw [hR] at h2
                    cases h2
                  · rw [es] at h2
                    obtain ⟨y1', y2⟩ := List.cons.inj (Option.some.inj h2)
                    obtain ⟨y3, _⟩ := List.cons.inj y2
                    rw [← V.int.inj y1', ← V.int.inj y3] at h3
                    exact nr h3
                obtain ⟨kvs, h1, h2, h3, h4⟩ := O6
                have O6 : Onw H6 o (zeros ((xs.map (seqOf H)).take i)) := ⟨kvs, h1, h2, h3, h4⟩
                have fr6 : ∀ x d, valV kvs (Sum.inl x) = some (.ref d) → H d = none := fun x d z => by
                  obtain ⟨kvs', g1, _⟩ := O5
                  have g2 := e6 _ _ g1
                  rw [h1] at g2
                  have g3 : kvs = kvs' := HO.dK.inj (Option.some.inj g2)
                  rw [g3] at z
                  exact fr5 kvs' x d g1 z
                refine iteF ⟨_, rfl, o, rfl, .inl ⟨kvs, .inl h1⟩, _, rfl, fun e he => ⟨kvs, Sum.inl p, same_new he _ _ h1, rfl, Nat.lt_of_le_of_lt (Nat.le_trans h2 lz) (by decide), fun v hv => ?_, fun hv => ?_⟩⟩
                · rcases h3 p with ⟨no, _⟩ | ⟨d, bs, m1, m2, m3, m4, m5⟩
                  · rw [hv] at no
                    cases no
                  · rw [hv] at m1
                    obtain rfl := Option.some.inj m1
                    have O7 := O6.same (same_new (o := .dK []) he)
                    have h1' := same_new (o := .dK []) he _ _ h1
                    have m2' := same_new (o := .dK []) he _ _ m2
                    have hd0 := fr6 p d hv
                    refine ⟨_, rfl, d, _, rfl, DPut.k (k := Sum.inl q) m2' (by rw [trueD_len]; exact Nat.lt_of_le_of_lt (Nat.le_trans m3 lz) (by decide)), ?_⟩
                    refine ⟨⟨_, _, _, _, _, _, rfl⟩, fun b u z => ?_, ?_, fun kvs' x d' z z2 => ?_, fun j hj => nobad j hj fun _ => nb⟩
                    · rw [upd_ne (ne_of_none z hd0)]
                      exact same_new he _ _ (k6 _ _ z)
                    · rw [tz]
                      exact O7.old h1' hv m2' m4
                    · rw [upd_ne m4.symm, h1'] at z
                      rw [← HO.dK.inj (Option.some.inj z)] at z2
                      exact fr6 x d' z2
                · have O8 := O6.fresh (b := q) h1 hv he
                  have neo : o ≠ e := ne_of_none h1 he
                  have he0 : H e = none := by
                    cases z : H e with
                    | none => rfl
                    | some u =>
                      rw [k6 _ _ z] at he
                      cases he
                  have ce : upd (upd H6 e (.dK [])) o (.dK (putK kvs (Sum.inl p) (.ref e))) e = some (.dK []) := by
                    rw [upd_ne neo.symm]
                    exact upd_same
                  refine ⟨_, rfl, e, _, rfl, DPut.k (k := Sum.inl q) ce (by decide), ?_⟩
                  refine ⟨⟨_, _, _, _, _, _, rfl⟩, fun b u z => ?_, ?_, fun kvs' x d' z z2 => ?_, fun j hj => nobad j hj fun _ => nb⟩
                  · rw [upd_ne (ne_of_none z he0), upd_ne (ne_of_none z ho0), upd_ne (ne_of_none z he0)]
                    exact k6 _ _ z
                  · rw [tz]
                    exact O8
                  · rw [upd_ne neo, upd_same] at z
                    rw [← HO.dK.inj (Option.some.inj z), valV_put] at z2
                    by_cases hx2 : (Sum.inl x : Key) = Sum.inl p
                    · rw [if_pos hx2] at z2
                      rw [← V.ref.inj (Option.some.inj z2)]
                      exact he0
                    · rw [if_neg hx2] at z2
                      exact fr6 x d' z2
            · have nl : l ≠ 0 := fun z => hl (by rw [z]; rfl)
              have z1 : zero1 (seqOf H (.ref a1)) = [] := by
                rw [es]
                unfold zero1
                split
                · rename_i hh
                  obtain ⟨_, y2⟩ := List.cons.inj (Option.some.inj hh)
                  obtain ⟨_, y3⟩ := List.cons.inj y2
                  exact absurd (V.int.inj (List.cons.inj y3).1) nl
                · rfl
              rw [z1, List.append_nil] at tz
              have nb : ¬ BadAt n (xs.map (seqOf H)) i := fun ⟨s', h1, h2⟩ => by
                rw [at_i] at h1
                rw [← Option.some.inj h1] at h2
                rcases h2 with h2 | ⟨a', b', r', h2, h3⟩
                · rw [hR] at h2
                  cases h2
                · rw [es] at h2
                  obtain ⟨_, y2⟩ := List.cons.inj (Option.some.inj h2)
                  obtain ⟨_, y3⟩ := List.cons.inj y2
                  exact nl (V.int.inj (List.cons.inj y3).1)
              refine ⟨⟨_, _, _, _, _, _, rfl⟩, k5, ?_, fr5, fun j hj => nobad j hj fun _ => nb⟩
              rw [tz]
              exact O5
      · rintro σ' H3 w
        have lenx : (xs.map (seqOf H)).length = xs.length := List.length_map _
        exact k _ _ w.k (.inl ⟨rfl, fun j hj => w.g j (by rw [← lenx]; exact hj)⟩)
end
end K17

set_option Elab.async false
set_option linter.all false
set_option maxRecDepth 100000
set_option maxHeartbeats 8000000
namespace K17
open PySem PySem.Spec PyProof.Rows L2 Own
/-- at j is something that is no door, or a door of the other sort at its place -/
def BadD (n : Int) (ss : List (Option (List V))) (j : Nat) : Prop := ∃ s, ss[j]? = some s ∧ (isDoor n s = false ∨ ∃ z p h i z' h', s = some [.str z, .int p, h] ∧ i < j ∧ ss[i]? = some (some [.str z', .int p, h']) ∧ z' ≠ z)
def DRes (n : Int) (ss : List (Option (List V))) (r : V) : Prop := (r = .non ∧ ∀ j, j < ss.length → ¬ BadD n ss j) ∨ ∃ j : Nat, r = .int j ∧ j < ss.length ∧ BadD n ss j ∧ ∀ i, i < j → ¬ BadD n ss i
abbrev NWDoor : List Str := ["places", "doors", "sorts", "index", "thing", "sort", "place", "_"]
theorem scWDoor : FnScope NWDoor ["places", "doors"] (defScope sWrongDoor) := ⟨rfl, rfl, rfl, by decide +kernel, rfl, by decide +kernel, by decide +kernel⟩
theorem door_of {n : Int} {s : Option (List V)} (h : isDoor n s = true) : ∃ (z : Str) (p h : Int), s = some [.str z, .int p, .int h] := by
  match s, h with
  | some [z, p, l], h =>
    have h' : (isIO z && (isP n p && isN l)) = true := h
    simp only [Bool.and_eq_true] at h'
    obtain ⟨h1, h2, h3⟩ := h'
    obtain ⟨pi, rfl⟩ := isP_int h2
    obtain ⟨li, rfl, l0⟩ := isN_int h3
    cases z with
    | str z => exact ⟨z, pi, li, rfl⟩
    | _ => cases h1
  | none, h => cases h
  | some [], h => cases h
  | some [_], h => cases h
  | some [_, _], h => cases h
  | some (_ :: _ :: _ :: _ :: _), h => cases h
/-- the sorts so far -/
structure Srt (ss : List (Option (List V))) (kvs : List (Key × V)) (i : Nat) : Prop where
  l : kvs.length ≤ i
  e : ∀ p : Int, (valV kvs (Sum.inl p) = none ∧ ∀ j, j < i → ∀ z h, ss[j]? ≠ some (some [.str z, .int p, h])) ∨
    ∃ z, valV kvs (Sum.inl p) = some (.str z) ∧ (∃ j h, j < i ∧ ss[j]? = some (some [.str z, .int p, h])) ∧ ∀ j, j < i → ∀ z' h, ss[j]? = some (some [.str z', .int p, h]) → z' = z
structure DI (H : Hp) (n : Int) (a o : Addr) (xs : List V) (i : Nat) (σ : L2.St) (H' : Hp) : Prop where
  s : ∃ index thing b e l, σ = [some (.int n), some (.ref a), some (.ref o), index, thing, b, e, l]
  k : Same H H'
  on : ∃ kvs, H' o = some (.dK kvs) ∧ Srt (xs.map (seqOf H)) kvs i
  g : ∀ j, j < i → ¬ BadD n (xs.map (seqOf H)) j
section
variable {P : Program} {w : World} {K : PySem.W.Frag} {mg : Str → Option Value} {base : Heap}
theorem ok_wdoor {f fI fN fL fPl fR : Addr} {fd fdI fdN fdL fdPl fdR : FuncData} (F : Fun K "first_wrong_door" "first_wrong_door" sWrongDoor f fd) (T : Bt mg) (FI : Fun K "is_integer" "is_integer" sIsInt fI fdI) (gI : mg "is_integer" = some (.ref fI)) (bI : Binds K fdI ["thing"] [])
    (FN : Fun K "is_number" "is_number" sIsNum fN fdN) (gN : mg "is_number" = some (.ref fN)) (bN : Binds K fdN ["thing"] []) (FL : Fun K "is_list" "is_list" sIsList fL fdL) (gL : mg "is_list" = some (.ref fL)) (bL : Binds K fdL ["thing"] [])
    (FPl : Fun K "is_place" "is_place" sIsPlace fPl fdPl) (gPl : mg "is_place" = some (.ref fPl)) (bPl : Binds K fdPl ["places", "thing"] [])
    (FR : Fun K "is_door" "is_door" sIsDoor fR fdR) (gR : mg "is_door" = some (.ref fR)) (bR : Binds K fdR ["places", "thing"] []) : FnOk P w K mg base CX0 5 f fd ["places", "doors"] (spWrong DRes K) := by
  have GL : FnOk P w K mg base CX0 1 fL fdL ["thing"] spLst := ok_isLst FL T
  have GR : FnOk P w K mg base CX0 4 fR fdR ["places", "thing"] spDoor := ok_isDoor FR T FI gI bI FN gN bN FL gL bL FPl gPl bPl
  refine F.ok scWDoor (fun vs H Q E h => ?_) (fun cdv A outer s H vs Q E hr h => ?_)
  · obtain ⟨n, v, rfl, _⟩ := h
    rfl
  · obtain ⟨n, v, rfl, hv, hc⟩ := h
    refine ⟨_, (pss_cons (ps_if (pt_not (pt_val (pe_call GL (hr.mono (by decide)) (by rfl) gL FL.kp bL .nil pass0 (pa_cons (pv 1) pa_nil)))) (pss_one (ps_ret pe_int)) pss_nil)
  (pss_cons (ps_set (i := 2) scWDoor.nd rfl (Or.inl rfl) pe_dnewK)
  (pss_cons (ps_for PassesOwn.never rfl (pi_or (pi_enum (by rfl) T.enum (pa_cons (pv 1) pa_nil)) (pi_enumT (by rfl) T.enum (pa_cons (pv 1) pa_nil))) (pg_tup rfl (pgs_cons (pg_name (i := 3) (x := "index") scWDoor.nd rfl (Or.inl rfl)) (pgs_cons (pg_name (i := 4) (x := "thing") scWDoor.nd rfl (Or.inl rfl)) pgs_nil))) (pss_cons (ps_if (pt_not (pt_val (pe_call GR hr (by rfl) gR FR.kp bR .nil pass0 (pa_cons (pv 0) (pa_cons (pv 4) pa_nil))))) (pss_one (ps_ret (pv 3))) pss_nil)
  (Evl.pss_cut (ps_asg (pv 4) (pg_or (pg_tup rfl (pgs_cons (pg_name (i := 5) (x := "sort") scWDoor.nd rfl (Or.inl rfl)) (pgs_cons (pg_name (i := 6) (x := "place") scWDoor.nd rfl (Or.inl rfl)) (pgs_cons (pg_name (i := 7) (x := "_") scWDoor.nd rfl (Or.inl rfl)) pgs_nil)))) (pg_unl rfl (pgs_cons (pg_name (i := 5) (x := "sort") scWDoor.nd rfl (Or.inl rfl)) (pgs_cons (pg_name (i := 6) (x := "place") scWDoor.nd rfl (Or.inl rfl)) (pgs_cons (pg_name (i := 7) (x := "_") scWDoor.nd rfl (Or.inl rfl)) pgs_nil))))))
  (pss_one (ps_if (pt_cmpR op_ne (pe_dsetd (pv 2) (pv 6) (pv 5) ⟨by rfl, by rfl, by rfl, by rfl⟩) (pv 5) (nomark _)) (pss_one (ps_ret (pv 3))) pss_nil)))))
  (pss_one (ps_ret pe_non))))), ?_⟩
    refine ⟨_, rfl, v, rfl, hv, fun H1 e1 => ⟨_, rfl, ?_⟩⟩
    rcases hc with ⟨hs, k⟩ | ⟨a, xs, rfl, ha, it, lx, k⟩
    · rw [hs]
      exact k _ e1
    · rw [ha.seq]
      refine iteF (fun o ho => ?_)
      have e2 : Same H (upd H1 o (.dK [])) := e1.trans (same_new ho)
      have ho0 : H o = none := by
        cases e : H o with
        | none => rfl
        | some u =>
          rw [e1 _ _ e] at ho
          cases ho
      refine enum_or (K := K) ha e2 (fun S q => ⟨_, rfl, q⟩) fun J G wk hG => ?_
      refine for_it wk (DI H n a o xs) ⟨⟨_, _, _, _, _, rfl⟩, e2, ⟨[], upd_same, Nat.le_refl _, fun p => .inl ⟨rfl, fun j hj => absurd hj (Nat.not_lt_zero j)⟩⟩, fun j hj => absurd hj (Nat.not_lt_zero j)⟩ (fun i σ' H' _ w => hG _ w.k) ?_ ?_
      · rintro i x σ' H3 H4 hi ⟨⟨index, thing, b0, e0, l0, rfl⟩, ks, ⟨kvs, hk, sr⟩, good⟩ ⟨t, x1, y1, rfl, ht, rfl, hx, hy⟩
        obtain rfl : V.int (i : Nat) = x1 := Option.some.inj hx
        have s4 := same_new (o := .tup [.int (i : Nat), y1]) ht
        have k4 := ks.trans s4
        refine ⟨t, _, rfl, SqT.of upd_same, rfl, _, _, rfl, _, _, rfl, rfl, ?_⟩
        have hy' : xs[i]? = some y1 := hy
        have hym := List.mem_of_getElem? hy'
        obtain ⟨sh, shi⟩ := it y1 hym
        have sh4 := sh.same k4
        have sq4 := seq_same sh k4
        have at_i : (xs.map (seqOf H))[i]? = some (seqOf H y1) := by
          rw [List.getElem?_map, hy']
          rfl
        have hlen : i < (xs.map (seqOf H)).length := by
          rw [List.length_map]
          exact hi
        refine ⟨_, rfl, _, rfl, n, y1, rfl, sh4, (fun ys e y m => ?_), fun H5 e5 => ?_⟩
        · rw [sq4] at e
          exact (shi ys e y m).same k4
        rw [sq4]
        have k5 := k4.trans e5
        have hk5 := e5 _ _ (s4 _ _ hk)
        refine ⟨_, rfl, ?_⟩
        cases hR : isDoor n (seqOf H y1) with
        | false => exact iteT ⟨_, rfl, k _ _ k5 (.inr ⟨i, rfl, hlen, ⟨_, at_i, .inl hR⟩, good⟩)⟩
        | true =>
          refine iteF ?_
          obtain ⟨z, p, h, es⟩ := door_of hR
          obtain ⟨a1, rfl, ha1⟩ := sq_of (K := K) sh es
          refine ⟨fun σ' H' => H' = H5 ∧ σ' = [some (.int n), some (.ref a), some (.ref o), some (.int (i : Nat)), some (.ref a1), some (.str z), some (.int p), some (.int h)], ?_, ?_⟩
          · refine ⟨_, rfl, ?_⟩
            rcases ha1 with ha1 | ha1
            · exact .inr ⟨a1, _, rfl, SqL.of (k5 _ _ ha1), rfl, _, _, rfl, _, _, rfl, _, _, rfl, rfl, rfl, rfl⟩
            · exact .inl ⟨a1, _, rfl, SqT.of (k5 _ _ ha1), rfl, _, _, rfl, _, _, rfl, _, _, rfl, rfl, rfl, rfl⟩
          · rintro σ' H' ⟨rfl, rfl⟩
            rw [es] at at_i
            have nobad : ∀ j, j < i + 1 → (j = i → ¬ BadD n (xs.map (seqOf H)) i) → ¬ BadD n (xs.map (seqOf H)) j := fun j hj hi2 => by
              by_cases z : j = i
              · rw [z]
                exact hi2 z
              · exact good j (by omega)
            have same_at : ∀ {z' p' h'}, (xs.map (seqOf H))[i]? = some (some [.str z', .int p', h']) → z' = z ∧ p' = p := fun {z' p' h'} g => by
              rw [at_i] at g
              obtain ⟨g1, g2⟩ := List.cons.inj (Option.some.inj (Option.some.inj g))
              exact ⟨(V.str.inj g1).symm, (V.int.inj (List.cons.inj g2).1).symm⟩
            have nb : (∀ j, j < i → ∀ z' h', (xs.map (seqOf H))[j]? = some (some [.str z', .int p, h']) → z' = z) → ¬ BadD n (xs.map (seqOf H)) i := fun hh ⟨s', g1, g2⟩ => by
              rw [at_i] at g1
              rw [← Option.some.inj g1] at g2
              rcases g2 with g2 | ⟨z2, p2, h2, i2, z3, h3, g2, g3, g4, g5⟩
              · rw [es] at hR
                rw [hR] at g2
                cases g2
              · obtain ⟨q1, q2⟩ := List.cons.inj (Option.some.inj g2)
                obtain rfl := V.str.inj q1
                obtain rfl := V.int.inj (List.cons.inj q2).1
                exact g5 (hh i2 g3 z3 h3 g4)
            have ll : kvs.length < sizeLine := Nat.lt_of_le_of_lt (Nat.le_trans sr.l (show i ≤ 1000 by omega)) (by decide)
            refine ⟨_, rfl, o, rfl, .inl ⟨kvs, .inl hk5⟩, _, rfl, _, rfl, kvs, Sum.inl p, hk5, rfl, ll, fun v hv => ?_, fun hv => ?_⟩
            · rcases sr.e p with ⟨no, _⟩ | ⟨z0, m1, ⟨j0, h0, m2, m3⟩, m4⟩
              · rw [hv] at no
                cases no
              · rw [hv] at m1
                obtain rfl := Option.some.inj m1
                refine ⟨_, rfl, rfl, _, rfl, ite2 (fun hc => ?_) (fun hc => ?_)⟩
                · have nz : z0 ≠ z := fun q => by
                    rw [q, decide_eq_true rfl] at hc
                    cases hc
                  exact ⟨_, rfl, k _ _ k5 (.inr ⟨i, rfl, hlen, ⟨_, at_i, .inr ⟨z, p, _, j0, z0, h0, rfl, m2, m3, nz⟩⟩, good⟩)⟩
                · have ez : z0 = z := by
                    have q : decide (V.str z0 = V.str z) = true := by simpa using hc
                    exact V.str.inj (of_decide_eq_true q)
                  subst ez
                  refine ⟨⟨_, _, _, _, _, rfl⟩, k5, ⟨kvs, hk5, Nat.le_succ_of_le sr.l, fun p' => ?_⟩, fun j hj => nobad j hj fun _ => nb fun j' hj' z' h' g => m4 j' hj' z' h' g⟩
                  by_cases hp : p' = p
                  · subst hp
                    refine .inr ⟨z0, hv, ⟨j0, h0, Nat.lt_succ_of_lt m2, m3⟩, fun j hj z' h' g => ?_⟩
                    by_cases q : j = i
                    · rw [q] at g
                      exact (same_at g).1
                    · exact m4 j (by omega) z' h' g
                  · rcases sr.e p' with ⟨no, nn⟩ | ⟨z1, q1, ⟨j1, h1, q2, q3⟩, q4⟩
                    · refine .inl ⟨no, fun j hj z' h' g => ?_⟩
                      by_cases q : j = i
                      · rw [q] at g
                        exact hp (same_at g).2
                      · exact nn j (by omega) z' h' g
                    · refine .inr ⟨z1, q1, ⟨j1, h1, Nat.lt_succ_of_lt q2, q3⟩, fun j hj z' h' g => ?_⟩
                      by_cases q : j = i
                      · rw [q] at g
                        exact absurd (same_at g).2 hp
                      · exact q4 j (by omega) z' h' g
            · have nn0 : ∀ j, j < i → ∀ z' h', (xs.map (seqOf H))[j]? ≠ some (some [.str z', .int p, h']) := by
                rcases sr.e p with ⟨_, nn⟩ | ⟨z0, m1, _⟩
                · exact nn
                · rw [hv] at m1
                  cases m1
              refine ⟨_, rfl, rfl, _, rfl, iteNS rfl ?_⟩
              refine ⟨⟨_, _, _, _, _, rfl⟩, fun b u q => ?_, ⟨_, upd_same, ?_, fun p' => ?_⟩, fun j hj => nobad j hj fun _ => nb fun j' hj' z' h' g => absurd g (nn0 j' hj' z' h')⟩
              · rw [upd_ne (ne_of_none q ho0)]
                exact k5 _ _ q
              · rw [putK_new _ hv, List.length_append]
                exact Nat.succ_le_succ sr.l
              · rw [valV_put]
                by_cases hp : p' = p
                · subst hp
                  rw [if_pos rfl]
                  refine .inr ⟨z, rfl, ⟨i, _, Nat.lt_succ_self i, at_i⟩, fun j hj z' h' g => ?_⟩
                  by_cases q : j = i
                  · rw [q] at g
                    exact (same_at g).1
                  · exact absurd g (nn0 j (by omega) z' h')
                · rw [if_neg (fun q => hp (Sum.inl.inj q))]
                  rcases sr.e p' with ⟨no, nn⟩ | ⟨z1, q1, ⟨j1, h1, q2, q3⟩, q4⟩
                  · refine .inl ⟨no, fun j hj z' h' g => ?_⟩
                    by_cases q : j = i
                    · rw [q] at g
                      exact hp (same_at g).2
                    · exact nn j (by omega) z' h' g
                  · refine .inr ⟨z1, q1, ⟨j1, h1, Nat.lt_succ_of_lt q2, q3⟩, fun j hj z' h' g => ?_⟩
                    by_cases q : j = i
                    · rw [q] at g
                      exact absurd (same_at g).2 hp
                    · exact q4 j (by omega) z' h' g
      · rintro σ' H3 w
        have lenx : (xs.map (seqOf H)).length = xs.length := List.length_map _
        exact k _ _ w.k (.inl ⟨rfl, fun j hj => w.g j (by rw [← lenx]; exact hj)⟩)
end
end K17

set_option Elab.async false
set_option linter.all false
set_option maxRecDepth 100000
set_option maxHeartbeats 8000000
namespace K17
open PySem PySem.Spec PyProof.Rows L2 Own
theorem pe_tupK {X : Cx} {K : PySem.W.Frag} {a : Expr} {ta : TE} {p pos : Pos} (h : X.K = K) (hg : Gl X "tuple") (hm : X.mg "tuple" = none) (ha : PE X a ta) (hs : starEach [a] X.env = (false, eval a X.env) :: starEach [] X.env := by rfl) : PE X (.Call (.Name "tuple" p) [a] [] pos) (tThen ta (kTup K)) := by
  subst h
  exact pe_tupleOf hg hm ha hs
/-- the class House -/
structure HC (K : PySem.W.Frag) (C : Addr) : Prop where
  cl : Cls K C
  nP : NoAttr K C "_places"
  nR : NoAttr K C "_roads"
  nD : NoAttr K C "_doors"
/-- an error of one field leaves, all else stays -/
def Out (H : Hp) (E : XK) (C : Addr) (f : Str) (v : V) : Prop := ∀ d H', H d = none → Same H H' → H' d = some (.xd [(f, v)]) → E (.ref C) (some d) H'
theorem none_back {H H1 : Hp} {d : Addr} (e : Same H H1) (h : H1 d = none) : H d = none := by
  cases z : H d with
  | none => rfl
  | some u =>
    rw [e _ _ z] at h
    cases h
theorem Out.at {H H1 : Hp} {E : XK} {C : Addr} {f : Str} {v : V} (o : Out H E C f v) (e : Same H H1) : ∀ d H2, H1 d = none → (∀ b u, H1 b = some u → H2 b = some u) → H2 d = some (.xd [(f, v)]) → E (.ref C) (some d) H2 := fun d H2 nd sm hd => o d H2 (none_back e nd) (e.trans sm) hd
/-- each item as a tuple -/
def Tupd (H H' : Hp) (xs rs : List V) : Prop := Paired (fun v w => ∃ b t, w = V.ref b ∧ H' b = some (.tup t) ∧ seqOf H v = some t) xs rs
theorem Tupd.mono {H H1 H2 : Hp} {xs rs : List V} (t : Tupd H H1 xs rs) (k : ∀ b u, H1 b = some (.tup u) → H2 b = some (.tup u)) : Tupd H H2 xs rs := by
  unfold Tupd at t ⊢
  induction t with
  | nil => exact .nil
  | cons h _ ih =>
    obtain ⟨b, u, e1, e2, e3⟩ := h
    exact .cons ⟨b, u, e1, k _ _ e2, e3⟩ ih
theorem Tupd.snoc {H H1 : Hp} {v w : V} : ∀ {xs rs : List V}, Tupd H H1 xs rs → (∃ b t, w = V.ref b ∧ H1 b = some (.tup t) ∧ seqOf H v = some t) → Tupd H H1 (xs ++ [v]) (rs ++ [w])
  | _, _, .nil, h => .cons h .nil
  | _, _, .cons h0 t, h => .cons h0 (Tupd.snoc t h)
theorem pf0 (v : V) : putF "_places" v [] = [(("_places" : Str), v)] := rfl
theorem pf1 (v w : V) : putF "_roads" v [(("_places" : Str), w)] = [(("_places" : Str), w), (("_roads" : Str), v)] := by
  unfold putF
  rw [if_neg (by decide)]
  rfl
theorem pf2 (u v w : V) : putF "_doors" u [(("_places" : Str), w), (("_roads" : Str), v)] = [(("_places" : Str), w), (("_roads" : Str), v), (("_doors" : Str), u)] := by
  unfold putF
  rw [if_neg (by decide)]
  unfold putF
  rw [if_neg (by decide)]
  rfl
theorem all_seq {n : Int} {H : Hp} {xs : List V} (P : Option (List V) → Bool) (hP : ∀ s, P s = true → ∃ t, s = some t) (h : ∀ j, j < (xs.map (seqOf H)).length → ∀ s, (xs.map (seqOf H))[j]? = some s → P s = true) : ∀ v ∈ xs, ∃ t, seqOf H v = some t := fun v hv => by
  obtain ⟨j, hj, e⟩ := List.mem_iff_getElem.mp hv
  have e2 : (xs.map (seqOf H))[j]? = some (seqOf H v) := by
    rw [List.getElem?_map, List.getElem?_eq_getElem hj, e]
    rfl
  exact hP _ (h j (by rw [List.length_map]; exact hj) _ e2)
def spHInit (K : PySem.W.Frag) (Cp Cr Cd : Addr) : Sp := fun vs H Q E => ∃ (x C dx : Addr) (pl rv dv : V), vs = [.ref x, pl, rv, dv] ∧ H x = some (.ins C dx []) ∧ HC K C ∧ Shp H pl ∧
  (((∀ n, pl = .int n → n < 1) ∧ Out H E Cp "places" pl) ∨ ∃ n, pl = .int n ∧ 1 ≤ n ∧ Shp H rv ∧
    ((seqOf H rv = none ∧ Out H E Cr "index" (.int 0)) ∨ ∃ a xs, rv = .ref a ∧ Sqs H a xs ∧ Items H xs ∧ xs.length ≤ 1000 ∧
      (∀ j : Nat, WRes n (xs.map (seqOf H)) (.int j) → Out H E Cr "index" (.int j)) ∧ (WRes n (xs.map (seqOf H)) .non → Shp H dv ∧
        ((seqOf H dv = none ∧ Out H E Cd "index" (.int 0)) ∨ ∃ b ys, dv = .ref b ∧ Sqs H b ys ∧ Items H ys ∧ ys.length ≤ 1000 ∧
          (∀ j : Nat, DRes n (ys.map (seqOf H)) (.int j) → Out H E Cd "index" (.int j)) ∧ (DRes n (ys.map (seqOf H)) .non →
            ∀ H' p q rs ds, (∀ c o, c ≠ x → H c = some o → H' c = some o) → H' x = some (.ins C dx [("_places", .int n), ("_roads", .ref p), ("_doors", .ref q)]) → H p = none → H q = none → p ≠ q → H' p = some (.lst rs) → H' q = some (.lst ds) →
              Tupd H H' xs rs → Tupd H H' ys ds → Q .non H')))))
abbrev NInit : List Str := ["self", "places", "roads", "doors", "wrong", "road", "door"]
theorem scInit : FnScope NInit ["self", "places", "roads", "doors"] (defScope sInit) := ⟨rfl, rfl, rfl, by decide +kernel, rfl, by decide +kernel, by decide +kernel⟩
section
variable {P : Program} {w : World} {K : PySem.W.Frag} {mg : Str → Option Value} {base : Heap}
theorem ok_hinit {f fI fN fL fPl fR fC fD fWR fWD Cp Cr Cd : Addr} {fd fdI fdN fdL fdPl fdR fdC fdD fdWR fdWD : FuncData} (F : Fun K "__init__" "House.__init__" sInit f fd) (T : Bt mg) (FI : Fun K "is_integer" "is_integer" sIsInt fI fdI) (gI : mg "is_integer" = some (.ref fI)) (bI : Binds K fdI ["thing"] [])
    (FN : Fun K "is_number" "is_number" sIsNum fN fdN) (gN : mg "is_number" = some (.ref fN)) (bN : Binds K fdN ["thing"] []) (FL : Fun K "is_list" "is_list" sIsList fL fdL) (gL : mg "is_list" = some (.ref fL)) (bL : Binds K fdL ["thing"] [])
    (FPl : Fun K "is_place" "is_place" sIsPlace fPl fdPl) (gPl : mg "is_place" = some (.ref fPl)) (bPl : Binds K fdPl ["places", "thing"] [])
    (FR : Fun K "is_road" "is_road" sIsRoad fR fdR) (gR : mg "is_road" = some (.ref fR)) (bR : Binds K fdR ["places", "thing"] [])
    (FC : Fun K "comes_to" "comes_to" sComes fC fdC) (gC : mg "comes_to" = some (.ref fC)) (bC : Binds K fdC ["onward", "begin", "end"] [])
    (FD : Fun K "is_door" "is_door" sIsDoor fD fdD) (gD : mg "is_door" = some (.ref fD)) (bD : Binds K fdD ["places", "thing"] [])
    (FWR : Fun K "first_wrong_road" "first_wrong_road" sWrongRoad fWR fdWR) (gWR : mg "first_wrong_road" = some (.ref fWR)) (bWR : Binds K fdWR ["places", "roads"] [])
    (FWD : Fun K "first_wrong_door" "first_wrong_door" sWrongDoor fWD fdWD) (gWD : mg "first_wrong_door" = some (.ref fWD)) (bWD : Binds K fdWD ["places", "doors"] [])
    (EP : EI P w K mg base "BadPlaces" "places" Cp) (ER : EI P w K mg base "BadRoads" "index" Cr) (ED : EI P w K mg base "BadDoors" "index" Cd) :
    FnOk P w K mg base (L2.CX P w) 6 f fd ["self", "places", "roads", "doors"] (spHInit K Cp Cr Cd) := by
  have GI : FnOk P w K mg base CX0 1 fI fdI ["thing"] spInt := ok_isInt FI T
  have GWR : FnOk P w K mg base CX0 5 fWR fdWR ["places", "roads"] (spWrong WRes K) := ok_wroad FWR T FI gI bI FN gN bN FL gL bL FPl gPl bPl FR gR bR FC gC bC
  have GWD : FnOk P w K mg base CX0 5 fWD fdWD ["places", "doors"] (spWrong DRes K) := ok_wdoor FWD T FI gI bI FN gN bN FL gL bL FPl gPl bPl FD gD bD
  refine F.okX scInit (fun vs H Q E h => ?_) (fun cdv A outer s H vs Q E hr h => ?_)
  · obtain ⟨x, C, dx, pl, rv, dv, rfl, _⟩ := h
    rfl
  · obtain ⟨x, C, dx, pl, rv, dv, rfl, hx, hc, hpl, hcase⟩ := h
    refine ⟨_, (pss_cons (ps_if (PW.pt (pw_or (pt_not (pt_val (pe_call GI (hr.mono (by decide)) (by rfl) gI FI.kp bI .nil pass0 (pa_cons (pv 1) pa_nil)))) (pw_or1 (pt_cmpR op_lt (pv 1) pe_int (nomark _))))) (pss_one (ps_EI rfl (takes_of rfl rfl rfl rfl) EP (hr.mono (by decide)) (by rfl) (pv 1) (mono_var 1))) pss_nil)
  (pss_cons (ps_set (i := 4) scInit.nd rfl (Or.inl rfl) (pe_call GWR hr (by rfl) gWR FWR.kp bWR .nil pass0 (pa_cons (pv 1) (pa_cons (pv 2) pa_nil))))
  (pss_cons (ps_if (pt_cmpR op_notN (pv 4) pe_non (nomark _)) (pss_one (ps_EI rfl (takes_of rfl rfl rfl rfl) ER (hr.mono (by decide)) (by rfl) (pv 4) (mono_var 4))) pss_nil)
  (pss_cons (ps_set (i := 4) scInit.nd rfl (Or.inl rfl) (pe_call GWD hr (by rfl) gWD FWD.kp bWD .nil pass0 (pa_cons (pv 1) (pa_cons (pv 3) pa_nil))))
  (pss_cons (ps_if (pt_cmpR op_notN (pv 4) pe_non (nomark _)) (pss_one (ps_EI rfl (takes_of rfl rfl rfl rfl) ED (hr.mono (by decide)) (by rfl) (pv 4) (mono_var 4))) pss_nil)
  (pss_cons (ps_fld (pv 0) (pv 1) rfl)
  (pss_cons (ps_fld (pv 0) (pe_lc (own := [("road", 5)]) (g := gName 5) (tt := tYes) rfl scInit.nd (pi_or (pi_list (pv 2)) (pi_tup (pv 2))) (blkOk_by (N := NInit) (sc := defScope sInit) (by decide +kernel)) (fun _ _ _ _ _ => (pg_name (i := 5) (x := "road") scInit.nd rfl (Or.inl rfl))) (fun _ _ _ _ _ => pts_nil) (fun _ _ _ _ _ => (pe_tupK (K := K) rfl (by rfl) T.tuple (pv 5)))) rfl)
  (pss_one (ps_fld (pv 0) (pe_lc (own := [("door", 6)]) (g := gName 6) (tt := tYes) rfl scInit.nd (pi_or (pi_list (pv 3)) (pi_tup (pv 3))) (blkOk_by (N := NInit) (sc := defScope sInit) (by decide +kernel)) (fun _ _ _ _ _ => (pg_name (i := 6) (x := "door") scInit.nd rfl (Or.inl rfl))) (fun _ _ _ _ _ => pts_nil) (fun _ _ _ _ _ => (pe_tupK (K := K) rfl (by rfl) T.tuple (pv 6)))) rfl))))))))), ?_⟩
    refine ⟨_, rfl, pl, rfl, hpl, _, rfl, ?_⟩
    rcases hcase with ⟨bad, out⟩ | ⟨n, rfl, n1, hrv, hcase⟩
    · cases pl with
      | int n =>
        refine iteF ⟨_, rfl, _, _, rfl, rfl, _, rfl, ?_⟩
        rw [decide_eq_true (bad n rfl)]
        exact iteT ⟨_, rfl, out.at (Same.refl H)⟩
      | _ => exact iteT (iteT ⟨_, rfl, out.at (Same.refl H)⟩)
    · refine iteF ⟨_, rfl, _, _, rfl, rfl, _, rfl, ?_⟩
      rw [decide_eq_false (show ¬ n < 1 by omega)]
      refine iteF ?_
      rcases hcase with ⟨hs, out⟩ | ⟨a, xs, rfl, ha, it, lx, outR, hcase⟩
      · exact ⟨_, rfl, _, rfl, n, rv, rfl, hrv, .inl ⟨hs, fun H1 e1 => ⟨_, rfl, rfl, _, rfl, iteT ⟨_, rfl, out.at e1⟩⟩⟩⟩
      · refine ⟨_, rfl, _, rfl, n, _, rfl, hrv, .inr ⟨a, xs, rfl, ha, it, lx, fun H1 r e1 wr => ?_⟩⟩
        rcases wr with ⟨rfl, wr⟩ | ⟨j, rfl, wr⟩
        · refine ⟨_, rfl, rfl, _, rfl, iteF ?_⟩
          obtain ⟨hdv, hcase⟩ := hcase (.inl ⟨rfl, wr⟩)
          rcases hcase with ⟨hs, out⟩ | ⟨b, ys, rfl, hb, it2, ly, outD, fin⟩
          · refine ⟨_, rfl, _, rfl, n, dv, rfl, hdv.same e1, .inl ⟨by rw [seq_same hdv e1]; exact hs, fun H2 e2 => ⟨_, rfl, rfl, _, rfl, iteT ⟨_, rfl, out.at (e1.trans e2)⟩⟩⟩⟩
          · refine ⟨_, rfl, _, rfl, n, _, rfl, hdv.same e1, .inr ⟨b, ys, rfl, hb.same e1, it2.same e1, ly, fun H2 r2 e2 dr => ?_⟩⟩
            rw [it2.seqs e1] at dr
            rcases dr with ⟨rfl, dr⟩ | ⟨j, rfl, dr⟩
            · refine ⟨_, rfl, rfl, _, rfl, iteF ?_⟩
              have fin2 := fin (.inl ⟨rfl, dr⟩)
              have e3 := e1.trans e2
              clear outD outR
              refine ⟨_, rfl, _, rfl, x, C, dx, [], rfl, e3 _ _ hx, hc.cl, hc.nP, by decide, ?_⟩
              rw [pf0]
              have nax : a ≠ x := ha.elim (fun z => ne_of z hx fun q => by cases q) fun z => ne_of z hx fun q => by cases q
              have nbx : b ≠ x := hb.elim (fun z => ne_of z hx fun q => by cases q) fun z => ne_of z hx fun q => by cases q
              have oldA : ∀ c u, c ≠ x → H c = some u → upd H2 x (.ins C dx [("_places", .int n)]) c = some u := fun c u nc g => by
                rw [upd_ne nc]
                exact e3 _ _ g
              have hxA : upd H2 x (.ins C dx [("_places", .int n)]) x = some (.ins C dx [("_places", .int n)]) := upd_same
              generalize upd H2 x (.ins C dx [("_places", .int n)]) = HA at oldA hxA ⊢
              have allR : ∀ v ∈ xs, ∃ t, seqOf H v = some t := all_seq (n := n) (isRoad n) (fun s hs => by obtain ⟨x1, y1, l1, r1, e, _⟩ := road_of hs; exact ⟨_, e⟩) fun j hj s es => by
                cases q : isRoad n s with
                | true => rfl
                | false => exact absurd ⟨s, es, .inl q⟩ (wr j hj)
              have allD : ∀ v ∈ ys, ∃ t, seqOf H v = some t := all_seq (n := n) (isDoor n) (fun s hs => by obtain ⟨z1, p1, h1, e⟩ := door_of hs; exact ⟨_, e⟩) fun j hj s es => by
                cases q : isDoor n s with
                | true => rfl
                | false => exact absurd ⟨s, es, .inl q⟩ (dr j hj)
              have haA : Sqs HA a xs := ha.imp (fun z => oldA a _ nax z) fun z => oldA a _ nax z
              refine walk_or (K := K) haA (Same.refl HA) (fun S q => ⟨_, rfl, q⟩) fun J G wk hG => fun D1 hD1 => ?_
              refine lc_it wk (fun i H' => ∃ acc, H' D1 = some (.lst acc) ∧ acc.length = i ∧ (∀ b u, HA b = some u → H' b = some u) ∧ Tupd H H' (xs.take i) acc) ⟨[], upd_same, rfl, same_new hD1, .nil⟩ (fun i H' _ q => hG _ (by obtain ⟨_, _, _, q, _⟩ := q; exact q)) ?_ ?_
              · rintro i v H4 H5 hi ⟨acc, d4, l4, k4, t4⟩ ⟨rfl, hv⟩
                have hvm := List.mem_of_getElem? hv
                obtain ⟨t, et⟩ := allR v hvm
                obtain ⟨c, rfl, hcc⟩ := sq_of (K := K) (it v hvm).1 et
                have tk : xs.take (i + 1) = xs.take i ++ [.ref c] := by
                  rw [List.take_add_one, hv]
                  rfl
                have ncx : c ≠ x := by
                  rcases hcc with z | z
                  · exact ne_of z hx fun q => by cases q
                  · exact ne_of z hx fun q => by cases q
                have ll : acc.length < sizeLine := by
                  rw [l4]
                  exact Nat.lt_of_lt_of_le (Nat.lt_of_lt_of_le hi lx) (by decide)
                have nD : ∀ {b : Addr} {u : HO}, HA b = some u → b ≠ D1 := fun g => ne_of_none g hD1
                refine ⟨rfl, ?_⟩
                dsimp only [tYes]
                refine iteT ⟨_, rfl, ?_⟩
                rcases hcc with z | z
                · refine .inl ⟨c, t, rfl, SqL.of (k4 _ _ (oldA c _ ncx z)), fun q hq => ?_⟩
                  have s6 := same_new (o := .tup t) hq
                  refine ⟨acc, s6 _ _ d4, ll, acc ++ [.ref q], upd_same, by rw [List.length_append, l4]; rfl, fun b u g => ?_, ?_⟩
                  · rw [upd_ne (nD g)]
                    exact s6 _ _ (k4 _ _ g)
                  · rw [tk]
                    have m7 : ∀ b u, (upd H5 q (.tup t)) b = some (.tup u) → (upd (upd H5 q (.tup t)) D1 (.lst (acc ++ [.ref q]))) b = some (.tup u) := fun b u g => by
                      rw [upd_ne (ne_of g (s6 _ _ d4) fun w => by cases w)]
                      exact g
                    exact ((t4.mono fun b u g => s6 _ _ g).mono m7).snoc ⟨q, t, rfl, m7 _ _ upd_same, et⟩
                · refine .inr ⟨c, t, rfl, SqT.of (k4 _ _ (oldA c _ ncx z)), ?_⟩
                  refine ⟨acc, d4, ll, acc ++ [.ref c], upd_same, by rw [List.length_append, l4]; rfl, fun b u g => ?_, ?_⟩
                  · rw [upd_ne (nD g)]
                    exact k4 _ _ g
                  · rw [tk]
                    have m7 : ∀ b u, H5 b = some (.tup u) → (upd H5 D1 (.lst (acc ++ [.ref c]))) b = some (.tup u) := fun b u g => by
                      rw [upd_ne (ne_of g d4 fun w => by cases w)]
                      exact g
                    exact (t4.mono m7).snoc ⟨c, t, rfl, m7 _ _ (k4 _ _ (oldA c _ ncx z)), et⟩
              · rintro H4 ⟨rs, d4, l4, k4, t4⟩
                rw [List.take_of_length_le (Nat.le_refl _)] at t4
                have n1x : D1 ≠ x := (ne_of_none hxA hD1).symm
                refine ⟨_, rfl, x, C, dx, [("_places", .int n)], rfl, k4 _ _ hxA, hc.cl, hc.nR, by show 1 < 1000; decide, ?_⟩
                rw [pf1]
                have oldB : ∀ c u, c ≠ x → H c = some u → upd H4 x (.ins C dx [("_places", .int n), ("_roads", .ref D1)]) c = some u := fun c u nc g => by
                  rw [upd_ne nc]
                  exact k4 _ _ (oldA c u nc g)
                have hxB : upd H4 x (.ins C dx [("_places", .int n), ("_roads", .ref D1)]) x = some (.ins C dx [("_places", .int n), ("_roads", .ref D1)]) := upd_same
                have d4B : upd H4 x (.ins C dx [("_places", .int n), ("_roads", .ref D1)]) D1 = some (.lst rs) := by
                  rw [upd_ne n1x]
                  exact d4
                have t4B : Tupd H (upd H4 x (.ins C dx [("_places", .int n), ("_roads", .ref D1)])) xs rs := t4.mono fun c u g => by
                  rw [upd_ne (ne_of g (k4 _ _ hxA) fun w => by cases w)]
                  exact g
                generalize upd H4 x (.ins C dx [("_places", .int n), ("_roads", .ref D1)]) = HB at oldB hxB d4B t4B ⊢
                have hbB : Sqs HB b ys := hb.imp (fun z => oldB b _ nbx z) fun z => oldB b _ nbx z
                refine walk_or (K := K) hbB (Same.refl HB) (fun S q => ⟨_, rfl, q⟩) fun J G wk hG => fun D2 hD2 => ?_
                refine lc_it wk (fun i H' => ∃ acc, H' D2 = some (.lst acc) ∧ acc.length = i ∧ (∀ b u, HB b = some u → H' b = some u) ∧ Tupd H H' (ys.take i) acc) ⟨[], upd_same, rfl, same_new hD2, .nil⟩ (fun i H' _ q => hG _ (by obtain ⟨_, _, _, q, _⟩ := q; exact q)) ?_ ?_
                · rintro i v H4 H5 hi ⟨acc, d4, l4, k4, t4⟩ ⟨rfl, hv⟩
                  have hvm := List.mem_of_getElem? hv
                  obtain ⟨t, et⟩ := allD v hvm
                  obtain ⟨c, rfl, hcc⟩ := sq_of (K := K) (it2 v hvm).1 et
                  have tk : ys.take (i + 1) = ys.take i ++ [.ref c] := by
                    rw [List.take_add_one, hv]
                    rfl
                  have ncx : c ≠ x := by
                    rcases hcc with z | z
                    · exact ne_of z hx fun q => by cases q
                    · exact ne_of z hx fun q => by cases q
                  have ll : acc.length < sizeLine := by
                    rw [l4]
                    exact Nat.lt_of_lt_of_le (Nat.lt_of_lt_of_le hi ly) (by decide)
                  have nD : ∀ {b : Addr} {u : HO}, HB b = some u → b ≠ D2 := fun g => ne_of_none g hD2
                  refine ⟨rfl, ?_⟩
                  dsimp only [tYes]
                  refine iteT ⟨_, rfl, ?_⟩
                  rcases hcc with z | z
                  · refine .inl ⟨c, t, rfl, SqL.of (k4 _ _ (oldB c _ ncx z)), fun q hq => ?_⟩
                    have s6 := same_new (o := .tup t) hq
                    refine ⟨acc, s6 _ _ d4, ll, acc ++ [.ref q], upd_same, by rw [List.length_append, l4]; rfl, fun b u g => ?_, ?_⟩
                    · rw [upd_ne (nD g)]
                      exact s6 _ _ (k4 _ _ g)
                    · rw [tk]
                      have m7 : ∀ b u, (upd H5 q (.tup t)) b = some (.tup u) → (upd (upd H5 q (.tup t)) D2 (.lst (acc ++ [.ref q]))) b = some (.tup u) := fun b u g => by
                        rw [upd_ne (ne_of g (s6 _ _ d4) fun w => by cases w)]
                        exact g
                      exact ((t4.mono fun b u g => s6 _ _ g).mono m7).snoc ⟨q, t, rfl, m7 _ _ upd_same, et⟩
                  · refine .inr ⟨c, t, rfl, SqT.of (k4 _ _ (oldB c _ ncx z)), ?_⟩
                    refine ⟨acc, d4, ll, acc ++ [.ref c], upd_same, by rw [List.length_append, l4]; rfl, fun b u g => ?_, ?_⟩
                    · rw [upd_ne (nD g)]
                      exact k4 _ _ g
                    · rw [tk]
                      have m7 : ∀ b u, H5 b = some (.tup u) → (upd H5 D2 (.lst (acc ++ [.ref c]))) b = some (.tup u) := fun b u g => by
                        rw [upd_ne (ne_of g d4 fun w => by cases w)]
                        exact g
                      exact (t4.mono m7).snoc ⟨c, t, rfl, m7 _ _ (k4 _ _ (oldB c _ ncx z)), et⟩
                · rintro H6 ⟨ds, d6, l6, k6, t6⟩
                  rw [List.take_of_length_le (Nat.le_refl _)] at t6
                  have n2x : D2 ≠ x := (ne_of_none hxB hD2).symm
                  refine ⟨_, rfl, x, C, dx, _, rfl, k6 _ _ hxB, hc.cl, hc.nD, by show 2 < 1000; decide, ?_⟩
                  rw [pf2]
                  have mv : ∀ c u, H6 c = some (.tup u) → upd H6 x (.ins C dx [("_places", .int n), ("_roads", .ref D1), ("_doors", .ref D2)]) c = some (.tup u) := fun c u g => by
                    rw [upd_ne (ne_of g (k6 _ _ hxB) fun w => by cases w)]
                    exact g
                  refine fin2 _ D1 D2 rs ds (fun c o nc g => ?_) upd_same ?_ ?_ (ne_of_none d4B hD2) ?_ ?_ ((t4B.mono fun c u g => k6 _ _ g).mono mv) (t6.mono mv)
                  · rw [upd_ne nc]
                    exact k6 _ _ (oldB c o nc g)
                  · cases z : H D1 with
                    | none => rfl
                    | some u =>
                      rw [oldA D1 u n1x z] at hD1
                      cases hD1
                  · cases z : H D2 with
                    | none => rfl
                    | some u =>
                      rw [oldB D2 u n2x z] at hD2
                      cases hD2
                  · rw [upd_ne n1x]
                    exact k6 _ _ d4B
                  · rw [upd_ne n2x]
                    exact d6
            · exact ⟨_, rfl, rfl, _, rfl, iteT ⟨_, rfl, (outD j (.inr ⟨j, rfl, dr⟩)).at (e1.trans e2)⟩⟩
        · exact ⟨_, rfl, rfl, _, rfl, iteT ⟨_, rfl, (outR j (.inr ⟨j, rfl, wr⟩)).at e1⟩⟩
end
end K17

set_option Elab.async false
set_option linter.all false
set_option maxRecDepth 100000
set_option maxHeartbeats 8000000
namespace K17
open PySem PySem.Spec PyProof.Rows L2 Own
theorem cut_to (xs : List V) {k : Int} (h : 0 ≤ k) : cutV xs none (some k) = xs.take k.toNat := by
  obtain ⟨n, rfl⟩ := Int.eq_ofNat_of_zero_le h
  unfold cutV
  rw [HT.sIx_nat]
  show (xs.drop 0).take (min n xs.length - 0) = xs.take n
  rw [List.drop_zero, Nat.sub_zero]
  by_cases z : n ≤ xs.length
  · rw [Nat.min_eq_left z]
  · rw [Nat.min_eq_right (by omega), List.take_of_length_le (Nat.le_refl _), List.take_of_length_le (by omega)]
theorem cut_from (xs : List V) {k : Int} (h : 0 ≤ k) : cutV xs (some k) none = xs.drop k.toNat := by
  obtain ⟨n, rfl⟩ := Int.eq_ofNat_of_zero_le h
  unfold cutV
  rw [HT.sIx_nat]
  show (xs.drop (min n xs.length)).take (xs.length - min n xs.length) = xs.drop n
  by_cases z : n ≤ xs.length
  · rw [Nat.min_eq_left z, List.take_of_length_le (by rw [List.length_drop]; exact Nat.le_refl _)]
  · rw [Nat.min_eq_right (by omega), List.drop_eq_nil_of_le (Nat.le_refl _), List.drop_eq_nil_of_le (by omega), List.take_nil]
/-- tuples stay -/
def TL (H H' : Hp) : Prop := ∀ b t, H b = some (.tup t) → H' b = some (.tup t)
theorem TL.trans {H H1 H2 : Hp} (x : TL H H1) (y : TL H1 H2) : TL H H2 := fun b t e => y b t (x b t e)
theorem TL.refl {H : Hp} : TL H H := fun _ _ e => e
theorem TL.new {H : Hp} {p : Addr} {o : HO} (h : H p = none) : TL H (upd H p o) := fun b t e => same_new h _ _ e
theorem TL.set {H : Hp} {p : Addr} {xs : List V} {o : HO} (h : H p = some (.lst xs)) : TL H (upd H p o) := fun b t e => by
  have n : b ≠ p := fun z => by
    rw [z, h] at e
    cases e
  rw [upd_ne n]
  exact e
theorem strm_ls {N : Int} {H : Hp} {a l : Addr} (S : Strm N H a l) : ∃ xs ys, H a = some (.lst xs) ∧ H l = some (.lst ys) := by
  obtain ⟨xs, c, n, m, h1, h2, _⟩ := S.ex
  exact ⟨_, _, h1, h2⟩
theorem But2.tl {N : Int} {H H' : Hp} {a l : Addr} (b : But2 a l H H') (S : Strm N H a l) : TL H H' := fun c t e => by
  obtain ⟨xs, ys, h1, h2⟩ := strm_ls S
  refine b c _ (fun z => ?_) (fun z => ?_) e
  · rw [z, h1] at e
    cases e
  · rw [z, h2] at e
    cases e
/-- values that are tuples of a kind -/
def AllT (H : Hp) (P : List V → Prop) (xs : List V) : Prop := ∀ v ∈ xs, ∃ p t, v = .ref p ∧ H p = some (.tup t) ∧ P t
theorem AllT.tl {H H' : Hp} {P : List V → Prop} {xs : List V} (h : AllT H P xs) (k : TL H H') : AllT H' P xs := fun v hv => by
  obtain ⟨p, t, e1, e2, e3⟩ := h v hv
  exact ⟨p, t, e1, k _ _ e2, e3⟩
theorem AllT.sub {H : Hp} {P : List V → Prop} {xs ys : List V} (h : AllT H P xs) (k : ∀ v ∈ ys, v ∈ xs) : AllT H P ys := fun v hv => h v (k v hv)
theorem AllT.app {H : Hp} {P : List V → Prop} {xs ys : List V} (h : AllT H P xs) (k : AllT H P ys) : AllT H P (xs ++ ys) := fun v hv => by
  rcases List.mem_append.mp hv with z | z
  · exact h v z
  · exact k v z
theorem AllT.nil {H : Hp} {P : List V → Prop} : AllT H P [] := fun v hv => by cases hv
theorem AllT.one {H : Hp} {P : List V → Prop} {p : Addr} {t : List V} (h : H p = some (.tup t)) (k : P t) : AllT H P [.ref p] := fun v hv => by
  rw [List.mem_singleton.mp hv]
  exact ⟨p, t, rfl, h, k⟩
theorem AllT.cons {H : Hp} {P : List V → Prop} {p : Addr} {t : List V} {xs : List V} (h : H p = some (.tup t)) (k : P t) (r : AllT H P xs) : AllT H P (.ref p :: xs) := (AllT.one h k).app r
/-- a road between some places; those of length 0 lead on in rank -/
def Rok (ps : List Int) (rk : Int → Nat) (t : List V) : Prop := ∃ x y d r : Int, t = [.int x, .int y, .int d, .int r] ∧ x ∈ ps ∧ y ∈ ps ∧ x ≠ y ∧ 0 ≤ d ∧ d ≤ 9 ∧ 1 ≤ r ∧ r ≤ 10 ∧ (d = 0 → rk x < rk y)
theorem nodup_but (b : Int) : ∀ {xs : List Int}, xs.Nodup → xs.length ≤ (xs.filter fun x => !decide (x = b)).length + 1
  | [], _ => Nat.zero_le _
  | x :: r, h => by
    obtain ⟨h1, h2⟩ := List.nodup_cons.mp h
    by_cases z : x = b
    · have e : (r.filter fun x => !decide (x = b)) = r := by
        refine List.filter_eq_self.mpr fun y hy => ?_
        have q : y ≠ b := fun w => h1 (by rw [z, ← w]; exact hy)
        rw [decide_eq_false q]
        rfl
      rw [List.filter_cons, decide_eq_true z]
      show (x :: r).length ≤ (r.filter fun x => !decide (x = b)).length + 1
      rw [e]
      exact Nat.le_refl _
    · have ih := nodup_but b h2
      rw [List.filter_cons, decide_eq_false z]
      show r.length + 1 ≤ (x :: r.filter fun x => !decide (x = b)).length + 1
      rw [List.length_cons]
      omega
/-- two more places -/
theorem two_more {b e : Int} {xs : List Int} (h : xs.Nodup) (hl : 4 ≤ xs.length) : ∃ x y r, (xs.filter fun z => !decide (z = b) && !decide (z = e)) = x :: y :: r ∧ x ≠ y ∧ x ∈ xs ∧ y ∈ xs ∧ x ≠ b ∧ x ≠ e ∧ y ≠ b ∧ y ≠ e := by
  have h1 := nodup_but e h
  have h2 := nodup_but b (h.filter fun x => !decide (x = e))
  rw [List.filter_filter] at h2
  have h3 : ((xs.filter fun z => !decide (z = b) && !decide (z = e))).Nodup := h.filter _
  have hm : ∀ z ∈ (xs.filter fun z => !decide (z = b) && !decide (z = e)), z ∈ xs ∧ z ≠ b ∧ z ≠ e := fun z hz => by
    obtain ⟨q1, q2⟩ := List.mem_filter.mp hz
    refine ⟨q1, fun w => ?_, fun w => ?_⟩
    · rw [decide_eq_true w] at q2
      cases q2
    · rw [decide_eq_true w] at q2
      cases z' : decide (z = b) <;> rw [z'] at q2 <;> cases q2
  generalize (xs.filter fun z => !decide (z = b) && !decide (z = e)) = f at h2 h3 hm
  match f, h3, hm, h2 with
  | [], _, _, h2 => simp at h2; omega
  | [x], _, _, h2 => simp at h2; omega
  | x :: y :: r, h3, hm, _ =>
    refine ⟨x, y, r, rfl, fun z => ?_, (hm x (by simp)).1, (hm y (by simp)).1, (hm x (by simp)).2.1, (hm x (by simp)).2.2, (hm y (by simp)).2.1, (hm y (by simp)).2.2⟩
    rw [z] at h3
    exact (List.nodup_cons.mp h3).1 List.mem_cons_self
abbrev NStep : List Str := ["_law_stream_here", "_law_begin", "_law_end", "_law_order", "_law_wide", "_law_one", "_law_other", "_law_room", "_law_first", "_law_middle", "_law_last", "_law_found", "_law_place"]
theorem scStepping : FnScope NStep ["_law_stream_here", "_law_begin", "_law_end", "_law_order", "_law_wide"] (defScope sStepping) := ⟨rfl, rfl, rfl, by decide +kernel, rfl, by decide +kernel, by decide +kernel⟩
def spStepping : Sp := fun vs H Q _ => ∃ (a l po : Addr) (N b e wide : Int) (ps : List Int), vs = [.ref a, .int b, .int e, .ref po, .int wide] ∧ Strm N H a l ∧ 0 ≤ N ∧ N + 20 ≤ 1000000000 ∧ po ≠ a ∧ po ≠ l ∧
  H po = some (.lst (ps.map V.int)) ∧ ps.Nodup ∧ 4 ≤ ps.length ∧ ps.length ≤ 100 ∧ b ∈ ps ∧ e ∈ ps ∧ 1 ≤ wide ∧ wide ≤ 10 ∧
  ∀ H' q xs, But2 a l H H' → H q = none → H' q = some (.lst xs) → xs.length = 5 → (∀ rk, AllT H' (Rok ps rk) xs) → Strm (N + 20) H' a l → Q (.ref q) H'
section
variable {P : Program} {w : World} {K : PySem.W.Frag} {mg : Str → Option Value} {base : Heap}
theorem ok_stepping {f fD : Addr} {fd fdD : FuncData} (F : Fun K "_law_stepping" "_law_stepping" sStepping f fd) (T : Bt mg) (FD : Fun K "_law_draw" "_law_draw" sDraw fD fdD) (gD : mg "_law_draw" = some (.ref fD)) (bD : Binds K fdD ["_law_stream_here", "_law_many"] []) :
    FnOk P w K mg base CX0 2 f fd ["_law_stream_here", "_law_begin", "_law_end", "_law_order", "_law_wide"] spStepping := by
  have GD : FnOk P w K mg base CX0 1 fD fdD ["_law_stream_here", "_law_many"] spDraw := ok_draw FD T
  refine F.ok scStepping (fun vs H Q E h => ?_) (fun cdv A outer s H vs Q E hr h => ?_)
  · obtain ⟨a, l, po, N, b, e, wide, ps, rfl, _⟩ := h
    rfl
  · obtain ⟨a, l, po, N, b, e, wide, ps, rfl, S, hN0, hN1, hpa, hpl, hp, hnd, hl4, hl1, hb, he, hw0, hw1, k⟩ := h
    refine ⟨_, (pss_cons (ps_asg (pe_slice sl_list (pe_lc (own := [("_law_place", 12)]) (g := gName 12) rfl scStepping.nd (pi_list (pv 3)) (blkOk_by (N := NStep) (sc := defScope sStepping) (by decide +kernel)) (fun _ _ _ _ _ => (pg_name (i := 12) (x := "_law_place") scStepping.nd rfl (Or.inl rfl))) (fun _ _ _ _ _ => (pts_one (PW.pt (pw_and (pt_cmpR op_ne (pv 12) (pv 1) (nomark _)) (pw_and1 (pt_cmpR op_ne (pv 12) (pv 2) (nomark _))))))) (fun _ _ _ _ _ => (pv 12))) po_none (po_some pe_int)) (pg_unl rfl (pgs_cons (pg_name (i := 5) (x := "_law_one") scStepping.nd rfl (Or.inl rfl)) (pgs_cons (pg_name (i := 6) (x := "_law_other") scStepping.nd rfl (Or.inl rfl)) pgs_nil))))
  (pss_cons (ps_par (i := 7) (j := 8) (by rfl) scStepping.nd rfl rfl (by decide) rfl rfl (pa_cons (pe_op op_add pe_int (pe_call GD hr (by rfl) gD FD.kp bD .nil pass0 (pa_cons (pv 0) (pa_cons (pv 4) pa_nil)))) (pa_cons (pe_op op_add pe_int (pe_call GD hr (by rfl) gD FD.kp bD .nil pass0 (pa_cons (pv 0) (pa_cons pe_int pa_nil)))) pa_nil)) (by rfl))
  (pss_cons (ps_par (i := 9) (j := 10) (by rfl) scStepping.nd rfl rfl (by decide) rfl rfl (pa_cons (pe_op op_add pe_int (pe_call GD hr (by rfl) gD FD.kp bD .nil pass0 (pa_cons (pv 0) (pa_cons pe_int pa_nil)))) (pa_cons (pe_op op_add pe_int (pe_call GD hr (by rfl) gD FD.kp bD .nil pass0 (pa_cons (pv 0) (pa_cons pe_int pa_nil)))) pa_nil)) (by rfl))
  (pss_cons (ps_set (i := 11) scStepping.nd rfl (Or.inl rfl) (pe_lst (pa_cons (pe_tup (pa_cons (pv 1) (pa_cons (pv 5) (pa_cons (pv 8) (pa_cons (pv 7) pa_nil))))) (pa_cons (pe_tup (pa_cons (pv 5) (pa_cons (pv 6) (pa_cons (pv 9) (pa_cons (pv 7) pa_nil))))) (pa_cons (pe_tup (pa_cons (pv 6) (pa_cons (pv 2) (pa_cons (pv 10) (pa_cons (pv 7) pa_nil))))) pa_nil)))))
  (pss_cons (ps_expr (pe_bm PySem.F.plainAttrs_list PySem.F.slot_list_append PySem.F.type_list_append mt_append (pv 11) (pa_cons (pe_tup (pa_cons (pv 1) (pa_cons (pv 6) (pa_cons (pe_op op_add (pe_op op_add (pe_op op_add (pv 8) (pv 9)) pe_int) (pe_call GD hr (by rfl) gD FD.kp bD .nil pass0 (pa_cons (pv 0) (pa_cons pe_int pa_nil)))) (pa_cons (pe_op op_add pe_int (pe_call GD hr (by rfl) gD FD.kp bD .nil pass0 (pa_cons (pv 0) (pa_cons (pv 4) pa_nil)))) pa_nil))))) pa_nil)))
  (pss_one (ps_ret (pe_op op_cat (pv 11) (pe_lst (pa_cons (pe_tup (pa_cons (pv 5) (pa_cons (pv 2) (pa_cons (pe_op op_add (pe_op op_add (pe_op op_add (pv 9) (pv 10)) pe_int) (pe_call GD hr (by rfl) gD FD.kp bD .nil pass0 (pa_cons (pv 0) (pa_cons pe_int pa_nil)))) (pa_cons (pe_op op_add pe_int (pe_call GD hr (by rfl) gD FD.kp bD .nil pass0 (pa_cons (pv 0) (pa_cons (pv 4) pa_nil)))) pa_nil))))) pa_nil)))))))))), ?_⟩
    refine ⟨_, rfl, po, rfl, ⟨_, SqL.of hp⟩, fun D hD => ?_⟩
    refine lc_it walk_list (fun i H' => Same H H' ∧ H' D = some (.lst (((ps.take i).filter fun z => !decide (z = b) && !decide (z = e)).map V.int))) ⟨same_new hD, upd_same⟩ (fun i H' _ q => SqL.of (q.1 _ _ hp)) ?_ ?_
    · rintro i x H3 H4 hi ⟨q1, q2⟩ ⟨rfl, hx⟩
      rw [List.getElem?_map] at hx
      obtain ⟨z, hz, rfl⟩ := Option.map_eq_some_iff.mp hx
      have e1 : (ps.take (i + 1)) = ps.take i ++ [z] := by rw [List.take_add_one, hz]; rfl
      have e2 : ((ps.take (i + 1)).filter fun z => !decide (z = b) && !decide (z = e)) = ((ps.take i).filter fun z => !decide (z = b) && !decide (z = e)) ++ ([z].filter fun z => !decide (z = b) && !decide (z = e)) := by rw [e1, List.filter_append]
      have skip : (!decide (z = b) && !decide (z = e)) = false → Same H H4 ∧ H4 D = some (HO.lst (List.map V.int (List.filter (fun z => !decide (z = b) && !decide (z = e)) (List.take (i + 1) ps)))) := fun hf => by
        rw [e2, List.filter_cons, hf]
        refine ⟨q1, ?_⟩
        rw [q2]
        simp
      refine ⟨rfl, _, rfl, _, rfl, rfl, _, rfl, ite2 (fun hc => ?_) (fun hc => ?_)⟩
      · have hzb : z ≠ b := fun w => by
          rw [w, decide_eq_true rfl] at hc
          cases hc
        refine ⟨_, rfl, _, rfl, rfl, _, rfl, ite2 (fun hc2 => ?_) (fun hc2 => ?_)⟩
        · have hze : z ≠ e := fun w => by
            rw [w, decide_eq_true rfl] at hc2
            cases hc2
          refine ⟨_, rfl, _, q2, ?_, fun p o g => ?_, ?_⟩
          · rw [List.length_map]
            refine Nat.lt_of_le_of_lt (List.length_filter_le _ _) ?_
            rw [List.length_take]
            exact Nat.lt_of_le_of_lt (Nat.min_le_right _ _) (Nat.lt_of_le_of_lt hl1 (by decide))
          · rw [upd_ne (ne_of_none g hD)]
            exact q1 _ _ g
          · rw [upd_same, e2, List.map_append, List.filter_cons, decide_eq_false hzb, decide_eq_false hze]
            rfl
        · have hze : z = e := by
            cases w : decide (z = e) with
            | true => exact of_decide_eq_true w
            | false => exact absurd (fun w2 => of_decide_eq_false w (V.int.inj w2)) (by simpa using hc2)
          refine skip ?_
          rw [decide_eq_true hze]
          simp
      · have hzb : z = b := by
          cases w : decide (z = b) with
          | true => exact of_decide_eq_true w
          | false => exact absurd (fun w2 => of_decide_eq_false w (V.int.inj w2)) (by simpa using hc)
        refine skip ?_
        rw [decide_eq_true hzb]
        rfl
    · rintro H3 ⟨q1, q2⟩
      obtain ⟨x, y, r, ef, nxy, hx, hy, nxb, nxe, nyb, nye⟩ := two_more (b := b) (e := e) hnd hl4
      rw [List.length_map, List.take_of_length_le (Nat.le_refl _), ef] at q2
      refine ⟨_, rfl, D, _, rfl, SqL.of q2, fun t ht => ?_⟩
      rw [cut_to _ (by decide)]
      have S3 : Strm N H3 a l := S.but q1
      have b3 : But2 a l H H3 := fun p o h1 h2 g => q1 _ _ g
      generalize hH5 : upd H3 t (.lst (List.take (Int.toNat 2) (List.map V.int (x :: y :: r)))) = H5
      have b5 : But2 a l H H5 := by rw [← hH5]; exact but2_new b3 ht
      have S5 : Strm N H5 a l := by rw [← hH5]; exact S3.but (same_new ht)
      have g5 : H5 t = some (.lst [.int x, .int y]) := by rw [← hH5]; exact upd_same
      refine ⟨t, _, rfl, SqL.of g5, rfl, _, _, rfl, _, _, rfl, rfl, ?_⟩
      refine ⟨_, rfl, _, rfl, a, l, _, wide, rfl, S5, hN0, by omega, by omega, by omega, fun H6 d1 p1 r1 b6 S6 => ?_⟩
      refine ⟨_, _, rfl, rfl, _, rfl, a, l, _, 2, rfl, S6, by omega, by omega, by decide, by decide, fun H7 d2 p2 r2 b7 S7 => ?_⟩
      refine ⟨_, _, rfl, rfl, _, _, rfl, ?_⟩
      refine ⟨_, rfl, a, l, _, 2, rfl, S7, by omega, by omega, by decide, by decide, fun H8 d3 p3 r3 b8 S8 => ?_⟩
      refine ⟨_, _, rfl, rfl, _, rfl, a, l, _, 2, rfl, S8, by omega, by omega, by decide, by decide, fun H9 d4 p4 r4 b9 S9 => ?_⟩
      refine ⟨_, _, rfl, rfl, _, _, rfl, ?_⟩
      have c9 : But2 a l H H9 := (((b5.trans b6).trans b7).trans b8).trans b9
      refine ⟨_, rfl, _, rfl, _, rfl, _, rfl, (by show 4 ≤ sizeLine; decide), fun t1 ht1 => ?_⟩
      refine ⟨_, rfl, _, rfl, _, rfl, _, rfl, (by show 4 ≤ sizeLine; decide), fun t2 ht2 => ?_⟩
      refine ⟨_, rfl, _, rfl, _, rfl, _, rfl, (by show 4 ≤ sizeLine; decide), fun t3 ht3 => ?_⟩
      refine ⟨(by show 3 ≤ sizeLine; decide), fun t4 ht4 => ?_⟩
      have u1 := same_new (o := .tup [.int b, .int x, .int (1 + d2), .int (1 + d1)]) ht1
      have u2 := same_new (o := .tup [.int x, .int y, .int (1 + d3), .int (1 + d1)]) ht2
      have u3 := same_new (o := .tup [.int y, .int e, .int (1 + d4), .int (1 + d1)]) ht3
      have u4 := same_new (o := .lst [.ref t1, .ref t2, .ref t3]) ht4
      have v1 := (u2.trans (u3.trans u4)) _ _ upd_same
      have v2 := (u3.trans u4) _ _ upd_same
      have v3 := u4 _ _ upd_same
      have S10 := S9.but (u1.trans (u2.trans (u3.trans u4)))
      have S93 := S9.but (u1.trans (u2.trans u3))
      have n4 := S93.ne_new ht4
      have f4 : H t4 = none := But2.fresh (((c9.trans (fun p o _ _ g => u1 p o g)).trans (fun p o _ _ g => u2 p o g)).trans (fun p o _ _ g => u3 p o g)) S93 ht4
      have b10 := ((((c9.trans (fun p o _ _ g => u1 p o g)).trans (fun p o _ _ g => u2 p o g)).trans (fun p o _ _ g => u3 p o g)).trans (fun p o _ _ g => u4 p o g))
      have v4 : upd (upd (upd (upd H9 t1 (.tup [.int b, .int x, .int (1 + d2), .int (1 + d1)])) t2 (.tup [.int x, .int y, .int (1 + d3), .int (1 + d1)])) t3 (.tup [.int y, .int e, .int (1 + d4), .int (1 + d1)])) t4 (.lst [.ref t1, .ref t2, .ref t3]) t4 = some (.lst [.ref t1, .ref t2, .ref t3]) := upd_same
      refine ⟨_, rfl, .inl ⟨rfl, _, SqL.of v4⟩, _, rfl, _, rfl, _, rfl, _, rfl, _, _, rfl, rfl, _, _, rfl, rfl, ?_⟩
      clear u1 u2 u3 u4
      refine ⟨_, rfl, a, l, _, 3, rfl, S10, by omega, by omega, by decide, by decide, fun H11 d5 p5 r5 b11 S11 => ?_⟩
      refine ⟨_, _, rfl, rfl, _, rfl, _, rfl, a, l, _, wide, rfl, S11, by omega, by omega, by omega, by omega, fun H12 d6 p6 r6 b12 S12 => ?_⟩
      refine ⟨_, _, rfl, rfl, (by show 4 ≤ sizeLine; decide), fun t5 ht5 => ?_⟩
      have k12 : TL _ H12 := (b11.tl S10).trans (b12.tl S11)
      have w1 := k12 _ _ v1
      have w2 := k12 _ _ v2
      have w3 := k12 _ _ v3
      have w4 := b12 _ _ n4.1 n4.2 (b11 _ _ n4.1 n4.2 v4)
      have c12 : But2 a l H H12 := ((show But2 a l H _ from b10).trans b11).trans b12
      clear v1 v2 v3 v4 k12 b11 b12 S11 S10 b10 S93
      have u5 := same_new (o := .tup [.int b, .int y, .int (1 + d2 + (1 + d3) + 1 + d5), .int (1 + d6)]) ht5
      have n54 : t4 ≠ t5 := ne_of_none w4 ht5
      refine ⟨t4, _, _, rfl, rfl, u5 _ _ w4, (by show 3 < sizeLine; decide), ?_⟩
      refine ⟨_, rfl, ?_⟩
      have s5 : TL (upd H12 t5 (.tup [.int b, .int y, .int (1 + d2 + (1 + d3) + 1 + d5), .int (1 + d6)])) (upd (upd H12 t5 (.tup [.int b, .int y, .int (1 + d2 + (1 + d3) + 1 + d5), .int (1 + d6)])) t4 (.lst [.ref t1, .ref t2, .ref t3, .ref t5])) := TL.set (u5 _ _ w4)
      have x5 := s5 _ _ upd_same
      have x1 := s5 _ _ (u5 _ _ w1)
      have x2 := s5 _ _ (u5 _ _ w2)
      have x3 := s5 _ _ (u5 _ _ w3)
      have x4 : (upd (upd H12 t5 (.tup [.int b, .int y, .int (1 + d2 + (1 + d3) + 1 + d5), .int (1 + d6)])) t4 (.lst [.ref t1, .ref t2, .ref t3, .ref t5])) t4 = some (.lst [.ref t1, .ref t2, .ref t3, .ref t5]) := upd_same
      have c13 : But2 a l H (upd (upd H12 t5 (.tup [.int b, .int y, .int (1 + d2 + (1 + d3) + 1 + d5), .int (1 + d6)])) t4 (.lst [.ref t1, .ref t2, .ref t3, .ref t5])) := fun p o h1 h2 g => by
        rw [upd_ne (ne_of_none g f4)]
        exact u5 _ _ (c12 _ _ h1 h2 g)
      have S13 : Strm _ (upd (upd H12 t5 (.tup [.int b, .int y, .int (1 + d2 + (1 + d3) + 1 + d5), .int (1 + d6)])) t4 (.lst [.ref t1, .ref t2, .ref t3, .ref t5])) a l := (S12.but u5).upd n4.1 n4.2
      refine ⟨_, rfl, _, rfl, _, rfl, _, rfl, _, _, rfl, rfl, _, _, rfl, rfl, ?_⟩
      refine ⟨_, rfl, a, l, _, 3, rfl, S13, by omega, by omega, by decide, by decide, fun H14 d7 p7 r7 b14 S14 => ?_⟩
      refine ⟨_, _, rfl, rfl, _, rfl, _, rfl, a, l, _, wide, rfl, S14, by omega, by omega, by omega, by omega, fun H15 d8 p8 r8 b15 S15 => ?_⟩
      refine ⟨_, _, rfl, rfl, (by show 4 ≤ sizeLine; decide), fun t6 ht6 => ?_⟩
      have k15 : TL _ H15 := (b14.tl S13).trans (b15.tl S14)
      have y1 := k15 _ _ x1
      have y2 := k15 _ _ x2
      have y3 := k15 _ _ x3
      have y5 := k15 _ _ x5
      have y4 := b15 _ _ n4.1 n4.2 (b14 _ _ n4.1 n4.2 x4)
      have c15 : But2 a l H H15 := (c13.trans b14).trans b15
      clear x1 x2 x3 x4 x5 k15 b14 b15 S14 S13 c13 s5
      refine ⟨(by show 1 ≤ sizeLine; decide), fun t7 ht7 => ?_⟩
      have u6 := same_new (o := .tup [.int x, .int e, .int (1 + d3 + (1 + d4) + 1 + d7), .int (1 + d8)]) ht6
      have u7 := same_new (o := .lst [.ref t6]) ht7
      refine ⟨t4, t7, _, _, rfl, rfl, (u6.trans u7) _ _ y4, upd_same, (by show 5 ≤ sizeLine; decide), fun q hq => ?_⟩
      have u8 := same_new (o := .lst [.ref t1, .ref t2, .ref t3, .ref t5, .ref t6]) hq
      have uu := u6.trans (u7.trans u8)
      have S16 := S15.but (u6.trans u7)
      have c16 : But2 a l H _ := fun p o h1 h2 g => (u6.trans u7) _ _ (c15 p o h1 h2 g)
      refine k _ q _ (fun p o h1 h2 g => u8 _ _ (c16 p o h1 h2 g)) (But2.fresh c16 S16 hq) upd_same rfl (fun rk => ?_) ((S15.but uu).mono (by omega))
      have pl : ∀ d r : Int, 1 ≤ d → ∀ u v : Int, d = 0 → rk u < rk v := fun d r h u v z => by omega
      refine AllT.cons (uu _ _ y1) ⟨b, x, _, _, rfl, hb, hx, nxb.symm, by omega, by omega, by omega, by omega, fun z => by omega⟩ ?_
      refine AllT.cons (uu _ _ y2) ⟨x, y, _, _, rfl, hx, hy, nxy, by omega, by omega, by omega, by omega, fun z => by omega⟩ ?_
      refine AllT.cons (uu _ _ y3) ⟨y, e, _, _, rfl, hy, he, nye, by omega, by omega, by omega, by omega, fun z => by omega⟩ ?_
      refine AllT.cons (uu _ _ y5) ⟨b, y, _, _, rfl, hb, hy, nyb.symm, by omega, by omega, by omega, by omega, fun z => by omega⟩ ?_
      exact AllT.one ((u7.trans u8) _ _ upd_same) ⟨x, e, _, _, rfl, hx, he, nxe, by omega, by omega, by omega, by omega, fun z => by omega⟩
end
end K17

set_option Elab.async false
set_option linter.all false
set_option maxRecDepth 100000
set_option maxHeartbeats 8000000
namespace K17
open PySem PySem.Spec PyProof.Rows L2 Own
theorem ixT {X : Cx} {K : PySem.W.Frag} (h : X.K = K) : IxR X (rIxT K) := by
  subst h
  exact ix_tup
/-- a permutation of ints is one of ints -/
theorem perm_ints {ys : List V} {xs : List Int} (h : List.Perm ys (xs.map V.int)) : ∃ zs : List Int, ys = zs.map V.int ∧ List.Perm zs xs := by
  let g : V → Int := fun v => match v with | .int i => i | _ => 0
  have e : ∀ (ws : List V), (∀ v ∈ ws, v ∈ xs.map V.int) → ws = (ws.map g).map V.int := fun ws => by
    induction ws with
    | nil => exact fun _ => rfl
    | cons w r ih =>
      intro hm
      obtain ⟨i, _, hi⟩ := List.mem_map.mp (hm w List.mem_cons_self)
      have e2 := ih fun v hv => hm v (List.mem_cons_of_mem _ hv)
      rw [List.map_cons, List.map_cons, ← e2, ← hi]
  refine ⟨ys.map g, e ys fun v hv => h.mem_iff.mp hv, ?_⟩
  have p := h.map g
  rw [List.map_map] at p
  have z : (g ∘ V.int) = id := rfl
  rw [z, List.map_id] at p
  exact p
/-- the places in a drawn order -/
structure Hm (many cut : Int) (ps : List Int) : Prop where
  nd : ps.Nodup
  len : (ps.length : Int) = many
  mem : ∀ x ∈ ps, 0 ≤ x ∧ x < many
  c1 : 1 ≤ cut
  c2 : cut < many
  m2 : 2 ≤ many
  m20 : many ≤ 20
structure Hl (long wide late : Int) : Prop where
  l1 : 1 ≤ long
  l2 : long ≤ 5
  w1 : 1 ≤ wide
  w2 : wide ≤ 10
  t1 : 1 ≤ late
  t2 : late ≤ 3
theorem range_perm {many : Int} (h2 : 2 ≤ many) {ys : List V} (h : List.Perm ys (rgV 0 many)) : ∃ ps : List Int, ys = ps.map V.int ∧ ps.Nodup ∧ (ps.length : Int) = many ∧ ∀ x ∈ ps, 0 ≤ x ∧ x < many := by
  have e : rgV 0 many = ((List.range many.toNat).map fun i : Nat => (i : Int)).map V.int := by
    unfold rgV
    rw [List.map_map, Int.sub_zero]
    refine List.map_congr_left fun i _ => ?_
    show V.int (0 + (i : Int)) = V.int (i : Int)
    rw [Int.zero_add]
  rw [e] at h
  obtain ⟨ps, rfl, pm⟩ := perm_ints h
  refine ⟨ps, rfl, ?_, ?_, fun x hx => ?_⟩
  · refine pm.nodup_iff.mpr ?_
    refine List.Pairwise.map _ (fun i j n z => n (Int.ofNat.inj z)) List.nodup_range
  · rw [pm.length_eq, List.length_map, List.length_range]
    omega
  · obtain ⟨i, hi, rfl⟩ := List.mem_map.mp (pm.mem_iff.mp hx)
    have := List.mem_range.mp hi
    omega
/-- a list that is the def's own: new, and not the stream's -/
structure Fr (a l : Addr) (H0 : Hp) (p : Addr) : Prop where
  na : p ≠ a
  nl : p ≠ l
  f : H0 p = none
theorem Fr.of {a l p : Addr} {H0 H : Hp} {n : Int} (b : But2 a l H0 H) (t : Strm n H a l) (h : H p = none) : Fr a l H0 p := ⟨(t.ne_new h).1, (t.ne_new h).2, b.fresh t h⟩
/-- what holds throughout -/
structure B0 (a l po : Addr) (H0 : Hp) (ps : List Int) (n : Int) (H : Hp) : Prop where
  b : But2 a l H0 H
  t : Strm n H a l
  o : H po = some (.lst (ps.map V.int))
  r : Fr a l H0 po
theorem B0.draw {a l po : Addr} {H0 H H' : Hp} {ps : List Int} {n m : Int} (x : B0 a l po H0 ps n H) (b : But2 a l H H') (t : Strm m H' a l) : B0 a l po H0 ps m H' := ⟨x.b.trans b, t, b _ _ x.r.na x.r.nl x.o, x.r⟩
theorem B0.same {a l po : Addr} {H0 H H' : Hp} {ps : List Int} {n : Int} (x : B0 a l po H0 ps n H) (b : Same H H') : B0 a l po H0 ps n H' := ⟨x.b.trans fun p o _ _ g => b p o g, x.t.but b, b _ _ x.o, x.r⟩
theorem B0.new {a l po p : Addr} {H0 H : Hp} {ps : List Int} {n : Int} {o : HO} (x : B0 a l po H0 ps n H) (h : H p = none) : B0 a l po H0 ps n (upd H p o) := x.same (same_new h)
theorem B0.set {a l po p : Addr} {H0 H : Hp} {ps : List Int} {n : Int} {o : HO} (x : B0 a l po H0 ps n H) (r : Fr a l H0 p) (h : p ≠ po) : B0 a l po H0 ps n (upd H p o) := ⟨fun q u h1 h2 g => by
  rw [upd_ne (ne_of_none g r.f)]
  exact x.b q u h1 h2 g, x.t.upd r.na r.nl, by rw [upd_ne h.symm]; exact x.o, x.r⟩
theorem B0.mono {a l po : Addr} {H0 H : Hp} {ps : List Int} {n m : Int} (x : B0 a l po H0 ps n H) (h : n ≤ m) : B0 a l po H0 ps m H := ⟨x.b, x.t.mono h, x.o, x.r⟩
theorem B0.fr {a l po p : Addr} {H0 H : Hp} {ps : List Int} {n : Int} (x : B0 a l po H0 ps n H) (h : H p = none) : Fr a l H0 p := Fr.of x.b x.t h
theorem B0.tl {a l po : Addr} {H0 H H' : Hp} {ps : List Int} {n : Int} (x : B0 a l po H0 ps n H) (b : But2 a l H H') : TL H H' := b.tl x.t
/-- a door at one of the places -/
def Dok (ps : List Int) (S : Int → Bool) (t : List V) : Prop := ∃ x h : Int, t = [.str (if S x = true then "in" else "out"), .int x, .int h] ∧ x ∈ ps ∧ 0 ≤ h ∧ h ≤ 9
def InT (t : List V) : Prop := ∃ x h : Int, t = [.str "in", .int x, .int h]
def OutT (t : List V) : Prop := ∃ x h : Int, t = [.str "out", .int x, .int h]
def Has (H : Hp) (P : List V → Prop) (xs : List V) : Prop := ∃ v ∈ xs, ∃ p t, v = .ref p ∧ H p = some (.tup t) ∧ P t
theorem Has.tl {H H' : Hp} {P : List V → Prop} {xs : List V} (h : Has H P xs) (k : TL H H') : Has H' P xs := by
  obtain ⟨v, hv, p, t, e1, e2, e3⟩ := h
  exact ⟨v, hv, p, t, e1, k _ _ e2, e3⟩
theorem Has.sub {H : Hp} {P : List V → Prop} {xs ys : List V} (h : Has H P xs) (k : ∀ v ∈ xs, v ∈ ys) : Has H P ys := by
  obtain ⟨v, hv, r⟩ := h
  exact ⟨v, k v hv, r⟩
def Pok (ps : List Int) (t : List V) : Prop := ∃ x y : Int, t = [.int x, .int y] ∧ x ∈ ps ∧ y ∈ ps ∧ x ≠ y
/-- whether a place is one of the INS' -/
def Sof (ps : List Int) (cut : Int) (x : Int) : Bool := decide (x ∈ ps.take cut.toNat)
/-- the drawn house in the heap -/
structure HouseAt (H : Hp) (many full doors : Int) (pr pd : Addr) (xs ys : List V) : Prop where
  m2 : 2 ≤ many
  m20 : many ≤ 20
  r : H pr = some (.lst xs)
  d : H pd = some (.lst ys)
  ne : pr ≠ pd
  roads : ∃ (ps : List Int) (rk : Int → Nat) (S : Int → Bool), (∀ x ∈ ps, 0 ≤ x ∧ x < many) ∧ AllT H (Rok ps rk) xs ∧ AllT H (Dok ps S) ys
  i : Has H InT ys
  o : Has H OutT ys
  lr : (xs.length : Int) ≤ full
  ld : (ys.length : Int) ≤ doors
  ld2 : 2 ≤ ys.length
  lr1 : 1 ≤ full → 0 < xs.length
def spHouse : Sp := fun vs H Q _ => ∃ (a l : Addr) (N places full doors : Int), vs = [.ref a, .int places, .int full, .int doors] ∧ Strm N H a l ∧ 0 ≤ N ∧ N + 2000 ≤ 1000000000 ∧ 2 ≤ places ∧ places ≤ 20 ∧ 0 ≤ full ∧ full ≤ 100 ∧ 2 ≤ doors ∧ doors ≤ 20 ∧
  ∀ H' t pr pd many xs ys, But2 a l H H' → H t = none → H pr = none → H pd = none → H' t = some (.tup [.int many, .ref pr, .ref pd]) → many ≤ places → HouseAt H' many full doors pr pd xs ys → Strm (N + 2000) H' a l → Q (.ref t) H'
end K17

set_option Elab.async false
set_option linter.all false
set_option maxRecDepth 100000
set_option maxHeartbeats 8000000
namespace K17
open PySem PySem.Spec PyProof.Rows L2 Own
abbrev NHouse : List Str := ["_law_stream_here", "_law_places", "_law_full", "_law_doors", "_law_many", "_law_order", "_law_found", "_law_some", "_law_long", "_law_wide", "_law_late", "_law_cut", "_law_k", "_law_sort", "_law_begins", "_law_ends", "_law_line", "_law_one", "_law_other", "_law_roads", "_law_rank", "_law_length", "_law_crossed", "_law_at", "_law_door"]
theorem scHouse : FnScope NHouse ["_law_stream_here", "_law_places", "_law_full", "_law_doors"] (defScope sHouse) := ⟨rfl, rfl, rfl, by decide +kernel, rfl, by decide +kernel, by decide +kernel⟩
/-- the slots behind the first rows -/
abbrev sgA (a po pf pn : Addr) (places full doors many long wide late cut : Int) (k sort begins ends line one other roads rank length crossed at_ : Option V) : L2.St :=
  [some (.ref a), some (.int places), some (.int full), some (.int doors), some (.int many), some (.ref po), some (.ref pf), some (.ref pn), some (.int long), some (.int wide), some (.int late), some (.int cut), k, sort, begins, ends, line, one, other, roads, rank, length, crossed, at_, none]
def MA (a l : Addr) (H0 : Hp) (N places full doors : Int) : L2.St → Hp → Prop := fun σ H => ∃ (po pf pn : Addr) (many long wide late cut : Int) (ps : List Int),
  σ = sgA a po pf pn places full doors many long wide late cut none none none none none none none none none none none none ∧ Hm many cut ps ∧ many ≤ places ∧ Hl long wide late ∧ B0 a l po H0 ps (N + 110) H ∧
  Fr a l H0 pf ∧ Fr a l H0 pn ∧ po ≠ pf ∧ po ≠ pn ∧ pf ≠ pn ∧ H pf = some (.lst []) ∧ H pn = some (.lst [])
/-- all stays but what stands at a, l and p -/
def But3 (a l p : Addr) (H H' : Hp) : Prop := ∀ b o, b ≠ a → b ≠ l → b ≠ p → H b = some o → H' b = some o
/-- the places of INS, of OUTS -/
structure Ends (a l : Addr) (H0 : Hp) (p : Addr) (ps bs : List Int) (H : Hp) : Prop where
  r : Fr a l H0 p
  h : H p = some (.lst (bs.map V.int))
  n : 0 < bs.length
  m : bs.length ≤ 20
  s : ∀ x ∈ bs, x ∈ ps
theorem Has.one {H : Hp} {P : List V → Prop} {xs : List V} {i : Nat} {x : V} (h : Has H P (xs.take (i + 1))) (e : xs[i]? = some x) : Has H P (xs.take i) ∨ ∃ p t, x = .ref p ∧ H p = some (.tup t) ∧ P t := by
  obtain ⟨v, hv, r⟩ := h
  rw [List.take_add_one, e] at hv
  rcases List.mem_append.mp hv with z | z
  · exact .inl ⟨v, z, r⟩
  · obtain rfl : v = x := by simpa using z
    exact .inr r
/-- two neighbours are unlike -/
def Nb (L : List Int) (i : Nat) : Prop := ∃ k u v, k < i ∧ L[k]? = some u ∧ L[k + 1]? = some v ∧ u ≠ v
theorem nb_of {L : List Int} {x : Int} (h : L[0]? = some x) : ∀ {n : Nat} {y : Int}, L[n]? = some y → x ≠ y → Nb L n
  | 0, y, e, ne => by
    rw [h] at e
    exact absurd (Option.some.inj e) ne
  | n + 1, y, e, ne => by
    have hn : n < L.length := by
      have := (List.getElem?_eq_some_iff.mp e).1
      omega
    by_cases z : L[n] = y
    · obtain ⟨k, u, v, h1, h2⟩ := nb_of h (n := n) (y := y) (by rw [List.getElem?_eq_getElem hn, z]) ne
      exact ⟨k, u, v, by omega, h2⟩
    · exact ⟨n, L[n], y, by omega, List.getElem?_eq_getElem hn, e, z⟩
theorem Nb.down {L : List Int} {j : Nat} (h : Nb L (j + 1)) (e : ∀ u v, L[j]? = some u → L[j + 1]? = some v → u = v) : Nb L j := by
  obtain ⟨k, u, v, h1, h2, h3, h4⟩ := h
  by_cases z : k = j
  · subst z
    exact absurd (e u v h2 h3) h4
  · exact ⟨k, u, v, by omega, h2, h3, h4⟩
def sorts0 (acc : List V) : List V := [.str "in", .str "out"] ++ acc
def MB (a l : Addr) (H0 : Hp) (N places full doors : Int) : L2.St → Hp → Prop := fun σ H => ∃ (po pf pn : Addr) (many long wide late cut : Int) (ps : List Int) (sort : Option V) (xs : List V),
  σ = sgA a po pf pn places full doors many long wide late cut none sort none none none none none none none none none none ∧ Hm many cut ps ∧ many ≤ places ∧ Hl long wide late ∧ B0 a l po H0 ps (N + 200) H ∧
  Fr a l H0 pf ∧ Fr a l H0 pn ∧ po ≠ pf ∧ po ≠ pn ∧ pf ≠ pn ∧ H pf = some (.lst []) ∧ H pn = some (.lst xs) ∧ AllT H (Dok ps (Sof ps cut)) xs ∧ Has H InT xs ∧ Has H OutT xs ∧ 2 ≤ xs.length ∧ (xs.length : Int) ≤ doors
structure LB (a l : Addr) (H0 : Hp) (N : Int) (po pf pn q : Addr) (cut : Int) (ps : List Int) (sorts : List V) (sh : L2.St → Prop) (i : Nat) (σ : L2.St) (H : Hp) : Prop where
  s : sh σ
  b : B0 a l po H0 ps (N + 2 * i) H
  f : H pf = some (.lst [])
  q : H q = some (.lst sorts)
  n : ∃ xs, H pn = some (.lst xs) ∧ xs.length = i ∧ AllT H (Dok ps (Sof ps cut)) xs ∧ (0 < i → Has H InT xs) ∧ (1 < i → Has H OutT xs)
def MC (a l : Addr) (H0 : Hp) (N places full doors : Int) : L2.St → Hp → Prop := fun σ H => ∃ (po pf pn pb pe : Addr) (many long wide late cut : Int) (ps bs es : List Int) (sort : Option V) (xs : List V),
  σ = sgA a po pf pn places full doors many long wide late cut none sort (some (.ref pb)) (some (.ref pe)) none none none none none none none none ∧ Hm many cut ps ∧ many ≤ places ∧ Hl long wide late ∧ B0 a l po H0 ps (N + 200) H ∧
  Fr a l H0 pf ∧ Fr a l H0 pn ∧ po ≠ pf ∧ po ≠ pn ∧ pf ≠ pn ∧ H pf = some (.lst []) ∧ H pn = some (.lst xs) ∧ AllT H (Dok ps (Sof ps cut)) xs ∧ Has H InT xs ∧ Has H OutT xs ∧ 2 ≤ xs.length ∧ (xs.length : Int) ≤ doors ∧
  Ends a l H0 pb ps bs H ∧ Ends a l H0 pe ps es H ∧ pb ≠ pf ∧ pe ≠ pf ∧ (∀ x ∈ bs, Sof ps cut x = true) ∧ ∀ x ∈ es, Sof ps cut x = false
theorem Ends.draw {a l p : Addr} {H0 H H' : Hp} {ps bs : List Int} (x : Ends a l H0 p ps bs H) (b : But2 a l H H') : Ends a l H0 p ps bs H' := ⟨x.r, b _ _ x.r.na x.r.nl x.h, x.n, x.m, x.s⟩
theorem Ends.same {a l p : Addr} {H0 H H' : Hp} {ps bs : List Int} (x : Ends a l H0 p ps bs H) (b : Same H H') : Ends a l H0 p ps bs H' := ⟨x.r, b _ _ x.h, x.n, x.m, x.s⟩
theorem Ends.set {a l p q : Addr} {H0 H : Hp} {o : HO} {ps bs : List Int} (x : Ends a l H0 p ps bs H) (h : p ≠ q) : Ends a l H0 p ps bs (upd H q o) := ⟨x.r, by rw [upd_ne h]; exact x.h, x.n, x.m, x.s⟩
/-- what stays while roads are laid -/
structure Kept (a l : Addr) (H0 : Hp) (po pf pn pb pe : Addr) (ps bs es : List Int) (xs : List V) (G0 : Hp) (n : Int) (H : Hp) : Prop where
  b : B0 a l po H0 ps n H
  n : H pn = some (.lst xs)
  t : TL G0 H
  x : Ends a l H0 pb ps bs H
  y : Ends a l H0 pe ps es H
  fn : Fr a l H0 pn
theorem Kept.draw {a l po pf pn pb pe : Addr} {H0 G0 H H' : Hp} {ps bs es : List Int} {xs : List V} {n m : Int} (w : Kept a l H0 po pf pn pb pe ps bs es xs G0 n H) (b : But2 a l H H') (S : Strm m H' a l) : Kept a l H0 po pf pn pb pe ps bs es xs G0 m H' :=
  ⟨w.b.draw b S, b _ _ w.fn.na w.fn.nl w.n, w.t.trans (b.tl w.b.t), w.x.draw b, w.y.draw b, w.fn⟩
theorem Kept.same {a l po pf pn pb pe : Addr} {H0 G0 H H' : Hp} {ps bs es : List Int} {xs : List V} {n : Int} (w : Kept a l H0 po pf pn pb pe ps bs es xs G0 n H) (b : Same H H') : Kept a l H0 po pf pn pb pe ps bs es xs G0 n H' :=
  ⟨w.b.same b, b _ _ w.n, w.t.trans fun c t e => b _ _ e, w.x.same b, w.y.same b, w.fn⟩
theorem Kept.new {a l po pf pn pb pe p : Addr} {H0 G0 H : Hp} {o : HO} {ps bs es : List Int} {xs : List V} {n : Int} (w : Kept a l H0 po pf pn pb pe ps bs es xs G0 n H) (h : H p = none) : Kept a l H0 po pf pn pb pe ps bs es xs G0 n (upd H p o) := w.same (same_new h)
theorem Kept.set {a l po pf pn pb pe p : Addr} {H0 G0 H : Hp} {o : HO} {zs : List V} {ps bs es : List Int} {xs : List V} {n : Int} (w : Kept a l H0 po pf pn pb pe ps bs es xs G0 n H) (r : Fr a l H0 p) (h : H p = some (.lst zs)) (h1 : p ≠ po) (h2 : p ≠ pn) (h3 : p ≠ pb) (h4 : p ≠ pe) : Kept a l H0 po pf pn pb pe ps bs es xs G0 n (upd H p o) :=
  ⟨w.b.set r h1, by rw [upd_ne h2.symm]; exact w.n, w.t.trans (TL.set h), w.x.set h3.symm, w.y.set h4.symm, w.fn⟩
theorem Kept.mono {a l po pf pn pb pe : Addr} {H0 G0 H : Hp} {ps bs es : List Int} {xs : List V} {n m : Int} (w : Kept a l H0 po pf pn pb pe ps bs es xs G0 n H) (h : n ≤ m) : Kept a l H0 po pf pn pb pe ps bs es xs G0 m H := ⟨w.b.mono h, w.n, w.t, w.x, w.y, w.fn⟩
structure LE (a l : Addr) (H0 : Hp) (N : Int) (po pf pn pb pe : Addr) (ps bs es : List Int) (xs : List V) (G0 : Hp) (sh : L2.St → Prop) (i : Nat) (σ : L2.St) (H : Hp) : Prop where
  s : sh σ
  w : Kept a l H0 po pf pn pb pe ps bs es xs G0 (N + 110 * i) H
  f : ∃ fs, H pf = some (.lst fs) ∧ (fs.length ≤ 30 + i ∧ 0 < fs.length) ∧ AllT H (Pok ps) fs
structure LD (a l : Addr) (H0 : Hp) (N : Int) (po pf pn pb pe : Addr) (ps bs es : List Int) (xs : List V) (G0 : Hp) (sh : L2.St → Prop) (i : Nat) (σ : L2.St) (H : Hp) : Prop where
  s : sh σ
  w : Kept a l H0 po pf pn pb pe ps bs es xs G0 (N + 110 * i) H
  f : ∃ fs, H pf = some (.lst fs) ∧ (fs.length ≤ 3 * i ∧ (0 < i → 0 < fs.length)) ∧ AllT H (Pok ps) fs
def MD (cap : Nat) (a l : Addr) (H0 : Hp) (N M places full doors : Int) : L2.St → Hp → Prop := fun σ H => ∃ (po pf pn pb pe : Addr) (many long wide late cut : Int) (ps bs es : List Int) (k sort line one other : Option V) (xs fs : List V) (G0 : Hp),
  σ = sgA a po pf pn places full doors many long wide late cut k sort (some (.ref pb)) (some (.ref pe)) line one other none none none none none ∧ Hm many cut ps ∧ many ≤ places ∧ Hl long wide late ∧
  Fr a l H0 pf ∧ po ≠ pf ∧ po ≠ pn ∧ pf ≠ pn ∧ AllT G0 (Dok ps (Sof ps cut)) xs ∧ Has G0 InT xs ∧ Has G0 OutT xs ∧ 2 ≤ xs.length ∧ (xs.length : Int) ≤ doors ∧
  Kept a l H0 po pf pn pb pe ps bs es xs G0 (N + M) H ∧ pb ≠ pf ∧ pe ≠ pf ∧ H pf = some (.lst fs) ∧ (fs.length ≤ cap ∧ 0 < fs.length) ∧ AllT H (Pok ps) fs
/-- the ranks of the places, in a list at pk -/
structure Rnk (a l : Addr) (H0 : Hp) (pk : Addr) (ps rs : List Int) (H : Hp) : Prop where
  r : Fr a l H0 pk
  h : H pk = some (.lst (rs.map V.int))
  p : List.Perm rs ps
def rkOf (rs : List Int) (x : Int) : Nat := rs.idxOf x
theorem idx_ok {x : Int} : ∀ {rs : List Int}, x ∈ rs → (rs.map V.int)[rs.idxOf x]? = some (.int x) ∧ ∀ (m : Nat) (z' : V), m < rs.idxOf x → (rs.map V.int)[m]? = some z' → eqV z' (.int x) = false
  | y :: r, h => by
    rw [List.idxOf_cons]
    by_cases e : y = x
    · subst e
      rw [beq_self_eq_true]
      exact ⟨rfl, fun m z' hm => absurd hm (Nat.not_lt_zero _)⟩
    · have e2 : (y == x) = false := by simpa using e
      rw [e2]
      have hr : x ∈ r := by
        rcases List.mem_cons.mp h with q | q
        · exact absurd q.symm e
        · exact q
      obtain ⟨h1, h2⟩ := idx_ok hr
      refine ⟨h1, fun m z' hm hz => ?_⟩
      match m, hm, hz with
      | 0, _, hz =>
        obtain rfl := Option.some.inj hz
        exact decide_eq_false e
      | m + 1, hm, hz => exact h2 m z' (Nat.lt_of_succ_lt_succ hm) hz
theorem ints_flat (rs : List Int) : (rs.map V.int).all flatV = true := by
  rw [List.all_map]
  exact List.all_eq_true.mpr fun _ _ => rfl
theorem idx_lt {x y : Int} {rs : List Int} (hx : x ∈ rs) (hy : y ∈ rs) (n : x ≠ y) (h : ¬ rs.idxOf x > rs.idxOf y) : rkOf rs x < rkOf rs y := by
  unfold rkOf
  refine Nat.lt_of_le_of_ne (Nat.le_of_not_lt h) fun z => n ?_
  have h1 := (idx_ok hx).1
  have h2 := (idx_ok hy).1
  rw [z, h2] at h1
  exact (V.int.inj (Option.some.inj h1)).symm
def MF (a l : Addr) (H0 : Hp) (N M places full doors : Int) : L2.St → Hp → Prop := fun σ H => ∃ (po pf pn pb pe pr pk : Addr) (many long wide late cut : Int) (ps bs es rs : List Int) (k sort line one other length : Option V) (xs fs rd : List V) (G0 : Hp),
  σ = sgA a po pf pn places full doors many long wide late cut k sort (some (.ref pb)) (some (.ref pe)) line one other (some (.ref pr)) (some (.ref pk)) length none none ∧ Hm many cut ps ∧ many ≤ places ∧ Hl long wide late ∧
  Fr a l H0 pr ∧ pr ≠ po ∧ pr ≠ pn ∧ pr ≠ pb ∧ pr ≠ pe ∧ pr ≠ pk ∧ AllT G0 (Dok ps (Sof ps cut)) xs ∧ Has G0 InT xs ∧ Has G0 OutT xs ∧ 2 ≤ xs.length ∧ (xs.length : Int) ≤ doors ∧
  Kept a l H0 po pf pn pb pe ps bs es xs G0 (N + M) H ∧ H pf = some (.lst fs) ∧ (fs.length ≤ 33 ∧ 0 < fs.length) ∧ AllT H (Pok ps) fs ∧ Rnk a l H0 pk ps rs H ∧ H pr = some (.lst rd) ∧ (rd.length : Int) ≤ full ∧ AllT H (Rok ps (rkOf rs)) rd
def MG (a l : Addr) (H0 : Hp) (N M places full doors : Int) : L2.St → Hp → Prop := fun σ H => ∃ (po pf pn pb pe pr pk : Addr) (many long wide late cut : Int) (ps bs es rs : List Int) (k sort line one other length cr at_ : Option V) (xs rd : List V) (G0 : Hp),
  σ = sgA a po pf pn places full doors many long wide late cut k sort (some (.ref pb)) (some (.ref pe)) line one other (some (.ref pr)) (some (.ref pk)) length cr at_ ∧ Hm many cut ps ∧ many ≤ places ∧ Hl long wide late ∧
  Fr a l H0 pr ∧ pr ≠ po ∧ pr ≠ pn ∧ pr ≠ pb ∧ pr ≠ pe ∧ pr ≠ pk ∧ AllT G0 (Dok ps (Sof ps cut)) xs ∧ Has G0 InT xs ∧ Has G0 OutT xs ∧ 2 ≤ xs.length ∧ (xs.length : Int) ≤ doors ∧
  Kept a l H0 po pf pn pb pe ps bs es xs G0 (N + M) H ∧ Rnk a l H0 pk ps rs H ∧ H pr = some (.lst rd) ∧ ((rd.length : Int) ≤ full ∧ (1 ≤ full → 0 < rd.length)) ∧ AllT H (Rok ps (rkOf rs)) rd
structure LG (a l : Addr) (H0 : Hp) (N : Int) (po pf pn pb pe pr pk q : Addr) (ps bs es rs : List Int) (xs qs : List V) (G0 : Hp) (sh : L2.St → Prop) (i : Nat) (σ : L2.St) (H : Hp) : Prop where
  s : sh σ
  w : Kept a l H0 po pf pn pb pe ps bs es xs G0 (N + 2 * i) H
  q : H q = some (.lst qs)
  aq : AllT H (Pok ps) qs
  R : Rnk a l H0 pk ps rs H
  r : ∃ rd, H pr = some (.lst rd) ∧ rd.length = i ∧ AllT H (Rok ps (rkOf rs)) rd
theorem Rnk.draw {a l pk : Addr} {H0 H H' : Hp} {ps rs : List Int} (x : Rnk a l H0 pk ps rs H) (b : But2 a l H H') : Rnk a l H0 pk ps rs H' := ⟨x.r, b _ _ x.r.na x.r.nl x.h, x.p⟩
theorem Rnk.same {a l pk : Addr} {H0 H H' : Hp} {ps rs : List Int} (x : Rnk a l H0 pk ps rs H) (b : Same H H') : Rnk a l H0 pk ps rs H' := ⟨x.r, b _ _ x.h, x.p⟩
theorem Rnk.set {a l pk q : Addr} {H0 H : Hp} {o : HO} {ps rs : List Int} (x : Rnk a l H0 pk ps rs H) (h : q ≠ pk) : Rnk a l H0 pk ps rs (upd H q o) := ⟨x.r, by rw [upd_ne h.symm]; exact x.h, x.p⟩
theorem mem_set_or {w v : V} : ∀ {xs : List V} {j : Nat}, v ∈ xs → v ∈ xs.set j w ∨ xs[j]? = some v
  | x :: r, 0, h => by
    rcases List.mem_cons.mp h with rfl | q
    · exact .inr rfl
    · exact .inl (List.mem_cons_of_mem _ q)
  | x :: r, j + 1, h => by
    rcases List.mem_cons.mp h with rfl | q
    · exact .inl List.mem_cons_self
    · rcases mem_set_or (j := j) q with z | z
      · exact .inl (List.mem_cons_of_mem _ z)
      · exact .inr z
/-- ints and tuples are unlike -/
theorem ints_ne {H : Hp} {p q : Addr} {ps : List Int} {xs : List V} {P : List V → Prop} (h1 : H p = some (.lst (ps.map V.int))) (h2 : H q = some (.lst xs)) (a : AllT H P xs) (n : 0 < ps.length) : q ≠ p := fun z => by
  rw [z, h1] at h2
  have e := HO.lst.inj (Option.some.inj h2)
  match ps, n, e with
  | i :: r, _, e =>
    rw [← e] at a
    obtain ⟨p', t, e1, _⟩ := a (V.int i) List.mem_cons_self
    cases e1
theorem ixN_at {n : Nat} {d : Int} (h0 : 0 ≤ d) (h1 : d < n) : ixN n d = some d.toNat := by
  unfold ixN
  rw [if_pos h0, if_pos h1]
theorem sof_in {ps : List Int} {cut : Int} {x : Int} (h : x ∈ ps.take cut.toNat) : Sof ps cut x = true := decide_eq_true h
theorem sof_out {ps : List Int} {cut : Int} {x : Int} (hn : ps.Nodup) (h : x ∈ ps.drop cut.toNat) : Sof ps cut x = false := by
  refine decide_eq_false fun z => ?_
  have e := List.take_append_drop cut.toNat ps
  rw [← e] at hn
  exact (List.nodup_append.mp hn).2.2 x z x h rfl
section
variable {P : Program} {w : World} {K : PySem.W.Frag} {mg : Str → Option Value} {base : Heap}
theorem ok_house {f fD fP fM fS : Addr} {fd fdD fdP fdM fdS : FuncData} (F : Fun K "_law_house" "_law_house" sHouse f fd) (T : Bt mg)
    (FD : Fun K "_law_draw" "_law_draw" sDraw fD fdD) (gD : mg "_law_draw" = some (.ref fD)) (bD : Binds K fdD ["_law_stream_here", "_law_many"] [])
    (FP : Fun K "_law_pick" "_law_pick" sPick fP fdP) (gP : mg "_law_pick" = some (.ref fP)) (bP : Binds K fdP ["_law_stream_here", "_law_things"] [])
    (FM : Fun K "_law_mixed" "_law_mixed" sMixed fM fdM) (gM : mg "_law_mixed" = some (.ref fM)) (bM : Binds K fdM ["_law_stream_here", "_law_things"] [])
    (FS : Fun K "_law_stepping" "_law_stepping" sStepping fS fdS) (gS : mg "_law_stepping" = some (.ref fS)) (bS : Binds K fdS ["_law_stream_here", "_law_begin", "_law_end", "_law_order", "_law_wide"] []) :
    FnOk P w K mg base CX0 3 f fd ["_law_stream_here", "_law_places", "_law_full", "_law_doors"] spHouse := by
  have GD : FnOk P w K mg base CX0 1 fD fdD ["_law_stream_here", "_law_many"] spDraw := ok_draw FD T
  have GP : FnOk P w K mg base CX0 2 fP fdP ["_law_stream_here", "_law_things"] spPick := ok_pick FP T FD gD bD
  have GM : FnOk P w K mg base CX0 2 fM fdM ["_law_stream_here", "_law_things"] spMixed := ok_mixed FM T FD gD bD
  have GS : FnOk P w K mg base CX0 2 fS fdS ["_law_stream_here", "_law_begin", "_law_end", "_law_order", "_law_wide"] spStepping := ok_stepping FS T FD gD bD
  refine F.ok scHouse (fun vs H Q E h => ?_) (fun cdv A outer s H vs Q E hr h => ?_)
  · obtain ⟨a, l, N, places, full, doors, rfl, _⟩ := h
    rfl
  · obtain ⟨a, l, N, places, full, doors, rfl, S, hN0, hN1, hp2, hp20, hf0, hf1, hd2, hd20, k⟩ := h
    refine ⟨_, (pss_cons (ps_set (i := 4) scHouse.nd rfl (Or.inl rfl) (pe_op op_add pe_int (pe_callB (call_max2 rfl) (by rfl) T.max (by decide +kernel) (pa_cons (pe_call GD (hr.mono (by decide)) (by rfl) gD FD.kp bD .nil pass0 (pa_cons (pv 0) (pa_cons (pe_op op_sub (pv 1) pe_int) pa_nil))) (pa_cons (pe_call GD (hr.mono (by decide)) (by rfl) gD FD.kp bD .nil pass0 (pa_cons (pv 0) (pa_cons (pe_op op_sub (pv 1) pe_int) pa_nil))) pa_nil)))))
  (pss_cons (ps_par3 (i := 5) (j := 6) (l := 7) (by rfl) scHouse.nd rfl rfl rfl (by decide) (by decide) (by decide) rfl rfl rfl (pa_cons (pe_call GM hr (by rfl) gM FM.kp bM .nil pass0 (pa_cons (pv 0) (pa_cons (pe_listRg rfl (by rfl) T.list (prg_1 (by rfl) T.range (pv 4))) pa_nil))) (pa_cons (pe_lst pa_nil) (pa_cons (pe_lst pa_nil) pa_nil))) (by rfl))
  (pss_cons (ps_par3 (i := 8) (j := 9) (l := 10) (by rfl) scHouse.nd rfl rfl rfl (by decide) (by decide) (by decide) rfl rfl rfl (pa_cons (pe_call GP hr (by rfl) gP FP.kp bP .nil pass0 (pa_cons (pv 0) (pa_cons (pe_lst (pa_cons pe_int (pa_cons pe_int (pa_cons pe_int (pa_cons pe_int pa_nil))))) pa_nil))) (pa_cons (pe_call GP hr (by rfl) gP FP.kp bP .nil pass0 (pa_cons (pv 0) (pa_cons (pe_lst (pa_cons pe_int (pa_cons pe_int (pa_cons pe_int (pa_cons pe_int pa_nil))))) pa_nil))) (pa_cons (pe_call GP hr (by rfl) gP FP.kp bP .nil pass0 (pa_cons (pv 0) (pa_cons (pe_lst (pa_cons pe_int (pa_cons pe_int (pa_cons pe_int pa_nil)))) pa_nil))) pa_nil))) (by rfl))
  (Evl.pss_cut (ps_set (i := 11) scHouse.nd rfl (Or.inl rfl) (pe_call GP hr (by rfl) gP FP.kp bP .nil pass0 (pa_cons (pv 0) (pa_cons (pe_lst (pa_cons (pe_op op_add pe_int (pe_call GD (hr.mono (by decide)) (by rfl) gD FD.kp bD .nil pass0 (pa_cons (pv 0) (pa_cons (pe_op op_sub (pv 4) pe_int) pa_nil)))) (pa_cons (pe_op op_fdiv (pv 4) pe_int) (pa_cons (pe_op op_fdiv (pe_op op_add (pv 4) pe_int) pe_int) pa_nil)))) pa_nil))))
  (Evl.pss_cut (ps_for PassesOwn.never rfl (pi_list (pe_op op_cat (pe_lst (pa_cons pe_str (pa_cons pe_str pa_nil))) (pe_lc (own := [("_law_k", 12)]) (g := gName 12) (tt := tYes) rfl scHouse.nd (pi_range1 (by rfl) T.range (pa_cons (pe_call GD (hr.mono (by decide)) (by rfl) gD FD.kp bD .nil pass0 (pa_cons (pv 0) (pa_cons (pe_op op_sub (pv 3) pe_int) pa_nil))) pa_nil)) (blkOk_by (N := NHouse) (sc := defScope sHouse) (by decide +kernel)) (fun _ _ _ _ _ => (pg_name (i := 12) (x := "_law_k") scHouse.nd rfl (Or.inl rfl))) (fun _ _ _ _ _ => pts_nil) (fun _ _ _ _ _ => (pe_call GP hr (by rfl) gP FP.kp bP .nil pass0 (pa_cons (pv 0) (pa_cons (pe_lst (pa_cons pe_str (pa_cons pe_str pa_nil))) pa_nil))))))) (pg_name (i := 13) (x := "_law_sort") scHouse.nd rfl (Or.inl rfl)) (pss_one (ps_expr (pe_bm PySem.F.plainAttrs_list PySem.F.slot_list_append PySem.F.type_list_append mt_append (pv 7) (pa_cons (pe_tup (pa_cons (pv 13) (pa_cons (pe_call GP hr (by rfl) gP FP.kp bP .nil pass0 (pa_cons (pv 0) (pa_cons (pe_ifExp (pt_cmpR op_eq (pv 13) pe_str (nomark _)) (pe_slice sl_list (pv 5) po_none (po_some (pv 11))) (pe_slice sl_list (pv 5) (po_some (pv 11)) po_none)) pa_nil))) (pa_cons (pe_call GD (hr.mono (by decide)) (by rfl) gD FD.kp bD .nil pass0 (pa_cons (pv 0) (pa_cons (pv 10) pa_nil))) pa_nil)))) pa_nil)))))
  (Evl.pss_cut (ps_par (i := 14) (j := 15) (by rfl) scHouse.nd rfl rfl (by decide) rfl rfl (pa_cons (pe_lc (own := [("_law_door", 24)]) (g := gName 24) rfl scHouse.nd (pi_list (pv 7)) (blkOk_by (N := NHouse) (sc := defScope sHouse) (by decide +kernel)) (fun _ _ _ _ _ => (pg_name (i := 24) (x := "_law_door") scHouse.nd rfl (Or.inl rfl))) (fun _ _ _ _ _ => (pts_one (pt_cmpR op_eq (pe_ix (ixT (K := K) rfl) (pv 24) pe_int (fun _ _ => rfl)) pe_str (nomark _)))) (fun _ _ _ _ _ => (pe_ix (ixT (K := K) rfl) (pv 24) pe_int (fun _ _ => rfl)))) (pa_cons (pe_lc (own := [("_law_door", 24)]) (g := gName 24) rfl scHouse.nd (pi_list (pv 7)) (blkOk_by (N := NHouse) (sc := defScope sHouse) (by decide +kernel)) (fun _ _ _ _ _ => (pg_name (i := 24) (x := "_law_door") scHouse.nd rfl (Or.inl rfl))) (fun _ _ _ _ _ => (pts_one (pt_cmpR op_eq (pe_ix (ixT (K := K) rfl) (pv 24) pe_int (fun _ _ => rfl)) pe_str (nomark _)))) (fun _ _ _ _ _ => (pe_ix (ixT (K := K) rfl) (pv 24) pe_int (fun _ _ => rfl)))) pa_nil)) (by rfl))
  (Evl.pss_cut (ps_for PassesOwn.never rfl (pi_range1 (by rfl) T.range (pa_cons (pe_op op_add pe_int (pe_call GD (hr.mono (by decide)) (by rfl) gD FD.kp bD .nil pass0 (pa_cons (pv 0) (pa_cons pe_int pa_nil)))) pa_nil)) (pg_name (i := 12) (x := "_law_k") scHouse.nd rfl (Or.inl rfl)) (pss_cons (ps_set (i := 16) scHouse.nd rfl (Or.inl rfl) (pe_op op_cat (pe_lst (pa_cons (pe_call GP hr (by rfl) gP FP.kp bP .nil pass0 (pa_cons (pv 0) (pa_cons (pv 14) pa_nil))) pa_nil)) (pe_slice sl_list (pe_call GM hr (by rfl) gM FM.kp bM .nil pass0 (pa_cons (pv 0) (pa_cons (pv 5) pa_nil))) po_none (po_some (pe_call GP hr (by rfl) gP FP.kp bP .nil pass0 (pa_cons (pv 0) (pa_cons (pe_lst (pa_cons pe_int (pa_cons pe_int (pa_cons pe_int (pa_cons pe_int (pa_cons pe_int pa_nil)))))) pa_nil)))))))
  (pss_cons (ps_expr (pe_bm PySem.F.plainAttrs_list PySem.F.slot_list_append PySem.F.type_list_append mt_append (pv 16) (pa_cons (pe_call GP hr (by rfl) gP FP.kp bP .nil pass0 (pa_cons (pv 0) (pa_cons (pv 15) pa_nil))) pa_nil)))
  (pss_one (ps_expr (pe_bm PySem.F.plainAttrs_list PySem.F.slot_list_extend PySem.F.type_list_extend mt_extend (pv 6) (pa_cons (pe_lc (own := [("_law_one", 17), ("_law_other", 18)]) (g := gTup K 2 (gCons (gName 17) (gCons (gName 18) gNil))) rfl scHouse.nd (pi_zip (by rfl) T.zip (pa_cons (pv 16) (pa_cons (pe_slice sl_list (pv 16) (po_some pe_int) po_none) pa_nil))) (blkOk_by (N := NHouse) (sc := defScope sHouse) (by decide +kernel)) (fun _ _ _ _ _ => (pg_tup rfl (pgs_cons (pg_name (i := 17) (x := "_law_one") scHouse.nd rfl (Or.inl rfl)) (pgs_cons (pg_name (i := 18) (x := "_law_other") scHouse.nd rfl (Or.inl rfl)) pgs_nil)))) (fun _ _ _ _ _ => (pts_one (pt_cmpR op_ne (pv 17) (pv 18) (nomark _)))) (fun _ _ _ _ _ => (pe_tup (pa_cons (pv 17) (pa_cons (pv 18) pa_nil))))) pa_nil)))))))
  (Evl.pss_cut (ps_for PassesOwn.never rfl (pi_range1 (by rfl) T.range (pa_cons (pe_call GD (hr.mono (by decide)) (by rfl) gD FD.kp bD .nil pass0 (pa_cons (pv 0) (pa_cons pe_int pa_nil))) pa_nil)) (pg_name (i := 12) (x := "_law_k") scHouse.nd rfl (Or.inl rfl)) (pss_cons (ps_asg (pe_slice sl_list (pe_call GM hr (by rfl) gM FM.kp bM .nil pass0 (pa_cons (pv 0) (pa_cons (pv 5) pa_nil))) po_none (po_some pe_int)) (pg_unl rfl (pgs_cons (pg_name (i := 17) (x := "_law_one") scHouse.nd rfl (Or.inl rfl)) (pgs_cons (pg_name (i := 18) (x := "_law_other") scHouse.nd rfl (Or.inl rfl)) pgs_nil))))
  (pss_one (ps_expr (pe_bm PySem.F.plainAttrs_list PySem.F.slot_list_append PySem.F.type_list_append mt_append (pv 6) (pa_cons (pe_tup (pa_cons (pv 17) (pa_cons (pv 18) pa_nil))) pa_nil))))))
  (Evl.pss_cut (ps_par (i := 19) (j := 20) (by rfl) scHouse.nd rfl rfl (by decide) rfl rfl (pa_cons (pe_lst pa_nil) (pa_cons (pe_call GP hr (by rfl) gP FP.kp bP .nil pass0 (pa_cons (pv 0) (pa_cons (pe_lst (pa_cons (pv 5) (pa_cons (pv 5) (pa_cons (pe_call GM hr (by rfl) gM FM.kp bM .nil pass0 (pa_cons (pv 0) (pa_cons (pv 5) pa_nil))) pa_nil)))) pa_nil))) pa_nil)) (by rfl))
  (Evl.pss_cut (ps_for PassesOwn.never rfl (pi_list (pe_slice sl_list (pv 6) po_none (po_some (pv 2)))) (pg_tup rfl (pgs_cons (pg_name (i := 17) (x := "_law_one") scHouse.nd rfl (Or.inl rfl)) (pgs_cons (pg_name (i := 18) (x := "_law_other") scHouse.nd rfl (Or.inl rfl)) pgs_nil))) (pss_cons (ps_set (i := 21) scHouse.nd rfl (Or.inl rfl) (pe_call GD (hr.mono (by decide)) (by rfl) gD FD.kp bD .nil pass0 (pa_cons (pv 0) (pa_cons (pe_op op_add (pv 8) pe_int) pa_nil))))
  (Evl.pss_cut (ps_set (i := 21) scHouse.nd rfl (Or.inl rfl) (pe_ifExp (PW.pt (pw_and (pt_cmpR op_eq (pv 21) pe_int (nomark _)) (pw_and1 (pt_cmpR op_gt (pe_bm PySem.F.plainAttrs_list PySem.F.slot_list_index PySem.F.type_list_index mt_index (pv 20) (pa_cons (pv 17) pa_nil)) (pe_bm PySem.F.plainAttrs_list PySem.F.slot_list_index PySem.F.type_list_index mt_index (pv 20) (pa_cons (pv 18) pa_nil)) (nomark _))))) pe_int (pv 21)))
  (pss_one (ps_expr (pe_bm PySem.F.plainAttrs_list PySem.F.slot_list_append PySem.F.type_list_append mt_append (pv 19) (pa_cons (pe_tup (pa_cons (pv 17) (pa_cons (pv 18) (pa_cons (pv 21) (pa_cons (pe_op op_add pe_int (pe_call GD (hr.mono (by decide)) (by rfl) gD FD.kp bD .nil pass0 (pa_cons (pv 0) (pa_cons (pv 9) pa_nil)))) pa_nil))))) pa_nil)))))))
  (Evl.pss_cut (ps_if (PW.pt (pw_and (pt_cmpR op_gt (pv 4) pe_int (nomark _)) (pw_and (pt_cmpR op_gt (pv 2) pe_int (nomark _)) (pw_and1 (pt_cmpR op_eq (pe_call GD (hr.mono (by decide)) (by rfl) gD FD.kp bD .nil pass0 (pa_cons (pv 0) (pa_cons pe_int pa_nil))) pe_int (nomark _)))))) (pss_cons (ps_set (i := 22) scHouse.nd rfl (Or.inl rfl) (pe_call GS hr (by rfl) gS FS.kp bS .nil pass0 (pa_cons (pv 0) (pa_cons (pe_call GP hr (by rfl) gP FP.kp bP .nil pass0 (pa_cons (pv 0) (pa_cons (pv 14) pa_nil))) (pa_cons (pe_call GP hr (by rfl) gP FP.kp bP .nil pass0 (pa_cons (pv 0) (pa_cons (pv 15) pa_nil))) (pa_cons (pv 5) (pa_cons (pv 9) pa_nil)))))))
  (pss_one (ps_set (i := 19) scHouse.nd rfl (Or.inl rfl) (pe_call GM hr (by rfl) gM FM.kp bM .nil pass0 (pa_cons (pv 0) (pa_cons (pe_op op_cat (pv 22) (pe_slice sl_list (pv 19) po_none (po_some (pe_call GD (hr.mono (by decide)) (by rfl) gD FD.kp bD .nil pass0 (pa_cons (pv 0) (pa_cons (pe_op op_sub (pv 2) pe_int) pa_nil)))))) pa_nil)))))) pss_nil)
  (Evl.pss_cut (ps_if (PW.pt (pw_and (pt_cmpR op_eq (pe_call GD (hr.mono (by decide)) (by rfl) gD FD.kp bD .nil pass0 (pa_cons (pv 0) (pa_cons pe_int pa_nil))) pe_int (nomark _)) (pw_and1 (pt_cmpR op_gt (pe_callB call_len_seq (by rfl) T.len (by decide +kernel) (pa_cons (pv 19) pa_nil)) pe_int (nomark _))))) (pss_cons (ps_set (i := 23) scHouse.nd rfl (Or.inl rfl) (pe_call GD (hr.mono (by decide)) (by rfl) gD FD.kp bD .nil pass0 (pa_cons (pv 0) (pa_cons (pe_callB call_len_seq (by rfl) T.len (by decide +kernel) (pa_cons (pv 19) pa_nil)) pa_nil))))
  (pss_one (ps_asg (pe_tup (pa_cons (pe_ix ix_tup (pe_ix ix_list (pv 19) (pv 23) (fun _ _ => rfl)) pe_int (fun _ _ => rfl)) (pa_cons (pe_ix ix_tup (pe_ix ix_list (pv 19) (pv 23) (fun _ _ => rfl)) pe_int (fun _ _ => rfl)) (pa_cons (pe_op op_add pe_int (pe_call GD (hr.mono (by decide)) (by rfl) gD FD.kp bD .nil pass0 (pa_cons (pv 0) (pa_cons pe_int pa_nil)))) (pa_cons (pe_ix ix_tup (pe_ix ix_list (pv 19) (pv 23) (fun _ _ => rfl)) pe_int (fun _ _ => rfl)) pa_nil))))) (pg_sub (pv 19) (pv 23) set_list)))) pss_nil)
  (Evl.pss_cut (ps_if (PW.pt (pw_and (pt_cmpR op_eq (pe_call GD (hr.mono (by decide)) (by rfl) gD FD.kp bD .nil pass0 (pa_cons (pv 0) (pa_cons pe_int pa_nil))) pe_int (nomark _)) (pw_and1 (pt_cmpR op_gt (pe_callB call_len_seq (by rfl) T.len (by decide +kernel) (pa_cons (pv 7) pa_nil)) pe_int (nomark _))))) (pss_cons (ps_set (i := 23) scHouse.nd rfl (Or.inl rfl) (pe_op op_add pe_int (pe_call GD (hr.mono (by decide)) (by rfl) gD FD.kp bD .nil pass0 (pa_cons (pv 0) (pa_cons (pe_op op_sub (pe_callB call_len_seq (by rfl) T.len (by decide +kernel) (pa_cons (pv 7) pa_nil)) pe_int) pa_nil)))))
  (pss_one (ps_asg (pe_tup (pa_cons (pe_ix ix_tup (pe_ix ix_list (pv 7) (pv 23) (fun _ _ => rfl)) pe_int (fun _ _ => rfl)) (pa_cons (pe_ix ix_tup (pe_ix ix_list (pv 7) (pv 23) (fun _ _ => rfl)) pe_int (fun _ _ => rfl)) (pa_cons (pe_op op_add pe_int (pe_call GD (hr.mono (by decide)) (by rfl) gD FD.kp bD .nil pass0 (pa_cons (pv 0) (pa_cons pe_int pa_nil)))) pa_nil)))) (pg_sub (pv 7) (pv 23) set_list)))) pss_nil)
  (pss_one (ps_ret (pe_tup (pa_cons (pv 4) (pa_cons (pv 19) (pa_cons (pe_call GM hr (by rfl) gM FM.kp bM .nil pass0 (pa_cons (pv 0) (pa_cons (pv 7) pa_nil))) pa_nil))))))))))))))))))), ?_⟩
    refine ⟨_, rfl, _, rfl, _, _, rfl, rfl, a, l, N, _, rfl, S, hN0, by omega, by omega, by omega, fun H1 m1 q1 r1 b1 S1 => ?_⟩
    refine ⟨_, rfl, _, rfl, _, _, rfl, rfl, a, l, _, _, rfl, S1, by omega, by omega, by omega, by omega, fun H2 m2 q2 r2 b2 S2 => ?_⟩
    refine ⟨_, _, rfl, _, _, rfl, rfl, ?_⟩
    dsimp only
    have hm2 : 2 ≤ 2 + (if m2 > m1 then m2 else m1) := by split <;> omega
    have hmp : 2 + (if m2 > m1 then m2 else m1) ≤ places := by split <;> omega
    generalize (2 + (if m2 > m1 then m2 else m1)) = many at hm2 hmp ⊢
    have c2 : But2 a l H H2 := b1.trans b2
    refine ⟨_, rfl, _, rfl, many, rfl, RgOk.of_le (by decide) (by omega) (by decide) (by omega), fun q0 hq0 => ?_⟩
    have S3 := S2.but (same_new (o := .lst (rgV 0 many)) hq0)
    have n0 := S2.ne_new hq0
    refine ⟨a, l, q0, _, _, rfl, S3, by omega, by omega, n0.1, n0.2, upd_same, by rw [rgV_length]; omega, fun H4 po ys pm b4 f4 o4 S4 => ?_⟩
    obtain ⟨ps, rfl, hnd, hlen, hmem⟩ := range_perm hm2 pm
    have c3 : But2 a l H (upd H2 q0 (.lst (rgV 0 many))) := but2_new c2 hq0
    have c4 := c3.trans b4
    have B4 : B0 a l po H ps (N + 102) H4 := ⟨c4, S4.mono (by omega), o4, Fr.of c3 S3 f4⟩
    refine ⟨Nat.zero_le _, fun pf hpf => ⟨Nat.zero_le _, fun pn hpn => ⟨_, _, _, rfl, ?_⟩⟩⟩
    have B5 := B4.new (o := .lst []) hpf
    have Ff := B4.fr hpf
    have n5 : po ≠ pf := ne_of_none B4.o hpf
    have B6 := B5.new (o := .lst []) hpn
    have Fn := B5.fr hpn
    have n6 : po ≠ pn := ne_of_none B5.o hpn
    have n7 : pf ≠ pn := ne_of_none (H := upd H4 pf (.lst [])) upd_same hpn
    have vf : upd (upd H4 pf (.lst [])) pn (.lst []) pf = some (.lst []) := by
      rw [upd_ne n7]
      exact upd_same
    have vn : upd (upd H4 pf (.lst [])) pn (.lst []) pn = some (.lst []) := upd_same
    clear B4 B5 c4 c3 o4 f4 b4 S4 S3 n0 hq0 b1 b2 S1 S2 c2 hpf
    generalize upd (upd H4 pf (.lst [])) pn (.lst []) = H6 at B6 vf vn ⊢
    refine ⟨_, rfl, (by show 4 ≤ sizeLine; decide), fun t1 h1 => ?_⟩
    have C1 := B6.new (o := .lst [.int 1, .int 2, .int 3, .int 5]) h1
    have vf1 := same_new (o := .lst [.int 1, .int 2, .int 3, .int 5]) h1 _ _ vf
    have vn1 := same_new (o := .lst [.int 1, .int 2, .int 3, .int 5]) h1 _ _ vn
    have g1 := B6.fr h1
    refine ⟨a, l, t1, _, _, rfl, C1.t, by omega, by omega, g1.na, g1.nl, upd_same, by decide, by decide, fun H7 v1 hv1 b7 S7 => ?_⟩
    have D1 := C1.draw b7 S7
    have vf2 := b7 _ _ Ff.na Ff.nl vf1
    have vn2 := b7 _ _ Fn.na Fn.nl vn1
    refine ⟨_, rfl, (by show 4 ≤ sizeLine; decide), fun t2 h2 => ?_⟩
    have C2 := D1.new (o := .lst [.int 1, .int 3, .int 3, .int 10]) h2
    have vf3 := same_new (o := .lst [.int 1, .int 3, .int 3, .int 10]) h2 _ _ vf2
    have vn3 := same_new (o := .lst [.int 1, .int 3, .int 3, .int 10]) h2 _ _ vn2
    have g2 := D1.fr h2
    refine ⟨a, l, t2, _, _, rfl, C2.t, by omega, by omega, g2.na, g2.nl, upd_same, by decide, by decide, fun H8 v2 hv2 b8 S8 => ?_⟩
    have D2 := C2.draw b8 S8
    have vf4 := b8 _ _ Ff.na Ff.nl vf3
    have vn4 := b8 _ _ Fn.na Fn.nl vn3
    refine ⟨_, rfl, (by show 3 ≤ sizeLine; decide), fun t3 h3 => ?_⟩
    have C3 := D2.new (o := .lst [.int 1, .int 1, .int 3]) h3
    have vf5 := same_new (o := .lst [.int 1, .int 1, .int 3]) h3 _ _ vf4
    have vn5 := same_new (o := .lst [.int 1, .int 1, .int 3]) h3 _ _ vn4
    have g3 := D2.fr h3
    refine ⟨a, l, t3, _, _, rfl, C3.t, by omega, by omega, g3.na, g3.nl, upd_same, by decide, by decide, fun H9 v3 hv3 b9 S9 => ?_⟩
    have D3 := C3.draw b9 S9
    have vf6 := b9 _ _ Ff.na Ff.nl vf5
    have vn6 := b9 _ _ Fn.na Fn.nl vn5
    refine ⟨_, _, _, rfl, ?_⟩
    obtain ⟨long, rfl, l1, l2⟩ : ∃ i : Int, v1 = .int i ∧ 1 ≤ i ∧ i ≤ 5 := by
      simp only [List.mem_cons, List.not_mem_nil, or_false] at hv1
      rcases hv1 with rfl | rfl | rfl | rfl
      all_goals exact ⟨_, rfl, by decide, by decide⟩
    obtain ⟨wide, rfl, w1, w2⟩ : ∃ i : Int, v2 = .int i ∧ 1 ≤ i ∧ i ≤ 10 := by
      simp only [List.mem_cons, List.not_mem_nil, or_false] at hv2
      rcases hv2 with rfl | rfl | rfl | rfl
      all_goals exact ⟨_, rfl, by decide, by decide⟩
    obtain ⟨late, rfl, e1, e2⟩ : ∃ i : Int, v3 = .int i ∧ 1 ≤ i ∧ i ≤ 3 := by
      simp only [List.mem_cons, List.not_mem_nil, or_false] at hv3
      rcases hv3 with rfl | rfl | rfl
      all_goals exact ⟨_, rfl, by decide, by decide⟩
    clear vf vn vf1 vn1 vf2 vn2 vf3 vn3 vf4 vn4 vf5 vn5 C1 C2 C3 D1 D2 g1 g2 g3 b7 b8 b9 S7 S8 S9 B6 h1 h2 h3
    refine ⟨MA a l H N places full doors, ?_, ?_⟩
    · refine ⟨_, rfl, _, rfl, _, rfl, _, _, rfl, rfl, a, l, _, _, rfl, D3.t, by omega, by omega, by omega, by omega, fun H10 d0 p0 r0 b10 S10 => ?_⟩
      have D4 := D3.draw b10 S10
      have vf7 := b10 _ _ Ff.na Ff.nl vf6
      have vn7 := b10 _ _ Fn.na Fn.nl vn6
      refine ⟨_, _, rfl, rfl, _, rfl, _, _, rfl, rfl, ⟨by decide, by decide⟩, _, rfl, _, _, rfl, rfl, _, _, rfl, rfl, ⟨by decide, by decide⟩, (by show 3 ≤ sizeLine; decide), fun t4 h4 => ?_⟩
      have g4 := D4.fr h4
      have C4 := D4.new (o := .lst [.int (1 + d0), .int (many / 2), .int ((many + 1) / 2)]) h4
      have vf8 := same_new (o := .lst [.int (1 + d0), .int (many / 2), .int ((many + 1) / 2)]) h4 _ _ vf7
      have vn8 := same_new (o := .lst [.int (1 + d0), .int (many / 2), .int ((many + 1) / 2)]) h4 _ _ vn7
      refine ⟨a, l, t4, _, _, rfl, C4.t, by omega, by omega, g4.na, g4.nl, upd_same, by show 0 < 3; decide, by show 3 ≤ 1000; decide, fun H11 v4 hv4 b11 S11 => ?_⟩
      obtain ⟨cut, rfl, k1, k2⟩ : ∃ i : Int, v4 = .int i ∧ 1 ≤ i ∧ i < many := by
        simp only [List.mem_cons, List.not_mem_nil, or_false] at hv4
        rcases hv4 with rfl | rfl | rfl
        · exact ⟨_, rfl, by omega, by omega⟩
        · exact ⟨_, rfl, by omega, by omega⟩
        · exact ⟨_, rfl, by omega, by omega⟩
      exact ⟨po, pf, pn, many, long, wide, late, cut, ps, rfl, ⟨hnd, hlen, hmem, k1, k2, hm2, by omega⟩, hmp, ⟨l1, l2, w1, w2, e1, e2⟩, (C4.draw b11 S11).mono (by omega), Ff, Fn, n5, n6, n7, b11 _ _ Ff.na Ff.nl vf8, b11 _ _ Fn.na Fn.nl vn8⟩
    · clear D3 vf6 vn6 Ff Fn n5 n6 n7 hnd hlen hmem hm2 hmp l1 l2 w1 w2 e1 e2 hv1 hv2 hv3
      clear hpn S
      rintro σ0 G0 ⟨po, pf, pn, many, long, wide, late, cut, ps, rfl, hm, hmp, hl, B, Ff, Fn, n5, n6', n7', vf, vn⟩
      have lenps := hm.len
      have lc1 := hm.c1
      have lc2 := hm.c2
      have lm2 := hm.m20
      refine ⟨MB a l H N places full doors, ?_, ?_⟩
      · refine ⟨(by show 2 ≤ sizeLine; decide), fun p1 hp1 => ?_⟩
        have B1 := B.new (o := .lst [.str "in", .str "out"]) hp1
        have g1 := B.fr hp1
        have s1 := same_new (o := .lst [.str "in", .str "out"]) hp1
        refine ⟨_, rfl, _, rfl, _, _, rfl, rfl, a, l, _, _, rfl, B1.t, by omega, by omega, by omega, by omega, fun H2 d p2 r2 b2 S2 => ?_⟩
        have B2 := B1.draw b2 S2
        refine ⟨d, rfl, by omega, by omega, fun D hD => ?_⟩
        have gD' := B2.fr hD
        refine lc_it walk_range (fun i H' => ∃ acc : List V, But2 a l H2 H' ∧ Strm (N + 111 + i) H' a l ∧ H' D = some (.lst acc) ∧ acc.length = i ∧ ∀ v ∈ acc, v = .str "in" ∨ v = .str "out")
          ⟨[], but2_new But2.refl hD, (S2.but (same_new hD)).mono (by omega), upd_same, rfl, fun v hv => by cases hv⟩ (fun i H' _ q => trivial) ?_ ?_
        · rintro i x H3 H4 hi ⟨acc, b3, S3, e3, l3, a3⟩ ⟨rfl, rfl⟩
          refine ⟨rfl, ?_⟩
          dsimp only [tYes]
          refine iteT ?_
          refine ⟨_, rfl, (by show 2 ≤ sizeLine; decide), fun t ht => ?_⟩
          have n3 := S3.ne_new ht
          refine ⟨a, l, t, _, _, rfl, S3.but (same_new ht), by omega, by omega, n3.1, n3.2, upd_same, by decide, by decide, fun H5 v hv b5 S5 => ?_⟩
          refine ⟨acc, b5 _ _ gD'.na gD'.nl (same_new ht _ _ e3), by rw [l3]; exact Nat.lt_of_lt_of_le (Nat.lt_trans hi (show d.toNat < 100 by omega)) (by decide), acc ++ [v], ?_, ?_, upd_same, by rw [List.length_append, l3]; rfl, fun u hu => ?_⟩
          · intro b o h1 h2 e
            rw [upd_ne (ne_of_none e hD)]
            exact b5 _ _ h1 h2 (same_new ht _ _ (b3 _ _ h1 h2 e))
          · exact (S5.upd gD'.na gD'.nl).mono (by omega)
          · rcases List.mem_append.mp hu with z | z
            · exact a3 u z
            · rw [List.mem_singleton.mp z]
              simp only [List.mem_cons, List.not_mem_nil, or_false] at hv
              exact hv
        · rintro H3 ⟨acc, b3, S3, e3, l3, a3⟩
          have B3 := B2.draw b3 S3
          have ld : d.toNat ≤ 18 := by omega
          have ldd : (d.toNat : Int) = d := by omega
          have e4 := b3 _ _ g1.na g1.nl (b2 _ _ g1.na g1.nl upd_same)
          have vf3 := b3 _ _ Ff.na Ff.nl (b2 _ _ Ff.na Ff.nl (s1 _ _ vf))
          have vn3 := b3 _ _ Fn.na Fn.nl (b2 _ _ Fn.na Fn.nl (s1 _ _ vn))
          refine ⟨p1, D, _, _, rfl, rfl, e4, e3, by rw [l3]; exact Nat.le_trans (show 2 + d.toNat ≤ 20 by omega) (by decide), fun q hq => ?_⟩
          have B4 := B3.new (o := .lst (sorts0 acc)) hq
          have Fq := B3.fr hq
          have vf4 := same_new (o := .lst (sorts0 acc)) hq _ _ vf3
          have vn4 := same_new (o := .lst (sorts0 acc)) hq _ _ vn3
          have nqf : q ≠ pf := (ne_of_none vf3 hq).symm
          have nqn : q ≠ pn := (ne_of_none vn3 hq).symm
          refine ⟨q, rfl, ⟨_, SqL.of upd_same⟩, ?_⟩
          have lsorts : (sorts0 acc).length = 2 + d.toNat := by
            unfold sorts0
            rw [List.length_append, l3]
            rfl
          refine for_list (xs := sorts0 acc) (LB a l H (N + 131) po pf pn q cut ps (sorts0 acc) (fun σ => ∃ sort, σ = sgA a po pf pn places full doors many long wide late cut none sort none none none none none none none none none none)) ⟨⟨_, rfl⟩, B4.mono (by omega), vf4, upd_same, [], vn4, rfl, AllT.nil, fun z => absurd z (by decide), fun z => absurd z (by decide)⟩ (fun i σ H _ w => SqL.of w.q) (fun i x σ H1 hx w => ?_) (fun σ H1 w => ?_)
          · have hi16 : i < 2 + d.toNat := by
              rw [← lsorts]
              exact (List.getElem?_eq_some_iff.mp hx).1
            obtain ⟨⟨sort, rfl⟩, xs, hn, hl0, ha, hI, hO⟩ := (⟨w.s, w.n⟩ : _ ∧ _)
            have hi16 : i < 20 := by omega
            have hxs : (x = .str "in" ∧ i ≠ 1) ∨ (x = .str "out" ∧ i ≠ 0) := by
              match i, hx with
              | 0, hx => exact .inl ⟨(Option.some.inj hx).symm, by decide⟩
              | 1, hx => exact .inr ⟨(Option.some.inj hx).symm, by decide⟩
              | j + 2, hx =>
                have hj : acc[j]? = some x := hx
                rcases a3 x (List.mem_of_getElem? hj) with z | z
                · exact .inl ⟨z, by omega⟩
                · exact .inr ⟨z, by omega⟩
            rcases hxs with ⟨rfl, ni1⟩ | ⟨rfl, ni0⟩
            · refine ⟨_, rfl, .inl ⟨rfl, _, SqL.of hn⟩, _, rfl, _, rfl, _, rfl, rfl, _, rfl, ?_⟩
              refine iteT ?_
              refine ⟨_, rfl, _, rfl, _, rfl, po, _, rfl, SqL.of w.b.o, fun p hp => ?_⟩
              rw [cut_to _ (by omega), List.map_take.symm]
              have B1 := w.b.new (o := .lst ((ps.take cut.toNat).map V.int)) hp
              have g1 := w.b.fr hp
              have n1 := same_new (o := .lst ((ps.take cut.toNat).map V.int)) hp _ _ hn
              have f1 := same_new (o := .lst ((ps.take cut.toNat).map V.int)) hp _ _ w.f
              have q1 := same_new (o := .lst ((ps.take cut.toNat).map V.int)) hp _ _ w.q
              have a1 := ha.tl (TL.new (o := .lst ((ps.take cut.toNat).map V.int)) hp)
              have i1 := fun z => (hI z).tl (TL.new (o := .lst ((ps.take cut.toNat).map V.int)) hp)
              have o1 := fun z => (hO z).tl (TL.new (o := .lst ((ps.take cut.toNat).map V.int)) hp)
              refine ⟨a, l, p, _, _, rfl, B1.t, by omega, by omega, g1.na, g1.nl, upd_same, by rw [List.length_map, List.length_take]; omega, by rw [List.length_map, List.length_take]; omega, fun H5 v hv b5 S5 => ?_⟩
              obtain ⟨x, hx, rfl⟩ := List.mem_map.mp hv
              have B2 := B1.draw b5 S5
              refine ⟨_, rfl, _, rfl, a, l, _, _, rfl, S5, by omega, by omega, by have := hl.t1; omega, by have := hl.t2; omega, fun H6 d p6 r6 b6 S6 => ?_⟩
              have B3 := B2.draw b6 S6
              refine ⟨(by show 3 ≤ sizeLine; decide), fun tp htp => ?_⟩
              have k6 : TL _ H6 := (b5.tl B1.t).trans (b6.tl S5)
              have n6 := b6 _ _ Fn.na Fn.nl (b5 _ _ Fn.na Fn.nl n1)
              have f6 := b6 _ _ Ff.na Ff.nl (b5 _ _ Ff.na Ff.nl f1)
              have q6 := b6 _ _ Fq.na Fq.nl (b5 _ _ Fq.na Fq.nl q1)
              have u7 := same_new (o := .tup [.str "in", .int x, .int d]) htp
              have B4 := B3.new (o := .tup [.str "in", .int x, .int d]) htp
              have n7 := u7 _ _ n6
              refine ⟨pn, _, _, rfl, rfl, n7, by rw [hl0]; exact Nat.lt_of_lt_of_le hi16 (by decide), ?_⟩
              have k8 : TL _ (upd (upd H6 tp (.tup [.str "in", .int x, .int d])) pn (.lst (xs ++ [.ref tp]))) := k6.trans ((TL.new htp).trans (TL.set n7))
              have t8 : upd (upd H6 tp (.tup [.str "in", .int x, .int d])) pn (.lst (xs ++ [.ref tp])) tp = some (.tup [.str "in", .int x, .int d]) := TL.set n7 _ _ upd_same
              refine ⟨⟨_, rfl⟩, (B4.set Fn n6'.symm).mono (by omega), ?_, ?_, xs ++ [.ref tp], upd_same, by rw [List.length_append, hl0]; rfl, ?_, ?_, ?_⟩
              · rw [upd_ne n7']
                exact u7 _ _ f6
              · rw [upd_ne nqn]
                exact u7 _ _ q6
              · refine (a1.tl k8).app (AllT.one t8 ⟨x, d, ?_, List.mem_of_mem_take hx, p6, by have := hl.t2; omega⟩)
                rw [sof_in hx]
                rfl
              · exact fun _ => ⟨.ref tp, List.mem_append.mpr (.inr List.mem_cons_self), tp, _, rfl, t8, x, d, rfl⟩
              · refine fun z => ((o1 ?_).tl k8).sub fun v hv => List.mem_append.mpr (.inl hv)
                by_cases z1 : i = 1
                · exact absurd z1 ni1
                · omega
            · refine ⟨_, rfl, .inl ⟨rfl, _, SqL.of hn⟩, _, rfl, _, rfl, _, rfl, rfl, _, rfl, ?_⟩
              refine iteF ?_
              refine ⟨_, rfl, _, rfl, _, rfl, po, _, rfl, SqL.of w.b.o, fun p hp => ?_⟩
              rw [cut_from _ (by omega), List.map_drop.symm]
              have B1 := w.b.new (o := .lst ((ps.drop cut.toNat).map V.int)) hp
              have g1 := w.b.fr hp
              have n1 := same_new (o := .lst ((ps.drop cut.toNat).map V.int)) hp _ _ hn
              have f1 := same_new (o := .lst ((ps.drop cut.toNat).map V.int)) hp _ _ w.f
              have q1 := same_new (o := .lst ((ps.drop cut.toNat).map V.int)) hp _ _ w.q
              have a1 := ha.tl (TL.new (o := .lst ((ps.drop cut.toNat).map V.int)) hp)
              have i1 := fun z => (hI z).tl (TL.new (o := .lst ((ps.drop cut.toNat).map V.int)) hp)
              have o1 := fun z => (hO z).tl (TL.new (o := .lst ((ps.drop cut.toNat).map V.int)) hp)
              refine ⟨a, l, p, _, _, rfl, B1.t, by omega, by omega, g1.na, g1.nl, upd_same, by rw [List.length_map, List.length_drop]; omega, by rw [List.length_map, List.length_drop]; omega, fun H5 v hv b5 S5 => ?_⟩
              obtain ⟨x, hx, rfl⟩ := List.mem_map.mp hv
              have B2 := B1.draw b5 S5
              refine ⟨_, rfl, _, rfl, a, l, _, _, rfl, S5, by omega, by omega, by have := hl.t1; omega, by have := hl.t2; omega, fun H6 d p6 r6 b6 S6 => ?_⟩
              have B3 := B2.draw b6 S6
              refine ⟨(by show 3 ≤ sizeLine; decide), fun tp htp => ?_⟩
              have k6 : TL _ H6 := (b5.tl B1.t).trans (b6.tl S5)
              have n6 := b6 _ _ Fn.na Fn.nl (b5 _ _ Fn.na Fn.nl n1)
              have f6 := b6 _ _ Ff.na Ff.nl (b5 _ _ Ff.na Ff.nl f1)
              have q6 := b6 _ _ Fq.na Fq.nl (b5 _ _ Fq.na Fq.nl q1)
              have u7 := same_new (o := .tup [.str "out", .int x, .int d]) htp
              have B4 := B3.new (o := .tup [.str "out", .int x, .int d]) htp
              have n7 := u7 _ _ n6
              refine ⟨pn, _, _, rfl, rfl, n7, by rw [hl0]; exact Nat.lt_of_lt_of_le hi16 (by decide), ?_⟩
              have k8 : TL _ (upd (upd H6 tp (.tup [.str "out", .int x, .int d])) pn (.lst (xs ++ [.ref tp]))) := k6.trans ((TL.new htp).trans (TL.set n7))
              have t8 : upd (upd H6 tp (.tup [.str "out", .int x, .int d])) pn (.lst (xs ++ [.ref tp])) tp = some (.tup [.str "out", .int x, .int d]) := TL.set n7 _ _ upd_same
              refine ⟨⟨_, rfl⟩, (B4.set Fn n6'.symm).mono (by omega), ?_, ?_, xs ++ [.ref tp], upd_same, by rw [List.length_append, hl0]; rfl, ?_, ?_, ?_⟩
              · rw [upd_ne n7']
                exact u7 _ _ f6
              · rw [upd_ne nqn]
                exact u7 _ _ q6
              · refine (a1.tl k8).app (AllT.one t8 ⟨x, d, ?_, List.mem_of_mem_drop hx, p6, by have := hl.t2; omega⟩)
                rw [sof_out hm.nd hx]
                rfl
              · refine fun z => ((i1 ?_).tl k8).sub fun v hv => List.mem_append.mpr (.inl hv)
                by_cases z1 : i = 0
                · exact absurd z1 ni0
                · omega
              · exact fun _ => ⟨.ref tp, List.mem_append.mpr (.inr List.mem_cons_self), tp, _, rfl, t8, x, d, rfl⟩
          · obtain ⟨⟨sort, rfl⟩, xs, hn, hl0, ha, hI, hO⟩ := (⟨w.s, w.n⟩ : _ ∧ _)
            have B5 := w.b
            rw [lsorts] at hl0 hI hO B5
            exact ⟨po, pf, pn, many, long, wide, late, cut, ps, sort, xs, rfl, hm, hmp, hl, B5.mono (by omega), Ff, Fn, n5, n6', n7', w.f, hn, ha, hI (by omega), hO (by omega), by omega, by omega⟩
      · rintro σ0 G0 ⟨po, pf, pn, many, long, wide, late, cut, ps, sort, xs, rfl, hm, hmp, hl, B, Ff, Fn, n5, n6', n7', vf, vn, ha, hI, hO, hx2, hxd⟩
        refine ⟨MC a l H N places full doors, ?_, ?_⟩
        · refine ⟨_, rfl, pn, rfl, ⟨_, SqL.of vn⟩, fun D1 hD1 => ?_⟩
          refine lc_it walk_list (fun i H' => Same G0 H' ∧ ∃ acc : List Int, H' D1 = some (.lst (acc.map V.int)) ∧ acc.length ≤ i ∧ (∀ x ∈ acc, x ∈ ps ∧ Sof ps cut x = true) ∧ (Has G0 InT (xs.take i) → 0 < acc.length)) ⟨same_new hD1, [], upd_same, Nat.le_refl _, fun x hx => (by cases hx), fun ⟨v, hv, _⟩ => (by cases hv)⟩ (fun i H' _ q => SqL.of (q.1 _ _ vn)) ?_ ?_
          · rintro i x H3 H4 hi ⟨s3, acc, e3, l3, m3, k3⟩ ⟨rfl, hx⟩
            obtain ⟨p, tt, rfl, hp, y, h, rfl, hy, y0, y9⟩ := ha x (List.mem_of_getElem? hx)
            have hp3 := s3 _ _ hp
            have li : acc.length < sizeLine := Nat.lt_of_le_of_lt l3 (Nat.lt_of_lt_of_le (Nat.lt_of_lt_of_le hi (show xs.length ≤ 20 by omega)) (by decide))
            have no : ∀ (P1 : List V → Prop), ¬ P1 [.str (if Sof ps cut y = true then "in" else "out"), .int y, .int h] → ¬ ∃ p' t', V.ref p = .ref p' ∧ G0 p' = some (.tup t') ∧ P1 t' := fun P1 hn ⟨p', t', e1, e2, e3⟩ => by
              rw [← V.ref.inj e1, hp] at e2
              rw [← HO.tup.inj (Option.some.inj e2)] at e3
              exact hn e3
            refine ⟨rfl, ?_⟩
            refine ⟨_, rfl, p, _, _, _, rfl, rfl, SqT.of hp3, (by rfl), ?_⟩
            cases hS : Sof ps cut y with
            | true =>
              rw [hS] at hp3
              refine ⟨rfl, _, rfl, iteT ?_⟩
              refine ⟨_, rfl, p, _, _, _, rfl, rfl, SqT.of hp3, (by rfl), acc.map V.int, e3, by rw [List.length_map]; exact li, fun b o g => ?_, acc ++ [y], ?_, ?_, fun z hz => ?_, fun _ => ?_⟩
              · rw [upd_ne (ne_of_none g hD1)]
                exact s3 _ _ g
              · rw [upd_same, List.map_append]
                rfl
              · rw [List.length_append]
                exact Nat.succ_le_succ l3
              · rcases List.mem_append.mp hz with q | q
                · exact m3 z q
                · rw [List.mem_singleton.mp q]
                  exact ⟨hy, hS⟩
              · rw [List.length_append]
                exact Nat.succ_pos _
            | false =>
              rw [hS] at no
              refine ⟨rfl, _, rfl, iteF ⟨s3, acc, e3, Nat.le_succ_of_le l3, m3, fun z => k3 ?_⟩⟩
              rcases z.one hx with q | q
              · exact q
              · refine absurd q (no _ ?_)
                rintro ⟨u, v, w⟩
                exact absurd (V.str.inj (List.cons.inj w).1) (by decide)
          · rintro G1 ⟨s1, bs, e1, l1, m1, k1⟩
            rw [List.take_of_length_le (Nat.le_refl _)] at k1
            have k1' := k1 hI
            have B1 := B.same s1
            have F1 := B.fr hD1
            have vn1 := s1 _ _ vn
            have ha1 : AllT G1 (Dok ps (Sof ps cut)) xs := ha.tl fun b t e => s1 _ _ e
            refine ⟨_, rfl, pn, rfl, ⟨_, SqL.of vn1⟩, fun D2 hD2 => ?_⟩
            refine lc_it walk_list (fun i H' => Same G1 H' ∧ ∃ acc : List Int, H' D2 = some (.lst (acc.map V.int)) ∧ acc.length ≤ i ∧ (∀ x ∈ acc, x ∈ ps ∧ Sof ps cut x = false) ∧ (Has G1 OutT (xs.take i) → 0 < acc.length)) ⟨same_new hD2, [], upd_same, Nat.le_refl _, fun x hx => (by cases hx), fun ⟨v, hv, _⟩ => (by cases hv)⟩ (fun i H' _ q => SqL.of (q.1 _ _ vn1)) ?_ ?_
            · rintro i x H3 H4 hi ⟨s3, acc, e3, l3, m3, k3⟩ ⟨rfl, hx⟩
              obtain ⟨p, tt, rfl, hp, y, h, rfl, hy, y0, y9⟩ := ha1 x (List.mem_of_getElem? hx)
              have hp3 := s3 _ _ hp
              have li : acc.length < sizeLine := Nat.lt_of_le_of_lt l3 (Nat.lt_of_lt_of_le (Nat.lt_of_lt_of_le hi (show xs.length ≤ 20 by omega)) (by decide))
              have no : ∀ (P1 : List V → Prop), ¬ P1 [.str (if Sof ps cut y = true then "in" else "out"), .int y, .int h] → ¬ ∃ p' t', V.ref p = .ref p' ∧ G1 p' = some (.tup t') ∧ P1 t' := fun P1 hn ⟨p', t', e1, e2, e3⟩ => by
                rw [← V.ref.inj e1, hp] at e2
                rw [← HO.tup.inj (Option.some.inj e2)] at e3
                exact hn e3
              refine ⟨rfl, ?_⟩
              refine ⟨_, rfl, p, _, _, _, rfl, rfl, SqT.of hp3, (by rfl), ?_⟩
              cases hS : Sof ps cut y with
              | false =>
                rw [hS] at hp3
                refine ⟨rfl, _, rfl, iteT ?_⟩
                refine ⟨_, rfl, p, _, _, _, rfl, rfl, SqT.of hp3, (by rfl), acc.map V.int, e3, by rw [List.length_map]; exact li, fun b o g => ?_, acc ++ [y], ?_, ?_, fun z hz => ?_, fun _ => ?_⟩
                · rw [upd_ne (ne_of_none g hD2)]
                  exact s3 _ _ g
                · rw [upd_same, List.map_append]
                  rfl
                · rw [List.length_append]
                  exact Nat.succ_le_succ l3
                · rcases List.mem_append.mp hz with q | q
                  · exact m3 z q
                  · rw [List.mem_singleton.mp q]
                    exact ⟨hy, hS⟩
                · rw [List.length_append]
                  exact Nat.succ_pos _
              | true =>
                rw [hS] at no
                refine ⟨rfl, _, rfl, iteF ⟨s3, acc, e3, Nat.le_succ_of_le l3, m3, fun z => k3 ?_⟩⟩
                rcases z.one hx with q | q
                · exact q
                · refine absurd q (no _ ?_)
                  rintro ⟨u, v, w⟩
                  exact absurd (V.str.inj (List.cons.inj w).1) (by decide)
            · rintro G2 ⟨s2, es, e2, l2, m2, k2⟩
              rw [List.take_of_length_le (Nat.le_refl _)] at k2
              have tl := s1.trans s2
              have k2' := k2 (hO.tl fun b t e => s1 _ _ e)
              exact ⟨_, _, rfl, po, pf, pn, D1, D2, many, long, wide, late, cut, ps, bs, es, sort, xs, rfl, hm, hmp, hl, B1.same s2, Ff, Fn, n5, n6', n7', tl _ _ vf, tl _ _ vn, ha.tl fun b t e => tl _ _ e, hI.tl fun b t e => tl _ _ e, hO.tl fun b t e => tl _ _ e, hx2, hxd,
                ⟨F1, s2 _ _ e1, k1', by omega, fun x hx => (m1 x hx).1⟩, ⟨B1.fr hD2, e2, k2', by omega, fun x hx => (m2 x hx).1⟩, (ne_of_none vf hD1).symm, (ne_of_none (s1 _ _ vf) hD2).symm, fun x hx => (m1 x hx).2, fun x hx => (m2 x hx).2⟩
        · rintro σ0 G0 ⟨po, pf, pn, pb, pe, many, long, wide, late, cut, ps, bs, es, sort, xs, rfl, hm, hmp, hl, B, Ff, Fn, n5, n6', n7', vf, vn, ha, hI, hO, hx2, hxd, X, Y, nbf, nef, hbs, hes⟩
          have lenps := hm.len
          have lm20 := hm.m20
          have lm2 := hm.m2
          refine ⟨MD 30 a l H N 1000 places full doors, ?_, ?_⟩
          · refine ⟨_, rfl, a, l, _, 5, rfl, B.t, by omega, by omega, by decide, by decide, fun G1 d pd rd b1 S1 => ?_⟩
            have W0 : Kept a l H po pf pn pb pe ps bs es xs G0 (N + 200) G0 := ⟨B, vn, TL.refl, X, Y, Fn⟩
            refine ⟨_, _, rfl, rfl, _, rfl, by omega, by omega, ?_⟩
            refine for_range (LD a l H (N + 201) po pf pn pb pe ps bs es xs G0 (fun σ => ∃ k line, σ = sgA a po pf pn places full doors many long wide late cut k sort (some (.ref pb)) (some (.ref pe)) line none none none none none none none)) ⟨⟨_, _, rfl⟩, (W0.draw b1 S1).mono (by omega), [], b1 _ _ Ff.na Ff.nl vf, ⟨Nat.zero_le _, fun z => absurd z (by decide)⟩, AllT.nil⟩ (fun i σ H1 hi w => ?_) (fun σ H1 w => ?_)
            · obtain ⟨⟨k0, line0, rfl⟩, W, fs, hf, lf, af⟩ := w
              have hi6 : i < 6 := by omega
              refine ⟨_, rfl, _, rfl, a, l, pb, _, _, rfl, W.b.t, by omega, by omega, W.x.r.na, W.x.r.nl, W.x.h, by rw [List.length_map]; exact W.x.n, by rw [List.length_map]; exact Nat.le_trans W.x.m (by decide), fun H2 v0 hv0 b2 S2 => ?_⟩
              obtain ⟨x0, hx0, rfl⟩ := List.mem_map.mp hv0
              have W2 := W.draw b2 S2
              have f2 := b2 _ _ Ff.na Ff.nl hf
              have a2 := af.tl (b2.tl W.b.t)
              refine ⟨(by show 1 ≤ sizeLine; decide), fun t1 h1 => ?_⟩
              have W3 := W2.new (o := .lst [.int x0]) h1
              have r1 := W2.b.fr h1
              have f3 := same_new (o := .lst [.int x0]) h1 _ _ f2
              have a3 := a2.tl (TL.new (o := .lst [.int x0]) h1)
              refine ⟨_, rfl, _, rfl, a, l, po, _, _, rfl, W3.b.t, by omega, by omega, W3.b.r.na, W3.b.r.nl, W3.b.o, by rw [List.length_map]; omega, fun H4 q ys pm b4 fq e4 S4 => ?_⟩
              obtain ⟨qs, rfl, pq⟩ := perm_ints pm
              have W4 := W3.draw b4 S4
              have f4 := b4 _ _ Ff.na Ff.nl f3
              have a4 := a3.tl (b4.tl W3.b.t)
              have rq : Fr a l H q := by
                have z := W3.b.fr fq
                exact z
              have t14 := b4 _ _ r1.na r1.nl (upd_same : upd H2 t1 (.lst [.int x0]) t1 = _)
              refine ⟨_, rfl, (by show 5 ≤ sizeLine; decide), fun t2 h2 => ?_⟩
              have W5 := W4.new (o := .lst [.int 0, .int 0, .int 1, .int 1, .int 2]) h2
              have r2 := W4.b.fr h2
              have s2 := same_new (o := .lst [.int 0, .int 0, .int 1, .int 1, .int 2]) h2
              refine ⟨a, l, t2, _, _, rfl, W5.b.t, by omega, by omega, r2.na, r2.nl, upd_same, by decide, by decide, fun H6 v2 hv2 b6 S6 => ?_⟩
              obtain ⟨c, rfl, c0, c2⟩ : ∃ i : Int, v2 = .int i ∧ 0 ≤ i ∧ i ≤ 2 := by
                simp only [List.mem_cons, List.not_mem_nil, or_false] at hv2
                rcases hv2 with rfl | rfl | rfl | rfl | rfl
                all_goals exact ⟨_, rfl, by decide, by decide⟩
              have W6 := W5.draw b6 S6
              have f6 := b6 _ _ Ff.na Ff.nl (s2 _ _ f4)
              have a6 := (a4.tl (TL.new (o := .lst [.int 0, .int 0, .int 1, .int 1, .int 2]) h2)).tl (b6.tl W5.b.t)
              have t16 := b6 _ _ r1.na r1.nl (s2 _ _ t14)
              have e6 := b6 _ _ rq.na rq.nl (s2 _ _ e4)
              refine ⟨c, rfl, q, _, rfl, SqL.of e6, fun t3 h3 => ?_⟩
              rw [cut_to _ c0, List.map_take.symm]
              have W7 := W6.new (o := .lst ((qs.take c.toNat).map V.int)) h3
              have s3 := same_new (o := .lst ((qs.take c.toNat).map V.int)) h3
              refine ⟨t1, t3, _, _, rfl, rfl, s3 _ _ t16, upd_same, by rw [List.length_map, List.length_take]; exact Nat.le_trans (Nat.add_le_add_left (Nat.min_le_left _ _) _) (Nat.le_trans (show 1 + c.toNat ≤ 3 by omega) (by decide)), fun pl hpl => ?_⟩
              have eL : [V.int x0] ++ (qs.take c.toNat).map V.int = (x0 :: qs.take c.toNat).map V.int := rfl
              rw [eL]
              have hL : ∀ z ∈ (x0 :: qs.take c.toNat), z ∈ ps := fun z hz => by
                rcases List.mem_cons.mp hz with rfl | q
                · exact W.x.s _ hx0
                · exact pq.mem_iff.mp (List.mem_of_mem_take q)
              have lL : (x0 :: qs.take c.toNat).length ≤ 3 := by
                rw [List.length_cons, List.length_take]
                omega
              have hL0 : (x0 :: qs.take c.toNat)[0]? = some x0 := rfl
              generalize (x0 :: qs.take c.toNat) = L at hL lL hL0 ⊢
              have W8 := W7.new (o := .lst (L.map V.int)) hpl
              have rl := W7.b.fr hpl
              have s4 := same_new (o := .lst (L.map V.int)) hpl
              have f8 := s4 _ _ (s3 _ _ f6)
              have a8 := (a6.tl (TL.new (o := .lst ((qs.take c.toNat).map V.int)) h3)).tl (TL.new (o := .lst (L.map V.int)) hpl)
              have npf : pf ≠ pl := ne_of_none (s3 _ _ f6) hpl
              have npo : po ≠ pl := ne_of_none W7.b.o hpl
              have npn : pn ≠ pl := ne_of_none W7.n hpl
              have npb : pb ≠ pl := ne_of_none W7.x.h hpl
              have npe : pe ≠ pl := ne_of_none W7.y.h hpl
              refine ⟨_, rfl, .inl ⟨rfl, _, SqL.of upd_same⟩, _, rfl, _, rfl, a, l, pe, _, _, rfl, W8.b.t, by omega, by omega, W8.y.r.na, W8.y.r.nl, W8.y.h, by rw [List.length_map]; exact W8.y.n, by rw [List.length_map]; exact Nat.le_trans W8.y.m (by decide), fun H9 v9 hv9 b9 S9 => ?_⟩
              obtain ⟨y0, hy0, rfl⟩ := List.mem_map.mp hv9
              have W9 := W8.draw b9 S9
              have f9 := b9 _ _ Ff.na Ff.nl f8
              have a9 := a8.tl (b9.tl W8.b.t)
              have l9 := b9 _ _ rl.na rl.nl (upd_same : upd _ pl (.lst (L.map V.int)) pl = _)
              refine ⟨pl, _, _, rfl, rfl, l9, by rw [List.length_map]; exact Nat.lt_of_le_of_lt lL (by decide), ?_⟩
              have eL2 : L.map V.int ++ [V.int y0] = (L ++ [y0]).map V.int := by rw [List.map_append]; rfl
              rw [eL2]
              have hL2 : ∀ z ∈ L ++ [y0], z ∈ ps := fun z hz => by
                rcases List.mem_append.mp hz with q | q
                · exact hL z q
                · rw [List.mem_singleton.mp q]
                  exact W.y.s _ hy0
              have lL2 : (L ++ [y0]).length ≤ 4 := by
                rw [List.length_append]
                exact Nat.succ_le_succ lL
              have nb : Nb (L ++ [y0]) L.length := by
                refine nb_of (x := x0) (y := y0) ?_ ?_ fun z => ?_
                · match L, hL0 with
                  | _ :: _, h => exact h
                · simp
                · have z1 := hbs x0 hx0
                  rw [z, hes y0 hy0] at z1
                  cases z1
              have nbl : (L ++ [y0]).length = L.length + 1 := by rw [List.length_append, List.length_singleton]
              generalize L.length = nL at nb nbl
              generalize (L ++ [y0]) = L' at hL2 lL2 nb nbl ⊢
              have W10 := (W9.set (o := .lst (L'.map V.int)) rl l9 npo.symm npn.symm npb.symm npe.symm).mono (show _ ≤ N + 201 + 110 * ((i + 1 : Nat) : Int) by omega)
              have l10 : upd H9 pl (.lst (L'.map V.int)) pl = some (.lst (L'.map V.int)) := upd_same
              have f10 : upd H9 pl (.lst (L'.map V.int)) pf = some (.lst fs) := by
                rw [upd_ne npf]
                exact f9
              have a10 := a9.tl (TL.set (o := .lst (L'.map V.int)) l9)
              generalize upd H9 pl (.lst (L'.map V.int)) = H10 at W10 l10 f10 a10 ⊢
              clear W9 W8 W7 W6 W5 W4 W3 W2 W a9 a8 a6 a4 a3 a2 f9 f8 f6 f4 f3 f2 hf l9 b9 S9 b6 S6 b4 S4 b2 S2 e6 t16 e4 t14 s4 s3 s2
              refine ⟨_, rfl, .inl ⟨rfl, _, SqL.of f10⟩, _, rfl, _, rfl, _, rfl, pl, _, rfl, SqL.of l10, fun p4 h4 => ?_⟩
              rw [cut_from _ (by decide)]
              have W11 := W10.new (o := .lst ((L'.map V.int).drop (Int.toNat 1))) h4
              have s5 := same_new (o := .lst ((L'.map V.int).drop (Int.toNat 1))) h4
              have f11 := s5 _ _ f10
              have a11 := a10.tl (TL.new (o := .lst ((L'.map V.int).drop (Int.toNat 1))) h4)
              refine ⟨pl, p4, _, _, rfl, SqL.of (s5 _ _ l10), SqL.of upd_same, fun D hD => ?_⟩
              refine lc_it (walk_zip rfl) (fun i H' => Same _ H' ∧ ∃ acc, H' D = some (.lst acc) ∧ (acc.length ≤ i ∧ (Nb L' i → 0 < acc.length)) ∧ AllT H' (Pok ps) acc) ⟨same_new hD, [], upd_same, ⟨Nat.le_refl _, fun ⟨k, _, _, z, _⟩ => absurd z (Nat.not_lt_zero _)⟩, AllT.nil⟩ (fun i H' _ q => ⟨SqL.of (q.1 _ _ (s5 _ _ l10)), SqL.of (q.1 _ _ upd_same)⟩) ?_ ?_
              · rintro j x H12 H13 hj ⟨s12, acc, e12, l12, a12⟩ ⟨t, x1, y1, rfl, ht, rfl, hx, hy⟩
                have hx' := List.mem_of_getElem? hx
                have hy' := List.mem_of_mem_drop (List.mem_of_getElem? hy)
                obtain ⟨u, hu, rfl⟩ := List.mem_map.mp hx'
                obtain ⟨v, hv, rfl⟩ := List.mem_map.mp hy'
                have s13 := same_new (o := .tup [V.int u, V.int v]) ht
                have lj : acc.length < 4 := by
                  have z : j < min (L'.map V.int).length ((L'.map V.int).drop (Int.toNat 1)).length := hj
                  rw [List.length_map] at z
                  omega
                have nD : ∀ {b : Addr} {o : HO}, upd H10 p4 (.lst ((L'.map V.int).drop (Int.toNat 1))) b = some o → b ≠ D := fun g => ne_of_none g hD
                refine ⟨t, _, rfl, SqT.of upd_same, rfl, _, _, rfl, _, _, rfl, rfl, rfl, _, rfl, _, rfl, rfl, _, rfl, ite2 (fun hc => ?_) (fun hc => ?_)⟩
                · have huv : u ≠ v := fun z => by
                    rw [z, decide_eq_true rfl] at hc
                    cases hc
                  refine ⟨_, rfl, _, rfl, (by show 2 ≤ sizeLine; decide), fun t5 h5 => ?_⟩
                  have s14 := same_new (o := .tup [V.int u, V.int v]) h5
                  have e14 := s14 _ _ (s13 _ _ e12)
                  refine ⟨acc, e14, Nat.lt_trans lj (by decide), fun b o g => ?_, acc ++ [.ref t5], upd_same, ⟨by rw [List.length_append]; exact Nat.succ_le_succ l12.1, fun _ => by rw [List.length_append]; exact Nat.succ_pos _⟩, ?_⟩
                  · rw [upd_ne (nD g)]
                    exact s14 _ _ (s13 _ _ (s12 _ _ g))
                  · exact (((a12.tl (TL.new ht)).tl (TL.new h5)).tl (TL.set e14)).app (AllT.one (TL.set e14 _ _ upd_same) ⟨u, v, rfl, hL2 _ hu, hL2 _ hv, huv⟩)
                · exact ⟨fun b o g => s13 _ _ (s12 _ _ g), acc, s13 _ _ e12, ⟨Nat.le_succ_of_le l12.1, fun z => l12.2 (z.down fun u' v' h1 h2 => by
                    have e1 : (L'.map V.int)[j]? = some (.int u) := hx
                    have e2 : ((L'.map V.int).drop (Int.toNat 1))[j]? = some (.int v) := hy
                    rw [List.getElem?_map, h1] at e1
                    rw [show Int.toNat 1 = 1 from rfl, List.getElem?_drop, Nat.add_comm 1 j, List.getElem?_map, h2] at e2
                    have z1 := V.int.inj (Option.some.inj e1)
                    have z2 := V.int.inj (Option.some.inj e2)
                    have z3 : u = v := by simpa using hc
                    rw [z1, z2, z3])⟩, a12.tl (TL.new ht)⟩
              · rintro H12 ⟨s12, acc, e12, l12, a12⟩
                have W12 := W11.same s12
                have f12 := s12 _ _ f11
                obtain ⟨l12, k12⟩ := l12
                have eM : min (L'.map V.int).length ((L'.map V.int).drop (Int.toNat 1)).length = nL := by
                  rw [List.length_drop, List.length_map]
                  have z2 : (Int.toNat 1) = 1 := rfl
                  omega
                have k12 : 0 < acc.length := k12 (by rw [eM]; exact nb)
                have l12' : acc.length ≤ 3 := by
                  have z : acc.length ≤ min (L'.map V.int).length ((L'.map V.int).drop (Int.toNat 1)).length := l12
                  rw [List.length_drop, List.length_map] at z
                  have z2 : (Int.toNat 1) = 1 := rfl
                  omega
                refine ⟨pf, D, fs, acc, rfl, rfl, f12, e12, Nat.le_trans (show fs.length + acc.length ≤ 40 by omega) (by decide), ?_⟩
                refine ⟨⟨_, _, rfl⟩, W12.set Ff f12 n5.symm n7' nbf.symm nef.symm, fs ++ acc, upd_same, by rw [List.length_append]; omega, ?_⟩
                exact ((a11.tl fun b t e => s12 _ _ e).tl (TL.set f12)).app (a12.tl (TL.set f12))
            · obtain ⟨⟨k0, line0, rfl⟩, W, fs, hf, lf, af⟩ := w
              exact ⟨po, pf, pn, pb, pe, many, long, wide, late, cut, ps, bs, es, k0, sort, line0, none, none, xs, fs, G0, rfl, hm, hmp, hl, Ff, n5, n6', n7', ha, hI, hO, hx2, hxd, W.mono (by omega), nbf, nef, hf, by omega, af⟩
          · rintro σ0 H0 ⟨po, pf, pn, pb, pe, many, long, wide, late, cut, ps, bs, es, k0, sort, line0, one0, other0, xs, fs, G0, rfl, hm, hmp, hl, Ff, n5, n6', n7', ha, hI, hO, hx2, hxd, W, nbf, nef, hf, lf, af⟩
            have lenps := hm.len
            have lm20 := hm.m20
            have lm2 := hm.m2
            refine ⟨MD 33 a l H N 1400 places full doors, ?_, ?_⟩
            · refine ⟨_, rfl, a, l, _, 3, rfl, W.b.t, by omega, by omega, by decide, by decide, fun G1 d pd rd b1 S1 => ?_⟩
              refine ⟨_, rfl, by omega, by omega, ?_⟩
              refine for_range (LE a l H (N + 1001) po pf pn pb pe ps bs es xs G0 (fun σ => ∃ k one other, σ = sgA a po pf pn places full doors many long wide late cut k sort (some (.ref pb)) (some (.ref pe)) line0 one other none none none none none)) ⟨⟨_, _, _, rfl⟩, (W.draw b1 S1).mono (by omega), fs, b1 _ _ Ff.na Ff.nl hf, lf, af.tl (b1.tl W.b.t)⟩ (fun i σ H1 hi w => ?_) (fun σ H1 w => ?_)
              · clear hf lf af W fs
                obtain ⟨⟨k0, one, other, rfl⟩, W, fs, hf, lf, af⟩ := w
                have hi3 : i < 3 := by omega
                refine ⟨_, rfl, _, rfl, a, l, po, _, _, rfl, W.b.t, by omega, by omega, W.b.r.na, W.b.r.nl, W.b.o, by rw [List.length_map]; omega, fun H4 q ys pm b4 fq e4 S4 => ?_⟩
                obtain ⟨qs, rfl, pq⟩ := perm_ints pm
                have W4 := W.draw b4 S4
                have f4 := b4 _ _ Ff.na Ff.nl hf
                have a4 := af.tl (b4.tl W.b.t)
                have rq : Fr a l H q := W.b.fr fq
                have lq : qs.length = ps.length := pq.length_eq
                obtain ⟨x, y, r, rfl⟩ : ∃ x y r, qs = x :: y :: r := by
                  match qs, lq with
                  | [], lq => simp at lq; omega
                  | [x], lq => simp at lq; omega
                  | x :: y :: r, _ => exact ⟨x, y, r, rfl⟩
                have hx : x ∈ ps := pq.mem_iff.mp List.mem_cons_self
                have hy : y ∈ ps := pq.mem_iff.mp (List.mem_cons_of_mem _ List.mem_cons_self)
                have nxy : x ≠ y := fun z => by
                  have nd := pq.nodup_iff.mpr hm.nd
                  rw [z] at nd
                  exact (List.nodup_cons.mp nd).1 List.mem_cons_self
                refine ⟨_, rfl, q, _, rfl, SqL.of e4, fun t3 h3 => ?_⟩
                rw [cut_to _ (by decide)]
                have W5 := W4.new (o := .lst (List.take (Int.toNat 2) (List.map V.int (x :: y :: r)))) h3
                have s5 := same_new (o := .lst (List.take (Int.toNat 2) (List.map V.int (x :: y :: r)))) h3
                have g5 : upd H4 t3 (.lst (List.take (Int.toNat 2) (List.map V.int (x :: y :: r)))) t3 = some (.lst [.int x, .int y]) := upd_same
                refine ⟨t3, _, rfl, SqL.of g5, rfl, _, _, rfl, _, _, rfl, rfl, ?_⟩
                have f5 := s5 _ _ f4
                have a5 := a4.tl (TL.new (o := .lst (List.take (Int.toNat 2) (List.map V.int (x :: y :: r)))) h3)
                refine ⟨_, rfl, .inl ⟨rfl, _, SqL.of f5⟩, _, rfl, _, rfl, (by show 2 ≤ sizeLine; decide), fun t6 h6 => ?_⟩
                have W6 := W5.new (o := .tup [.int x, .int y]) h6
                have f6 := same_new (o := .tup [.int x, .int y]) h6 _ _ f5
                have a6 := a5.tl (TL.new (o := .tup [.int x, .int y]) h6)
                refine ⟨pf, _, _, rfl, rfl, f6, Nat.lt_of_le_of_lt (show fs.length ≤ 33 by omega) (by decide), ?_⟩
                refine ⟨⟨_, _, _, rfl⟩, (W6.set Ff f6 n5.symm n7' nbf.symm nef.symm).mono (by omega), fs ++ [.ref t6], upd_same, by rw [List.length_append, List.length_singleton]; omega, ?_⟩
                exact (a6.tl (TL.set f6)).app (AllT.one (TL.set f6 _ _ upd_same) ⟨x, y, rfl, hx, hy, nxy⟩)
              · obtain ⟨⟨k1, one, other, rfl⟩, W', fs', hf', lf', af'⟩ := w
                exact ⟨po, pf, pn, pb, pe, many, long, wide, late, cut, ps, bs, es, k1, sort, line0, one, other, xs, fs', G0, rfl, hm, hmp, hl, Ff, n5, n6', n7', ha, hI, hO, hx2, hxd, W'.mono (by omega), nbf, nef, hf', by omega, af'⟩
            · clear hf lf af W fs ha hI hO
              rintro σ0 H0 ⟨po, pf, pn, pb, pe, many, long, wide, late, cut, ps, bs, es, k0, sort, line0, one0, other0, xs, fs, G0, rfl, hm, hmp, hl, Ff, n5, n6', n7', ha, hI, hO, hx2, hxd, W, nbf, nef, hf, lf, af⟩
              have lenps := hm.len
              have lm20 := hm.m20
              have lm2 := hm.m2
              refine ⟨fun σ H' => ∃ rd, MF a l H N 1600 places full doors σ H' ∧ σ[19]? = some (some (.ref rd)) ∧ H' rd = some (.lst []), ?_, ?_⟩
              · refine ⟨Nat.zero_le _, fun pr hpr => ?_⟩
                have W1 := W.new (o := .lst []) hpr
                have s1 := same_new (o := .lst []) hpr
                have rr := W.b.fr hpr
                have nof := ne_of_none W.b.o hpr
                have nnf := ne_of_none W.n hpr
                have nbf' := ne_of_none W.x.h hpr
                have nef' := ne_of_none W.y.h hpr
                refine ⟨_, rfl, _, rfl, _, rfl, _, rfl, _, rfl, a, l, po, _, _, rfl, W1.b.t, by omega, by omega, W1.b.r.na, W1.b.r.nl, W1.b.o, by rw [List.length_map]; omega, fun H4 q ys pm b4 fq e4 S4 => ?_⟩
                obtain ⟨qs, rfl, pq⟩ := perm_ints pm
                have W4 := W1.draw b4 S4
                have rq : Fr a l H q := W1.b.fr fq
                have nrq : pr ≠ q := ne_of_none (H := upd H0 pr (.lst [])) upd_same fq
                have g4 := b4 _ _ rr.na rr.nl (upd_same : upd H0 pr (.lst []) pr = _)
                have f4 := b4 _ _ Ff.na Ff.nl (s1 _ _ hf)
                have a4 := (af.tl (TL.new (o := .lst []) hpr)).tl (b4.tl W1.b.t)
                refine ⟨(by show 3 ≤ sizeLine; decide), fun t1 h1 => ?_⟩
                have W5 := W4.new (o := .lst [.ref po, .ref po, .ref q]) h1
                have s5 := same_new (o := .lst [.ref po, .ref po, .ref q]) h1
                have r1 := W4.b.fr h1
                refine ⟨a, l, t1, _, _, rfl, W5.b.t, by omega, by omega, r1.na, r1.nl, upd_same, (by show 0 < 3; decide), (by show 3 ≤ 1000; decide), fun H6 v hv b6 S6 => ⟨_, _, rfl, ?_⟩⟩
                have W6 := W5.draw b6 S6
                have hk : ∃ pk rs, v = .ref pk ∧ Rnk a l H pk ps rs H6 ∧ pr ≠ pk := by
                  simp only [List.mem_cons, List.not_mem_nil, or_false] at hv
                  have c1 : Rnk a l H po ps ps H6 := ⟨W6.b.r, W6.b.o, .refl _⟩
                  rcases hv with rfl | rfl | rfl
                  · exact ⟨po, ps, rfl, c1, nof.symm⟩
                  · exact ⟨po, ps, rfl, c1, nof.symm⟩
                  · exact ⟨q, qs, rfl, ⟨rq, b6 _ _ rq.na rq.nl (s5 _ _ e4), pq⟩, nrq⟩
                obtain ⟨pk, rs, rfl, R, nrk⟩ := hk
                have g6 := b6 _ _ rr.na rr.nl (s5 _ _ g4)
                exact ⟨pr, ⟨po, pf, pn, pb, pe, pr, pk, many, long, wide, late, cut, ps, bs, es, rs, k0, sort, line0, one0, other0, none, xs, fs, [], G0, rfl, hm, hmp, hl, rr, nof.symm, nnf.symm, nbf'.symm, nef'.symm, nrk, ha, hI, hO, hx2, hxd, W6.mono (by omega), b6 _ _ Ff.na Ff.nl (s5 _ _ f4), lf, (a4.tl (TL.new h1)).tl (b6.tl W5.b.t), R, g6, hf0, AllT.nil⟩, rfl, g6⟩
              · clear hf lf af W fs ha hI hO
                rintro σ0 H0 ⟨rd0, ⟨po, pf, pn, pb, pe, pr, pk, many, long, wide, late, cut, ps, bs, es, rs, k0, sort, line0, one0, other0, len0, xs, fs, rd, G0, rfl, hm, hmp, hl, Fr', nro, nrn, nrb, nre, nrk, ha, hI, hO, hx2, hxd, W, hf, lf, af, R, hr0, lr, ar⟩, erd, hrd⟩
                obtain rfl : pr = rd0 := V.ref.inj (Option.some.inj (Option.some.inj erd))
                obtain rfl : rd = [] := by
                  rw [hr0] at hrd
                  exact HO.lst.inj (Option.some.inj hrd)
                clear erd hrd
                have lenps := hm.len
                have lm20 := hm.m20
                have lm2 := hm.m2
                refine ⟨MG a l H N 1700 places full doors, ?_, ?_⟩
                · refine ⟨_, rfl, _, rfl, full, rfl, pf, _, rfl, SqL.of hf, fun q hq => ?_⟩
                  rw [cut_to _ hf0]
                  have W1 := W.new (o := .lst (fs.take full.toNat)) hq
                  have s1 := same_new (o := .lst (fs.take full.toNat)) hq
                  have rq := W.b.fr hq
                  have nrq : pr ≠ q := ne_of_none hr0 hq
                  have lq : (fs.take full.toNat).length ≤ 33 ∧ ((fs.take full.toNat).length : Int) ≤ full ∧ (1 ≤ full → 0 < (fs.take full.toNat).length) := by
                    rw [List.length_take]
                    omega
                  have aq : AllT (upd H0 q (.lst (fs.take full.toNat))) (Pok ps) (fs.take full.toNat) := (af.sub fun v hv => List.mem_of_mem_take hv).tl (TL.new hq)
                  have vq : upd H0 q (.lst (fs.take full.toNat)) q = some (.lst (fs.take full.toNat)) := upd_same
                  generalize fs.take full.toNat = fq at W1 s1 lq aq vq ⊢
                  generalize upd H0 q (.lst fq) = H1 at W1 s1 aq vq ⊢
                  refine ⟨q, rfl, ⟨_, SqL.of vq⟩, ?_⟩
                  refine for_list (xs := fq) (LG a l H (N + 1600) po pf pn pb pe pr pk q ps bs es rs xs fq G0 (fun σ => ∃ one other len, σ = sgA a po pf pn places full doors many long wide late cut k0 sort (some (.ref pb)) (some (.ref pe)) line0 one other (some (.ref pr)) (some (.ref pk)) len none none)) ⟨⟨_, _, _, rfl⟩, W1.mono (by omega), vq, aq, R.same s1, [], s1 _ _ hr0, rfl, AllT.nil⟩ (fun i σ H _ w => SqL.of w.q) (fun i x σ H2 hx w => ?_) (fun σ H2 w => ?_)
                  · clear W1 s1 aq vq R hr0 lr ar hf lf af W
                    obtain ⟨⟨one, other, len, rfl⟩, W, vq, aq, R, rd, hr0, lr, ar⟩ := w
                    have hi : i < 33 := Nat.lt_of_lt_of_le (List.getElem?_eq_some_iff.mp hx).1 lq.1
                    obtain ⟨p, tt, rfl, hp, u, v, rfl, hu, hv, nuv⟩ := aq x (List.mem_of_getElem? hx)
                    have l1 := hl.l1
                    have l2 := hl.l2
                    have w1 := hl.w1
                    have w2 := hl.w2
                    refine ⟨p, _, rfl, SqT.of hp, rfl, _, _, rfl, _, _, rfl, rfl, ?_⟩
                    refine ⟨_, rfl, _, rfl, _, _, rfl, rfl, a, l, _, _, rfl, W.b.t, by omega, by omega, by omega, by omega, fun H3 d d0 d1 b3 S3 => ?_⟩
                    have W3 := W.draw b3 S3
                    have R3 := R.draw b3
                    have vq3 := b3 _ _ rq.na rq.nl vq
                    have aq3 := aq.tl (b3.tl W.b.t)
                    have hr3 := b3 _ _ Fr'.na Fr'.nl hr0
                    have ar3 := ar.tl (b3.tl W.b.t)
                    refine ⟨fun σ' H' => H' = H3 ∧ ∃ d' : Int, 0 ≤ d' ∧ d' ≤ 5 ∧ (d' = 0 → rkOf rs u < rkOf rs v) ∧ σ' = sgA a po pf pn places full doors many long wide late cut k0 sort (some (.ref pb)) (some (.ref pe)) line0 (some (.int u)) (some (.int v)) (some (.ref pr)) (some (.ref pk)) (some (.int d')) none none, ?_, ?_⟩
                    · refine ⟨_, rfl, rfl, _, rfl, ite2 (fun hc => ?_) (fun hc => ?_)⟩
                      · have hu' : u ∈ rs := R3.p.mem_iff.mpr hu
                        have hv' : v ∈ rs := R3.p.mem_iff.mpr hv
                        obtain ⟨i1, i2⟩ := idx_ok hu'
                        obtain ⟨j1, j2⟩ := idx_ok hv'
                        refine ⟨_, rfl, .inl ⟨rfl, _, SqL.of R3.h⟩, _, rfl, pk, _, _, _, _, rfl, rfl, SqL.of R3.h, rfl, ints_flat rs, i1, (by show (u == u) = true; exact beq_self_eq_true u), i2, ?_⟩
                        refine ⟨_, rfl, .inl ⟨rfl, _, SqL.of R3.h⟩, _, rfl, pk, _, _, _, _, rfl, rfl, SqL.of R3.h, rfl, ints_flat rs, j1, (by show (v == v) = true; exact beq_self_eq_true v), j2, ?_⟩
                        refine ⟨_, _, rfl, rfl, _, rfl, ite2 (fun hc2 => ?_) (fun hc2 => ?_)⟩
                        · exact ⟨rfl, 1, by decide, by decide, fun z => absurd z (by decide), rfl⟩
                        · refine ⟨_, rfl, rfl, d, d0, by omega, fun _ => idx_lt hu' hv' nuv fun z => ?_, rfl⟩
                          have z2 : ((rs.idxOf u : Nat) : Int) > ((rs.idxOf v : Nat) : Int) := by omega
                          rw [decide_eq_true z2] at hc2
                          exact hc2 rfl
                      · refine ⟨_, rfl, rfl, d, d0, by omega, fun z => ?_, rfl⟩
                        rw [z, decide_eq_true rfl] at hc
                        exact absurd rfl hc
                    · rintro σ' H' ⟨rfl, d', e0, e5, ek, rfl⟩
                      refine ⟨_, rfl, .inl ⟨rfl, _, SqL.of hr3⟩, _, rfl, _, rfl, _, rfl, _, rfl, _, rfl, a, l, _, _, rfl, S3, by omega, by omega, by omega, by omega, fun H5 e f0 f1 b5 S5 => ?_⟩
                      have W5 := W3.draw b5 S5
                      have hr5 := b5 _ _ Fr'.na Fr'.nl hr3
                      refine ⟨_, _, rfl, rfl, (by show 4 ≤ sizeLine; decide), fun t ht => ?_⟩
                      have s6 := same_new (o := .tup [.int u, .int v, .int d', .int (1 + e)]) ht
                      have W6 := W5.same s6
                      have hr6 := s6 _ _ hr5
                      have tl6 : TL H' (upd H5 t (.tup [.int u, .int v, .int d', .int (1 + e)])) := (b5.tl S3).trans (TL.new ht)
                      refine ⟨pr, _, _, rfl, rfl, hr6, by rw [lr]; exact Nat.lt_trans hi (by decide), ?_⟩
                      refine ⟨⟨_, _, _, rfl⟩, (W6.set Fr' hr6 nro nrn nrb nre).mono (by omega), ?_, (aq3.tl tl6).tl (TL.set hr6), ((R3.draw b5).same s6).set nrk, rd ++ [.ref t], upd_same, by rw [List.length_append, lr]; rfl, ?_⟩
                      · rw [upd_ne nrq.symm]
                        exact s6 _ _ (b5 _ _ rq.na rq.nl vq3)
                      · exact ((ar3.tl tl6).tl (TL.set hr6)).app (AllT.one (TL.set hr6 _ _ upd_same) ⟨u, v, d', _, rfl, hu, hv, nuv, e0, by omega, by omega, by omega, ek⟩)
                  · obtain ⟨⟨one, other, len, rfl⟩, W', vq', aq', R', rd', hr', lr', ar'⟩ := w
                    exact ⟨po, pf, pn, pb, pe, pr, pk, many, long, wide, late, cut, ps, bs, es, rs, k0, sort, line0, one, other, len, none, none, xs, rd', G0, rfl, hm, hmp, hl, Fr', nro, nrn, nrb, nre, nrk, ha, hI, hO, hx2, hxd, W'.mono (by omega), R', hr', by omega, ar'⟩
                · clear hf lf af W R hr0 lr ar ha hI hO
                  rintro σ0 H0 ⟨po, pf, pn, pb, pe, pr, pk, many, long, wide, late, cut, ps, bs, es, rs, k0, sort, line0, one0, other0, len0, cr0, at0, xs, rd, G0, rfl, hm, hmp, hl, Fr', nro, nrn, nrb, nre, nrk, ha, hI, hO, hx2, hxd, W, R, hr0, lr, ar⟩
                  have lenps := hm.len
                  have lm20 := hm.m20
                  have lm2 := hm.m2
                  have ll := hl.w1
                  have lw := hl.w2
                  refine ⟨MG a l H N 1850 places full doors, ?_, ?_⟩
                  · have skip : ∀ H1, Kept a l H po pf pn pb pe ps bs es xs G0 (N + 1850) H1 → Rnk a l H pk ps rs H1 → H1 pr = some (.lst rd) → AllT H1 (Rok ps (rkOf rs)) rd → MG a l H N 1850 places full doors (sgA a po pf pn places full doors many long wide late cut k0 sort (some (.ref pb)) (some (.ref pe)) line0 one0 other0 (some (.ref pr)) (some (.ref pk)) len0 cr0 at0) H1 := fun H1 W1 R1 h1 a1 =>
                      ⟨po, pf, pn, pb, pe, pr, pk, many, long, wide, late, cut, ps, bs, es, rs, k0, sort, line0, one0, other0, len0, cr0, at0, xs, rd, G0, rfl, hm, hmp, hl, Fr', nro, nrn, nrb, nre, nrk, ha, hI, hO, hx2, hxd, W1, R1, h1, lr, a1⟩
                    refine ⟨_, rfl, _, _, rfl, rfl, _, rfl, ite2 (fun hc1 => ?_) (fun hc1 => iteF (skip _ (W.mono (by omega)) R hr0 ar))⟩
                    refine ⟨_, rfl, _, _, rfl, rfl, _, rfl, ite2 (fun hc2 => ?_) (fun hc2 => iteF (skip _ (W.mono (by omega)) R hr0 ar))⟩
                    have m3 : many > 3 := of_decide_eq_true hc1
                    have f4 : full > 4 := of_decide_eq_true hc2
                    refine ⟨_, rfl, a, l, _, 2, rfl, W.b.t, by omega, by omega, by decide, by decide, fun H1 d d0 d1 b1 S1 => ?_⟩
                    have W1 := W.draw b1 S1
                    have R1 := R.draw b1
                    have h1 := b1 _ _ Fr'.na Fr'.nl hr0
                    have a1 := ar.tl (b1.tl W.b.t)
                    refine ⟨rfl, _, rfl, ite2 (fun hc3 => ?_) (fun hc3 => skip _ (W1.mono (by omega)) R1 h1 a1)⟩
                    clear skip
                    refine ⟨_, rfl, _, rfl, _, rfl, a, l, pb, _, _, rfl, W1.b.t, by omega, by omega, W1.x.r.na, W1.x.r.nl, W1.x.h, by rw [List.length_map]; exact W1.x.n, by rw [List.length_map]; exact Nat.le_trans W1.x.m (by decide), fun H2 v2 hv2 b2 S2 => ?_⟩
                    obtain ⟨x2, hx2', rfl⟩ := List.mem_map.mp hv2
                    have W2 := W1.draw b2 S2
                    have R2 := R1.draw b2
                    have h2 := b2 _ _ Fr'.na Fr'.nl h1
                    have a2 := a1.tl (b2.tl W1.b.t)
                    refine ⟨_, rfl, _, rfl, a, l, pe, _, _, rfl, W2.b.t, by omega, by omega, W2.y.r.na, W2.y.r.nl, W2.y.h, by rw [List.length_map]; exact W2.y.n, by rw [List.length_map]; exact Nat.le_trans W2.y.m (by decide), fun H3 v3 hv3 b3 S3 => ?_⟩
                    obtain ⟨x3, hx3, rfl⟩ := List.mem_map.mp hv3
                    have W3 := W2.draw b3 S3
                    have R3 := R2.draw b3
                    have h3 := b3 _ _ Fr'.na Fr'.nl h2
                    have a3 := a2.tl (b3.tl W2.b.t)
                    refine ⟨_, rfl, _, rfl, a, l, po, _, x2, x3, wide, ps, rfl, W3.b.t, by omega, by omega, W3.b.r.na, W3.b.r.nl, W3.b.o, hm.nd, by omega, by omega, W3.x.s _ hx2', W3.y.s _ hx3, ll, lw, fun H4 q ys b4 fq hq l5 aq S4 => ?_⟩
                    have W4 := W3.draw b4 S4
                    have R4 := R3.draw b4
                    have h4 := b4 _ _ Fr'.na Fr'.nl h3
                    have a4 := a3.tl (b4.tl W3.b.t)
                    have rq := W3.b.fr fq
                    refine ⟨_, rfl, _, rfl, _, rfl, _, rfl, _, rfl, _, _, rfl, rfl, a, l, _, _, rfl, S4, by omega, by omega, by omega, by omega, fun H5 e e0 e1 b5 S5 => ?_⟩
                    have W5 := W4.draw b5 S5
                    have R5 := R4.draw b5
                    have h5 := b5 _ _ Fr'.na Fr'.nl h4
                    have a5 := a4.tl (b5.tl W4.b.t)
                    have q5 := b5 _ _ rq.na rq.nl hq
                    have aq5 := (aq (rkOf rs)).tl (b5.tl W4.b.t)
                    refine ⟨_, rfl, pr, _, rfl, SqL.of h5, fun t ht => ?_⟩
                    rw [cut_to _ e0]
                    have s6 := same_new (o := .lst (rd.take e.toNat)) ht
                    have W6 := W5.same s6
                    have q6 := s6 _ _ q5
                    have lt : (rd.take e.toNat).length ≤ e.toNat := by
                      rw [List.length_take]
                      exact Nat.min_le_left _ _
                    refine ⟨q, t, _, _, rfl, rfl, q6, upd_same, Nat.le_trans (show ys.length + (rd.take e.toNat).length ≤ 200 by omega) (by decide), fun t2 ht2 => ?_⟩
                    have s7 := same_new (o := .lst (ys ++ rd.take e.toNat)) ht2
                    have W7 := W6.same s7
                    have r2 := W6.b.fr ht2
                    refine ⟨a, l, t2, _, _, rfl, W7.b.t, by omega, by omega, r2.na, r2.nl, upd_same, by rw [List.length_append]; omega, fun H8 p zs pm b8 f8 h8 S8 => ?_⟩
                    have W8 := W7.draw b8 S8
                    have tl8 : TL H5 H8 := ((TL.new ht).trans (TL.new ht2)).trans (b8.tl W7.b.t)
                    have R7 := (R5.same s6).same s7
                    refine ⟨po, pf, pn, pb, pe, p, pk, many, long, wide, late, cut, ps, bs, es, rs, k0, sort, line0, one0, other0, len0, _, at0, xs, zs, G0, rfl, hm, hmp, hl, W7.b.fr f8, (ne_of_none W7.b.o f8).symm, (ne_of_none W7.n f8).symm, (ne_of_none W7.x.h f8).symm, (ne_of_none W7.y.h f8).symm, (ne_of_none R7.h f8).symm, ha, hI, hO, hx2, hxd, W8.mono (by omega), R7.draw b8, h8, ?_, ?_⟩
                    · rw [pm.length_eq, List.length_append]
                      omega
                    · refine AllT.sub ((aq5.tl tl8).app ((a5.tl tl8).sub (ys := rd.take e.toNat) fun v hv => List.mem_of_mem_take hv)) fun v hv => pm.mem_iff.mp hv
                  · clear W R hr0 lr ar ha hI hO
                    rintro σ0 H0 ⟨po, pf, pn, pb, pe, pr, pk, many, long, wide, late, cut, ps, bs, es, rs, k0, sort, line0, one0, other0, len0, cr0, at0, xs, rd, G0, rfl, hm, hmp, hl, Fr', nro, nrn, nrb, nre, nrk, ha, hI, hO, hx2, hxd, W, R, hr0, lr, ar⟩
                    refine ⟨MG a l H N 1860 places full doors, ?_, ?_⟩
                    · have skip : ∀ H1, Kept a l H po pf pn pb pe ps bs es xs G0 (N + 1860) H1 → Rnk a l H pk ps rs H1 → H1 pr = some (.lst rd) → AllT H1 (Rok ps (rkOf rs)) rd → MG a l H N 1860 places full doors (sgA a po pf pn places full doors many long wide late cut k0 sort (some (.ref pb)) (some (.ref pe)) line0 one0 other0 (some (.ref pr)) (some (.ref pk)) len0 cr0 at0) H1 := fun H1 W1 R1 h1 a1 =>
                        ⟨po, pf, pn, pb, pe, pr, pk, many, long, wide, late, cut, ps, bs, es, rs, k0, sort, line0, one0, other0, len0, cr0, at0, xs, rd, G0, rfl, hm, hmp, hl, Fr', nro, nrn, nrb, nre, nrk, ha, hI, hO, hx2, hxd, W1, R1, h1, lr, a1⟩
                      refine ⟨_, rfl, a, l, _, 3, rfl, W.b.t, by omega, by omega, by decide, by decide, fun H1 d d0 d1 b1 S1 => ?_⟩
                      have W1 := W.draw b1 S1
                      have R1 := R.draw b1
                      have h1 := b1 _ _ Fr'.na Fr'.nl hr0
                      have a1 := ar.tl (b1.tl W.b.t)
                      refine ⟨rfl, _, rfl, ite2 (fun hc => ?_) (fun hc => iteF (skip _ (W1.mono (by omega)) R1 h1 a1))⟩
                      refine ⟨_, rfl, pr, _, rfl, .inl (SqL.of h1), _, _, rfl, rfl, _, rfl, ite2 (fun hc2 => ?_) (fun hc2 => skip _ (W1.mono (by omega)) R1 h1 a1)⟩
                      clear skip
                      have l2 : (rd.length : Int) > 2 := of_decide_eq_true hc2
                      refine ⟨_, rfl, _, rfl, pr, _, rfl, .inl (SqL.of h1), a, l, _, _, rfl, S1, by omega, by omega, by omega, by omega, fun H2 e e0 e1 b2 S2 => ?_⟩
                      have W2 := W1.draw b2 S2
                      have R2 := R1.draw b2
                      have h2 := b2 _ _ Fr'.na Fr'.nl h1
                      have a2 := a1.tl (b2.tl W1.b.t)
                      have he : e.toNat < rd.length := by omega
                      have hat : atI rd e = some rd[e.toNat] := at_of (j := e.toNat) (by omega) (List.getElem?_eq_getElem he)
                      obtain ⟨p, tt, ep, hp, x, y, dd, rr, rfl, hx, hy, nxy, z0, z9, r1, r10, zk⟩ := a2 rd[e.toNat] (List.getElem_mem he)
                      rw [ep] at hat
                      refine ⟨_, rfl, _, rfl, pr, _, _, _, rfl, rfl, SqL.of h2, hat, p, _, _, _, rfl, rfl, SqT.of hp, (by rfl), ?_⟩
                      refine ⟨_, rfl, _, rfl, pr, _, _, _, rfl, rfl, SqL.of h2, hat, p, _, _, _, rfl, rfl, SqT.of hp, (by rfl), ?_⟩
                      refine ⟨_, rfl, a, l, _, 4, rfl, S2, by omega, by omega, by decide, by decide, fun H3 g g0 g1 b3 S3 => ?_⟩
                      have W3 := W2.draw b3 S3
                      have R3 := R2.draw b3
                      have h3 := b3 _ _ Fr'.na Fr'.nl h2
                      have a3 := a2.tl (b3.tl W2.b.t)
                      have hp3 := b3.tl W2.b.t _ _ hp
                      refine ⟨_, _, rfl, rfl, _, rfl, _, rfl, pr, _, _, _, rfl, rfl, SqL.of h3, hat, p, _, _, _, rfl, rfl, SqT.of hp3, (by rfl), (by show 4 ≤ sizeLine; decide), fun t ht => ?_⟩
                      have s4 := same_new (o := .tup [.int x, .int y, .int (6 + g), .int rr]) ht
                      have W4 := W3.same s4
                      have h4 := s4 _ _ h3
                      refine ⟨_, rfl, _, rfl, pr, rd, e, e.toNat, rfl, rfl, h4, ixN_at e0 e1, ?_⟩
                      refine ⟨po, pf, pn, pb, pe, pr, pk, many, long, wide, late, cut, ps, bs, es, rs, k0, sort, line0, one0, other0, len0, cr0, _, xs, rd.set e.toNat (.ref t), G0, rfl, hm, hmp, hl, Fr', nro, nrn, nrb, nre, nrk, ha, hI, hO, hx2, hxd, (W4.set Fr' h4 nro nrn nrb nre).mono (by omega), (R3.same s4).set nrk, upd_same, by rw [List.length_set]; exact lr, ?_⟩
                      intro v hv
                      rcases List.mem_or_eq_of_mem_set hv with q | rfl
                      · exact ((a3.tl (TL.new ht)).tl (TL.set h4)) v q
                      · exact ⟨t, _, rfl, TL.set h4 _ _ upd_same, x, y, _, _, rfl, hx, hy, nxy, by omega, by omega, r1, r10, fun z => by omega⟩
                    · clear W R hr0 lr ar ha hI hO
                      rintro σ0 H0 ⟨po, pf, pn, pb, pe, pr, pk, many, long, wide, late, cut, ps, bs, es, rs, k0, sort, line0, one0, other0, len0, cr0, at0, xs, rd, G0, rfl, hm, hmp, hl, Fr', nro, nrn, nrb, nre, nrk, ha, hI, hO, hx2, hxd, W, R, hr0, lr, ar⟩
                      have lm2 := hm.m2
                      have lenps := hm.len
                      refine ⟨MG a l H N 1880 places full doors, ?_, ?_⟩
                      · have skip : ∀ H1, Kept a l H po pf pn pb pe ps bs es xs G0 (N + 1880) H1 → Rnk a l H pk ps rs H1 → H1 pr = some (.lst rd) → AllT H1 (Rok ps (rkOf rs)) rd → MG a l H N 1880 places full doors (sgA a po pf pn places full doors many long wide late cut k0 sort (some (.ref pb)) (some (.ref pe)) line0 one0 other0 (some (.ref pr)) (some (.ref pk)) len0 cr0 at0) H1 := fun H1 W1 R1 h1 a1 =>
                          ⟨po, pf, pn, pb, pe, pr, pk, many, long, wide, late, cut, ps, bs, es, rs, k0, sort, line0, one0, other0, len0, cr0, at0, xs, rd, G0, rfl, hm, hmp, hl, Fr', nro, nrn, nrb, nre, nrk, ha, hI, hO, hx2, hxd, W1, R1, h1, lr, a1⟩
                        refine ⟨_, rfl, a, l, _, 3, rfl, W.b.t, by omega, by omega, by decide, by decide, fun H1 d d0 d1 b1 S1 => ?_⟩
                        have W1 := W.draw b1 S1
                        have R1 := R.draw b1
                        have h1 := b1 _ _ Fr'.na Fr'.nl hr0
                        have a1 := ar.tl (b1.tl W.b.t)
                        refine ⟨rfl, _, rfl, ite2 (fun hc => ?_) (fun hc => iteF (skip _ (W1.mono (by omega)) R1 h1 a1))⟩
                        refine ⟨_, rfl, pn, _, rfl, .inl (SqL.of W1.n), _, _, rfl, rfl, _, rfl, ite2 (fun hc2 => ?_) (fun hc2 => skip _ (W1.mono (by omega)) R1 h1 a1)⟩
                        clear skip
                        have l2 : (xs.length : Int) > 2 := of_decide_eq_true hc2
                        refine ⟨_, rfl, _, rfl, pn, _, rfl, .inl (SqL.of W1.n), _, _, rfl, rfl, a, l, _, _, rfl, S1, by omega, by omega, by omega, by omega, fun H2 e e0 e1 b2 S2 => ?_⟩
                        have W2 := W1.draw b2 S2
                        have R2 := R1.draw b2
                        have h2 := b2 _ _ Fr'.na Fr'.nl h1
                        have a2 := a1.tl (b2.tl W1.b.t)
                        have x2 := ha.tl W2.t
                        refine ⟨_, _, rfl, rfl, ?_⟩
                        have hj : (2 + e).toNat < xs.length := by omega
                        have hat : atI xs (2 + e) = some xs[(2 + e).toNat] := at_of (j := (2 + e).toNat) (by omega) (List.getElem?_eq_getElem hj)
                        obtain ⟨p, tt, ep, hp, x, h, rfl, hx, z0, z9⟩ := x2 xs[(2 + e).toNat] (List.getElem_mem hj)
                        rw [ep] at hat
                        refine ⟨_, rfl, _, rfl, pn, _, _, _, rfl, rfl, SqL.of W2.n, hat, p, _, _, _, rfl, rfl, SqT.of hp, (by rfl), ?_⟩
                        refine ⟨_, rfl, _, rfl, pn, _, _, _, rfl, rfl, SqL.of W2.n, hat, p, _, _, _, rfl, rfl, SqT.of hp, (by rfl), ?_⟩
                        refine ⟨_, rfl, a, l, _, 7, rfl, S2, by omega, by omega, by decide, by decide, fun H3 g g0 g1 b3 S3 => ?_⟩
                        have W3 := W2.draw b3 S3
                        have R3 := R2.draw b3
                        have h3 := b3 _ _ Fr'.na Fr'.nl h2
                        have a3 := a2.tl (b3.tl W2.b.t)
                        refine ⟨_, _, rfl, rfl, (by show 3 ≤ sizeLine; decide), fun t ht => ?_⟩
                        have s4 := same_new (o := .tup [.str (if Sof ps cut x = true then "in" else "out"), .int x, .int (3 + g)]) ht
                        have W4 := W3.same s4
                        have h4 := s4 _ _ h3
                        refine ⟨_, rfl, _, rfl, pn, xs, 2 + e, (2 + e).toNat, rfl, rfl, W4.n, ixN_at (by omega) (by omega), ?_⟩
                        have x4 := ha.tl W4.t
                        have q1 : pn ≠ po := ints_ne W4.b.o W4.n x4 (by omega)
                        have q2 : pn ≠ pb := ints_ne W4.x.h W4.n x4 W4.x.n
                        have q3 : pn ≠ pe := ints_ne W4.y.h W4.n x4 W4.y.n
                        have q4 : pn ≠ pk := ints_ne (R3.same s4).h W4.n x4 (by rw [R3.p.length_eq]; omega)
                        have tl5 := (TL.set W4.n : TL _ (upd (upd H3 t (.tup [.str (if Sof ps cut x = true then "in" else "out"), .int x, .int (3 + g)])) pn (.lst (xs.set (2 + e).toNat (.ref t)))))
                        have tt5 : upd (upd H3 t (.tup [.str (if Sof ps cut x = true then "in" else "out"), .int x, .int (3 + g)])) pn (.lst (xs.set (2 + e).toNat (.ref t))) t = some (.tup [.str (if Sof ps cut x = true then "in" else "out"), .int x, .int (3 + g)]) := tl5 _ _ upd_same
                        have hp5 := tl5 _ _ (s4 _ _ (b3.tl W2.b.t _ _ hp))
                        have tG := W4.t.trans tl5
                        have has : ∀ P1 : List V → Prop, (∀ s x h h', P1 [.str s, .int x, .int h] → P1 [.str s, .int x, .int h']) → Has G0 P1 xs → Has (upd (upd H3 t (.tup [.str (if Sof ps cut x = true then "in" else "out"), .int x, .int (3 + g)])) pn (.lst (xs.set (2 + e).toNat (.ref t)))) P1 (xs.set (2 + e).toNat (.ref t)) := fun P1 hP hh => by
                          obtain ⟨v, hv, p', t', e1, e2, e3⟩ := hh
                          rcases mem_set_or (w := .ref t) (j := (2 + e).toNat) hv with q | q
                          · exact ⟨v, q, p', t', e1, tG _ _ e2, e3⟩
                          · rw [List.getElem?_eq_getElem hj, ep] at q
                            have e4 := Option.some.inj q
                            rw [e1] at e4
                            have e5 := tG _ _ e2
                            rw [← V.ref.inj e4, hp5] at e5
                            rw [← HO.tup.inj (Option.some.inj e5)] at e3
                            exact ⟨.ref t, List.mem_set (by omega) _, t, _, rfl, tt5, hP _ _ _ _ e3⟩
                        refine ⟨po, pf, pn, pb, pe, pr, pk, many, long, wide, late, cut, ps, bs, es, rs, k0, sort, line0, one0, other0, len0, cr0, _, xs.set (2 + e).toNat (.ref t), rd, _, rfl, hm, hmp, hl, Fr', nro, nrn, nrb, nre, nrk, ?_, has _ (fun s x h h' ⟨u, v, w⟩ => ?_) hI, has _ (fun s x h h' ⟨u, v, w⟩ => ?_) hO, by rw [List.length_set]; exact hx2, by rw [List.length_set]; exact hxd,
                          ⟨(W4.b.set W4.fn q1).mono (by omega), upd_same, TL.refl, W4.x.set q2.symm, W4.y.set q3.symm, W4.fn⟩, (R3.same s4).set q4, by rw [upd_ne nrn]; exact h4, lr, (a3.tl (TL.new ht)).tl tl5⟩
                        · intro v hv
                          rcases List.mem_or_eq_of_mem_set hv with q | rfl
                          · exact (ha.tl tG) v q
                          · exact ⟨t, _, rfl, tt5, x, _, rfl, hx, by omega, by omega⟩
                        · exact ⟨x, h', by rw [(List.cons.inj w).1]⟩
                        · exact ⟨x, h', by rw [(List.cons.inj w).1]⟩
                      · clear W R hr0 lr ar ha hI hO
                        rintro σ0 H0 ⟨po, pf, pn, pb, pe, pr, pk, many, long, wide, late, cut, ps, bs, es, rs, k0, sort, line0, one0, other0, len0, cr0, at0, xs, rd, G0, rfl, hm, hmp, hl, Fr', nro, nrn, nrb, nre, nrk, ha, hI, hO, hx2, hxd, W, R, hr0, lr, ar⟩
                        have lm20 := hm.m20
                        refine ⟨_, rfl, _, rfl, _, rfl, _, rfl, a, l, pn, _, _, rfl, W.b.t, by omega, by omega, W.fn.na, W.fn.nl, W.n, by omega, fun H1 pd ys pm b1 f1 h1 S1 => ?_⟩
                        have W1 := W.draw b1 S1
                        have g1 := b1 _ _ Fr'.na Fr'.nl hr0
                        have a1 := ar.tl (b1.tl W.b.t)
                        have rd1 := W.b.fr f1
                        refine ⟨(by show 3 ≤ sizeLine; decide), fun t ht => ?_⟩
                        have s2 := same_new (o := .tup [.int many, .ref pr, .ref pd]) ht
                        have tl := W1.t.trans (TL.new (o := .tup [.int many, .ref pr, .ref pd]) ht)
                        refine k _ t pr pd many rd ys (W1.same s2).b.b (W1.b.fr ht).f Fr'.f rd1.f upd_same hmp ⟨hm.m2, hm.m20, s2 _ _ g1, s2 _ _ h1, fun z => ?_, ⟨ps, rkOf rs, Sof ps cut, hm.mem, a1.tl (TL.new ht), (ha.tl tl).sub fun v hv => pm.mem_iff.mp hv⟩, (hI.tl tl).sub fun v hv => pm.mem_iff.mpr hv, (hO.tl tl).sub fun v hv => pm.mem_iff.mpr hv, lr.1, by rw [pm.length_eq]; exact hxd, by rw [pm.length_eq]; exact hx2, lr.2⟩ ((W1.same s2).b.t.mono (by omega))
                        rw [z, f1] at hr0
                        cases hr0
end
end K17

set_option Elab.async false
set_option linter.all false
set_option maxRecDepth 100000
set_option maxHeartbeats 4000000
/-! functions of the written part as values: isinstance of them, == of one with itself -/
namespace PySem.FnX
open Sem (wp)
theorem ga_slot : Slot "function" "__getattribute__" "object.__getattribute__" := by
  refine Slot.of (owner := "object") (n := "__getattribute__") ?_ (by decide +kernel) (by decide +kernel) (by decide +kernel) ?_ ?_
  · rw [typeLookup_type, builtinLookup_eq_fast]
    kernel_rfl
  · exact .inl (by decide +kernel)
  · rw [isSubtype_type]
    kernel_rfl
theorem cls_look : typeLookup (.type "function") "__class__" = pure (some (.builtin "object.__class__")) := by
  rw [typeLookup_type, builtinLookup_eq_fast]
  kernel_rfl
theorem obj_owner : isSubtype (.type "function") (.type (".".intercalate ("object.__class__".cutAt '.').dropLast)) = pure true := by
  rw [F.owner_object_class, isSubtype_type]
  kernel_rfl
theorem ga_entry : entryFor table "object.__getattribute__" = some Builtin.«object.__getattribute__» := entryFor_of_tree (by kernel_rfl)
theorem ga_args (a b : Value) : argsOk "object.__getattribute__" ⟨[a, b], []⟩ := by unfold argsOk; kernel_rfl
section
variable {prog : Program} {w : World} {A : Around} {E : Value → Shared → Prop} {hp : Heap} {g : Array GenState} {dr : Drawn} {n : Nat} {os : OsState} {f : Addr} {fo : Obj}
theorem got {R : Result → Shared → Prop} (e : hp.get? f = some fo) (c : fo.cls = .type "function") (q : R (.ok (.ret (.type "function"))) ⟨hp, g, dr, n, os⟩) :
    codeAny (model prog w) A (.call (.builtin "getset_descriptor.__get__") ⟨[.builtin "object.__class__", .ref f, .type "function"], []⟩) R ⟨hp, g, dr, n, os⟩ := by
  have t1 : (⟨hp, g, dr, n, os⟩ : Shared).TypeIs (.ref f) "function" := ⟨_, e, c⟩
  have t2 : (⟨hp, g, dr, n, os⟩ : Shared).TypeIs (.builtin "object.__class__") "getset_descriptor" := F.typeOf_object_class
  have so := obj_owner
  refine codeAny_call_builtin F.slot_gs_get.plain F.entry_gs_get (F.slot_gs_get.check _ _ _ _ _ _ _ _ t2 (F.args_gs_get _ _ _) ?_)
  repeat (any_goals (first | wp_step | assumption))
  refine ⟨Code.quiet_builtin _ (by decide +kernel), codeAny_builtin F.entry_object_class ?_⟩
  repeat (any_goals (first | wp_step | assumption))
theorem read {tk : Tok} {Q : Fin → Shared → Prop} (e : hp.get? f = some fo) (c : fo.cls = .type "function") (q : Q (.done (.ret (.type "function"))) ⟨hp, g, dr, n, os⟩) :
    wpAny (model prog w) A (Builtin.«object.__getattribute__» ⟨[.ref f, .str "__class__" tk], []⟩) Q E ⟨hp, g, dr, n, os⟩ := by
  have t1 : (⟨hp, g, dr, n, os⟩ : Shared).TypeIs (.ref f) "function" := ⟨_, e, c⟩
  have t2 : (⟨hp, g, dr, n, os⟩ : Shared).TypeIs (.builtin "object.__class__") "getset_descriptor" := F.typeOf_object_class
  have l1 := cls_look
  have l2 := F.typeOf_object_class
  have l3 := F.slot_gs_get.lookup
  have l4 := F.slot_gs_set.lookup
  repeat (any_goals (first | wp_step | assumption))
  refine got e c ?_
  repeat (any_goals (first | wp_step | assumption))
theorem askBy {tk : Tok} {Q : Value → Shared → Prop} (e : hp.get? f = some fo) (c : fo.cls = .type "function") (q : Q (.type "function") ⟨hp, g, dr, n, os⟩) : wpAny (model prog w) A (getAttrBy (.ref f) (.str "__class__" tk) false) Q E ⟨hp, g, dr, n, os⟩ := by
  have t1 : (⟨hp, g, dr, n, os⟩ : Shared).TypeIs (.ref f) "function" := ⟨_, e, c⟩
  have l1 := ga_slot.lookup
  have l2 := ga_slot.bind (.ref f)
  repeat (any_goals (first | wp_step | assumption))
  refine codeAny_call_builtin ga_slot.plain ga_entry (ga_slot.check _ _ _ _ _ _ _ _ t1 (ga_args _ _) (read e c ?_))
  repeat (any_goals (first | wp_step | assumption))
theorem attr {Q : Option Value → Shared → Prop} (e : hp.get? f = some fo) (c : fo.cls = .type "function") (q : Q (some (.type "function")) ⟨hp, g, dr, n + 1, os⟩) : wpAny (model prog w) A (getAttr? (.ref f) "__class__") Q E ⟨hp, g, dr, n, os⟩ := by
  unfold getAttr? getAttrBy?
  repeat (any_goals (first | assumption | with_reducible apply askBy e c | wp_step))
theorem kitx {K : W.Frag} : W.KitX K (.ref f) (.type "function") (W.KitAt f "function") := W.kitx_of W.kitAt_ty fun {_ _ _ _ _ s} p k => by
  obtain ⟨hp, g, dr, n, os⟩ := s
  obtain ⟨o, h1, h2⟩ := p
  exact attr h1 h2 k
end
theorem eq_slot : Slot "function" "__eq__" "object.__eq__" := by
  refine Slot.of (owner := "object") (n := "__eq__") ?_ (by decide +kernel) (by decide +kernel) (by decide +kernel) ?_ ?_
  · rw [typeLookup_type, builtinLookup_eq_fast]
    kernel_rfl
  · exact .inl (by decide +kernel)
  · rw [isSubtype_type]
    kernel_rfl
theorem eq_entry : entryFor table "object.__eq__" = some Builtin.«object.__eq__» := entryFor_of_tree (by kernel_rfl)
theorem eq_args (a b : Value) : argsOk "object.__eq__" ⟨[a, b], []⟩ := by unfold argsOk; kernel_rfl
theorem eq_self {prog : Program} {w : World} {A : Around} {E : Value → Shared → Prop} {s : Shared} {f : Addr} {fo : Obj} {Q : Value → Shared → Prop} (hu : A.units < cLine) (e : s.heap.get? f = some fo) (c : fo.cls = .type "function") (q : Q (.bool true) s) :
    wpAny (model prog w) A (richCompare .Eq (.ref f) (.ref f)) Q E s := by
  have t1 : s.TypeIs (.ref f) "function" := ⟨_, e, c⟩
  have l1 := eq_slot.lookup
  have l2 := eq_slot.bind (.ref f)
  simp only [richCompare, cmpInfo_Eq, oneThing_ref]
  refine wpAny_holding (wpAny_bind (wpAny_cRoomFor hu ?_))
  have fin : ∀ {E : Value → Shared → Prop} {Q : Value → Shared → Prop}, Q (.bool true) s → wpAny (model prog w) A (call (.builtin "object.__eq__") ([.ref f] ++ [.ref f])) Q E s := fun {E Q} k => by
    refine wpAny_call (codeAny_call_builtin eq_slot.plain eq_entry (eq_slot.check _ _ _ _ _ _ _ _ t1 (eq_args _ _) ?_))
    repeat (any_goals (first | assumption | wp_step))
  repeat (any_goals (first | assumption | wp_step))
  refine wpAny_askSetting ?_
  split
  · repeat (any_goals (first | assumption | (refine wpAny_bind (m := call _ _) (fin ?_)) | wp_step))
  · repeat (any_goals (first | assumption | (refine wpAny_bind (m := call _ _) (fin ?_)) | wp_step))
end PySem.FnX
namespace Own
open PySem PySem.Spec PyProof.Rows L2
/-- a type, also of a function of the written part -/
def TyY (K : PySem.W.Frag) (H : Hp) (x : V) (t : Value) : Prop := TyX K H x t ∨ ∃ (f : Addr) (o : Obj), x = .ref f ∧ K.lookup f = some o ∧ o.cls = .type "function" ∧ t = .type "function"
def rIsiY (K : PySem.W.Frag) : List V → Hp → VK → Prop := fun xs H Q => ∃ (x c : V) (t u : Value) (b : Bool), xs = [x, c] ∧ ClsV c u ∧ TyY K H x t ∧ PySem.W.kitOne K t u = some b ∧ Q (.bl b) H
def rIsiTY (K : PySem.W.Frag) : List V → Hp → VK → Prop := fun xs H Q => ∃ (x : V) (p : Addr) (cs : List V) (t : Value) (us : List Value) (b : Bool), xs = [x, .ref p] ∧ H p = some (.tup cs) ∧ Paired ClsV cs us ∧ TyY K H x t ∧ PySem.W.kitAny K t us = some b ∧ Q (.bl b) H
section
variable {X : Cx}
theorem kit_ofY {pins : List (Addr × Obj)} {σ : L2.St} {H : Hp} {s : Shared} {x : V} {u t : Value} (I : Inv X pins σ H s) (r : RelV x u) (y : TyY X.K H x t) : ∃ P : Heap → Prop, PySem.W.KitX X.K u t P ∧ P s.heap ∧ u ≠ .builtin "__main__.__loader__#opaque" := by
  rcases y with y | ⟨f, o, rfl, hk, hc, rfl⟩
  · exact kit_of I r y
  · cases (show u = Value.ref f from r)
    exact ⟨_, FnX.kitx, ⟨o, I.kIn f o hk, hc⟩, fun z => nomatch z⟩
theorem call_isiY : CallR X (.builtin "isinstance") (rIsiY X.K) := by
  rintro pins s σ H xs us Q I rv ⟨x, c, t, u, b, rfl, k, ty, e, q⟩
  obtain ⟨v1, v2, rfl, r1, r2⟩ := vals2 rv
  obtain rfl := k.eq r2
  obtain ⟨P, Z, p, nl⟩ := kit_ofY I r1 ty
  exact PySem.W.kia_one Z I.kIn p e nl fun n => ⟨.bl b, H, I.tok n, rfl, q⟩
theorem call_isiTY : CallR X (.builtin "isinstance") (rIsiTY X.K) := by
  rintro pins s σ H xs us Q I rv ⟨x, tp, cs, t, ws, b, rfl, hT, k, ty, e, q⟩
  obtain ⟨v1, v2, rfl, r1, r2⟩ := vals2 rv
  cases (show v2 = Value.ref tp from r2)
  obtain ⟨P, Z, p, nl⟩ := kit_ofY I r1 ty
  obtain ⟨_, its, rs, ob, g1, g2, m, g3⟩ := (show ObjOk X.prog X.w H s.heap tp (.tup cs) from I.hok tp _ hT)
  have same := ClsV.all k rs
  subst same
  obtain ⟨oc, od, dt, sl⟩ := ob
  simp only at g2 g3
  subst g2 g3
  exact PySem.W.kia_tup Z I.kIn p g1 e nl fun n => ⟨.bl b, H, I.tok n, rfl, q⟩
/-- a function is equal to itself -/
def rEqF (K : PySem.W.Frag) : R2 := fun x y H Q => ∃ (f : Addr) (o : Obj), x = .ref f ∧ y = .ref f ∧ K.lookup f = some o ∧ o.cls = .type "function" ∧ Q (.bl true) H
theorem op_eqF (hu : X.A.units < cLine) : OpR X (compareOp .Eq) (rEqF X.K) := by
  rintro pins s σ H x y v u Q I rx ry ⟨f, o, rfl, rfl, hk, hc, q⟩
  cases rx
  cases ry
  exact FnX.eq_self hu (I.kIn f o hk) hc ⟨.bl true, H, I, rfl, q⟩
/-- one of two rules -/
theorem op_or {op : Value → Value → Sem Value} {r1 r2 : R2} (h1 : OpR X op r1) (h2 : OpR X op r2) : OpR X op (fun x y H Q => r1 x y H Q ∨ r2 x y H Q) := by
  rintro pins s σ H x y v u Q I rx ry (h | h)
  · exact h1 pins s σ H x y v u Q I rx ry h
  · exact h2 pins s σ H x y v u Q I rx ry h
end
end Own

set_option Elab.async false
set_option linter.all false
set_option maxRecDepth 100000
/-! a block of which a statement always leaves: what stands behind it needs no term -/
namespace Own
open PySem PySem.Spec PyProof.Rows L2
def tStop (t : TS) : TS := fun D σ H => t { D with nx := fun _ _ => False } σ H
theorem pss_stop {X : Cx} {st : Stmt} {rest : List Stmt} {t : TS} (h1 : PS X st t) : PSs X (st :: rest) (tStop t) := by
  refine ⟨fun pins s σ H D I h => ?_⟩
  refine wpAny_execs_cons (thn (h1.run pins s σ H { D with nx := fun _ _ => False } I h) fun f s1 q => ?_)
  cases f with
  | next =>
    obtain ⟨_, _, _, q⟩ := q
    exact q.elim
  | ret v => exact q
  | brk => exact q
  | cont => exact q
end Own

set_option Elab.async false
set_option linter.all false
set_option maxRecDepth 100000
set_option maxHeartbeats 4000000
namespace K17
open PySem PySem.Spec PyProof.Rows L2 Own
/-! things of any kind: atoms, functions of the law, Houses, lists, tuples, dicts -/
/-- what is known of the class House: no instance is of a built-in kind, none of those is a House -/
structure HKn (K : PySem.W.Frag) (C : Addr) : Prop where
  hc : HC K C
  nf : PySem.W.notFirst K C (.ref C) = true
  ha : PySem.W.findIn K (.ref C) "__class__" = some (some (.builtin "object.__class__"))
  hn : PySem.W.specialIn K (.builtin "object.__class__") "__get__" = some (some (.builtin "getset_descriptor.__get__"))
  ht : PySem.W.takesIn K (.builtin "object.__class__") = some true
  hm : PySem.W.mroIn K C (.type "object") = some true
  no : ∀ T : String, T ∈ ["int", "bool", "list", "tuple", "dict", "str"] → PySem.W.kitOne K (.ref C) (.type T) = some false
/-- a House of one place, without roads and doors -/
def Hou (C : Addr) (H : Hp) (x : Addr) : Prop := ∃ dx p q, H x = some (.ins C dx [("_places", .int 1), ("_roads", .ref p), ("_doors", .ref q)]) ∧ H p = some (.lst []) ∧ H q = some (.lst [])
/-- no list, no tuple, no dict -/
def Lf (K : PySem.W.Frag) (C : Addr) (H : Hp) (v : V) : Prop := atomV v = true ∨ (∃ (f : Addr) (o : Obj), v = .ref f ∧ K.lookup f = some o ∧ o.cls = .type "function") ∨ ∃ x, v = .ref x ∧ Hou C H x
/-- a thing and what it holds, if it is a list or a tuple -/
def SqR (K : PySem.W.Frag) (C : Addr) (H : Hp) (v : V) (o : Option (List V)) : Prop := (Lf K C H v ∧ o = none) ∨ (∃ p kvs, v = .ref p ∧ H p = some (.dK kvs) ∧ o = none) ∨ ∃ p xs, v = .ref p ∧ (H p = some (.lst xs) ∨ H p = some (.tup xs)) ∧ o = some xs
theorem Hou.same {C x : Addr} {H H' : Hp} (h : Hou C H x) (e : Same H H') : Hou C H' x := by
  obtain ⟨dx, p, q, h1, h2, h3⟩ := h
  exact ⟨dx, p, q, e _ _ h1, e _ _ h2, e _ _ h3⟩
theorem Lf.same {K : PySem.W.Frag} {C : Addr} {H H' : Hp} {v : V} (h : Lf K C H v) (e : Same H H') : Lf K C H' v := by
  rcases h with h | h | ⟨x, rfl, h⟩
  · exact .inl h
  · exact .inr (.inl h)
  · exact .inr (.inr ⟨x, rfl, h.same e⟩)
theorem SqR.same {K : PySem.W.Frag} {C : Addr} {H H' : Hp} {v : V} {o : Option (List V)} (h : SqR K C H v o) (e : Same H H') : SqR K C H' v o := by
  rcases h with ⟨h, rfl⟩ | ⟨p, kvs, rfl, h, rfl⟩ | ⟨p, xs, rfl, h, rfl⟩
  · exact .inl ⟨h.same e, rfl⟩
  · exact .inr (.inl ⟨p, kvs, rfl, e _ _ h, rfl⟩)
  · exact .inr (.inr ⟨p, xs, rfl, h.imp (e _ _) (e _ _), rfl⟩)
theorem sq_int {K : PySem.W.Frag} {C : Addr} {H : Hp} (i : Int) : SqR K C H (.int i) none := .inl ⟨.inl rfl, rfl⟩
/-- a type that any later heap gives it -/
def TyG (K : PySem.W.Frag) (H : Hp) (v : V) (t : Value) : Prop := ∀ H', Same H H' → TyY K H' v t
theorem TyG.grow {K : PySem.W.Frag} {H H' : Hp} {v : V} {t : Value} (h : TyG K H v t) (e : Same H H') : TyG K H' v t := fun H2 e2 => h H2 (e.trans e2)
theorem TyG.now {K : PySem.W.Frag} {H : Hp} {v : V} {t : Value} (h : TyG K H v t) : TyY K H v t := h H (Same.refl H)
/-- which of the built-in kinds a type is below -/
structure KAns (K : PySem.W.Frag) (t : Value) (i b l u d s : Bool) : Prop where
  i : PySem.W.kitOne K t (.type "int") = some i
  b : PySem.W.kitOne K t (.type "bool") = some b
  l : PySem.W.kitOne K t (.type "list") = some l
  u : PySem.W.kitOne K t (.type "tuple") = some u
  d : PySem.W.kitOne K t (.type "dict") = some d
  s : PySem.W.kitOne K t (.type "str") = some s
theorem any2 {K : PySem.W.Frag} {t a b : Value} {x y r : Bool} (ha : PySem.W.kitOne K t a = some x) (hb : PySem.W.kitOne K t b = some y) (h : (x || y) = r) : PySem.W.kitAny K t [a, b] = some r := by
  subst h
  refine kitAny_cons ha (fun e => ?_) (fun e => by rw [e]; rfl)
  rw [e]
  refine kitAny_cons hb (fun e => ?_) (fun e => by rw [e]; rfl)
  rw [e]
  exact kitAny_nil
theorem any3 {K : PySem.W.Frag} {t a b c : Value} {x y z r : Bool} (ha : PySem.W.kitOne K t a = some x) (hb : PySem.W.kitOne K t b = some y) (hc : PySem.W.kitOne K t c = some z) (h : (x || y || z) = r) : PySem.W.kitAny K t [a, b, c] = some r := by
  subst h
  refine kitAny_cons ha (fun e => ?_) (fun e => by rw [e]; rfl)
  rw [e]
  refine kitAny_cons hb (fun e => ?_) (fun e => by rw [e]; rfl)
  rw [e]
  refine kitAny_cons hc (fun e => ?_) (fun e => by rw [e]; rfl)
  rw [e]
  exact kitAny_nil
section
variable {K : PySem.W.Frag} {C : Addr} {H : Hp} {v : V}
theorem ans_of {T : String} {i b l u d s : Bool} (h1 : kitB T "int" = some i) (h2 : kitB T "bool" = some b) (h3 : kitB T "list" = some l) (h4 : kitB T "tuple" = some u) (h5 : kitB T "dict" = some d) (h6 : kitB T "str" = some s) : KAns K (.type T) i b l u d s :=
  ⟨kit_ty h1, kit_ty h2, kit_ty h3, kit_ty h4, kit_ty h5, kit_ty h6⟩
theorem lf_ty (hk : HKn K C) (h : Lf K C H v) : ∃ (t : Value) (i b s : Bool), TyG K H v t ∧ KAns K t i b false false false s ∧ isI v = (i && !b) ∧ (b = true → atomV v = true) := by
  rcases h with h | ⟨f, o, rfl, h1, h2⟩ | ⟨x, rfl, dx, p, q, h1, h2, h3⟩
  · cases v with
    | non => exact ⟨.type "NoneType", false, false, false, fun _ _ => .inl (.base .non), ans_of (by decide +kernel) (by decide +kernel) (by decide +kernel) (by decide +kernel) (by decide +kernel) (by decide +kernel), rfl, fun z => by first | rfl | cases z⟩
    | bl b => exact ⟨.type "bool", true, true, false, fun _ _ => .inl (.base (.bl b)), ans_of (by decide +kernel) (by decide +kernel) (by decide +kernel) (by decide +kernel) (by decide +kernel) (by decide +kernel), rfl, fun z => by first | rfl | cases z⟩
    | int i => exact ⟨.type "int", true, false, false, fun _ _ => .inl (.base (.int i)), ans_of (by decide +kernel) (by decide +kernel) (by decide +kernel) (by decide +kernel) (by decide +kernel) (by decide +kernel), rfl, fun z => by first | rfl | cases z⟩
    | str x => exact ⟨.type "str", false, false, true, fun _ _ => .inl (.base (.str x)), ans_of (by decide +kernel) (by decide +kernel) (by decide +kernel) (by decide +kernel) (by decide +kernel) (by decide +kernel), rfl, fun z => by first | rfl | cases z⟩
    | _ => cases h
  · exact ⟨.type "function", false, false, false, fun _ _ => .inr ⟨f, o, rfl, h1, h2, rfl⟩, ans_of (by decide +kernel) (by decide +kernel) (by decide +kernel) (by decide +kernel) (by decide +kernel) (by decide +kernel), rfl, fun z => by first | rfl | cases z⟩
  · exact ⟨.ref C, false, false, false, fun H' e => .inl (.base (.ins (e _ _ h1) hk.hc.cl hk.ha hk.hn hk.ht hk.hm)), ⟨hk.no _ (by decide), hk.no _ (by decide), hk.no _ (by decide), hk.no _ (by decide), hk.no _ (by decide), hk.no _ (by decide)⟩, rfl, fun z => by cases z⟩
theorem sq_ty (hk : HKn K C) {o : Option (List V)} (h : SqR K C H v o) : ∃ (t : Value) (i b l u d s : Bool), TyG K H v t ∧ KAns K t i b l u d s ∧ isI v = (i && !b) ∧ o.isSome = (l || u) := by
  rcases h with ⟨h, rfl⟩ | ⟨p, kvs, rfl, h, rfl⟩ | ⟨p, xs, rfl, h | h, rfl⟩
  · obtain ⟨t, i, b, s, h1, h2, h3, _⟩ := lf_ty hk h
    exact ⟨t, i, b, false, false, false, s, h1, h2, h3, rfl⟩
  · exact ⟨.type "dict", false, false, false, false, true, false, fun H' e => .inl (.base (.dK (e _ _ h))), ans_of (by decide +kernel) (by decide +kernel) (by decide +kernel) (by decide +kernel) (by decide +kernel) (by decide +kernel), rfl, rfl⟩
  · exact ⟨.type "list", false, false, true, false, false, false, fun H' e => .inl (.base (.lst (e _ _ h))), ans_of (by decide +kernel) (by decide +kernel) (by decide +kernel) (by decide +kernel) (by decide +kernel) (by decide +kernel), rfl, rfl⟩
  · exact ⟨.type "tuple", false, false, false, true, false, false, fun H' e => .inl (.base (.tup (e _ _ h))), ans_of (by decide +kernel) (by decide +kernel) (by decide +kernel) (by decide +kernel) (by decide +kernel) (by decide +kernel), rfl, rfl⟩
end
/-! ### is_integer, is_number, is_list of such -/
def spIntY (K : PySem.W.Frag) (C : Addr) : Sp := fun vs H Q _ => ∃ v o, vs = [v] ∧ SqR K C H v o ∧ Q (.bl (isI v)) H
def spNumY (K : PySem.W.Frag) (C : Addr) : Sp := fun vs H Q _ => ∃ v o, vs = [v] ∧ SqR K C H v o ∧ Q (.bl (isN v)) H
def spLstY (K : PySem.W.Frag) (C : Addr) : Sp := fun vs H Q _ => ∃ v o, vs = [v] ∧ SqR K C H v o ∧ ∀ H', Same H H' → Q (.bl o.isSome) H'
section
variable {P : Program} {w : World} {K : PySem.W.Frag} {mg : Str → Option Value} {base : Heap} {C : Addr}
theorem ok_isIntY (hk : HKn K C) {f : Addr} {fd : FuncData} (F : Fun K "is_integer" "is_integer" sIsInt f fd) (T : Bt mg) : FnOk P w K mg base CX0 1 f fd ["thing"] (spIntY K C) := by
  refine F.ok scIsInt (fun vs H Q E h => ?_) (fun cdv A outer s H vs Q E hr h => ?_)
  · obtain ⟨v, o, rfl, _⟩ := h
    rfl
  · obtain ⟨v, o, rfl, hv, k⟩ := h
    refine ⟨_, (pss_one (ps_ret (pe_and (pe_callB call_isiY (by rfl) T.isi (by decide +kernel) (pa_cons (pv 0) (pa_cons (pe_bltn (v := .ty "int") (by rfl) T.int (by decide +kernel) rfl) pa_nil))) (pe_one (pe_not (pe_callB call_isiY (by rfl) T.isi (by decide +kernel) (pa_cons (pv 0) (pa_cons (pe_bltn (v := .ty "bool") (by rfl) T.bool (by decide +kernel) rfl) pa_nil)))))))), ?_⟩
    obtain ⟨t, i, b, l, u, d, z, ty, ka, e1, _⟩ := sq_ty hk hv
    refine ⟨_, rfl, _, _, _, _, i, rfl, .ty _, ty.now, ka.i, i, rfl, ?_⟩
    cases i with
    | true =>
      refine iteT ⟨_, rfl, _, _, _, _, b, rfl, .ty _, ty.now, ka.b, b, rfl, ?_⟩
      rw [e1] at k
      exact k
    | false =>
      refine iteF ?_
      rw [e1] at k
      exact k
theorem ok_isNumY (hk : HKn K C) {f fI : Addr} {fd fdI : FuncData} (F : Fun K "is_number" "is_number" sIsNum f fd) (T : Bt mg) (FI : Fun K "is_integer" "is_integer" sIsInt fI fdI) (gI : mg "is_integer" = some (.ref fI)) (bI : Binds K fdI ["thing"] []) : FnOk P w K mg base CX0 2 f fd ["thing"] (spNumY K C) := by
  have GI : FnOk P w K mg base CX0 1 fI fdI ["thing"] (spIntY K C) := ok_isIntY hk FI T
  refine F.ok scIsNum (fun vs H Q E h => ?_) (fun cdv A outer s H vs Q E hr h => ?_)
  · obtain ⟨v, o, rfl, _⟩ := h
    rfl
  · obtain ⟨v, o, rfl, hv, k⟩ := h
    refine ⟨_, (pss_one (ps_ret (pe_and (pe_call GI hr (by rfl) gI FI.kp bI .nil pass0 (pa_cons (pv 0) pa_nil)) (pe_one (pe_cmpR op_ge (pv 0) pe_int (nomark _)))))), ?_⟩
    refine ⟨_, rfl, v, o, rfl, hv, _, rfl, ?_⟩
    cases v with
    | int i => exact iteT ⟨_, rfl, _, _, rfl, rfl, k⟩
    | _ => exact iteF k
theorem ok_isLstY (hk : HKn K C) {f : Addr} {fd : FuncData} (F : Fun K "is_list" "is_list" sIsList f fd) (T : Bt mg) : FnOk P w K mg base CX0 1 f fd ["thing"] (spLstY K C) := by
  refine F.ok scIsList (fun vs H Q E h => ?_) (fun cdv A outer s H vs Q E hr h => ?_)
  · obtain ⟨v, o, rfl, _⟩ := h
    rfl
  · obtain ⟨v, o, rfl, hv, k⟩ := h
    refine ⟨_, (pss_one (ps_ret (pe_callB call_isiTY (by rfl) T.isi (by decide +kernel) (pa_cons (pv 0) (pa_cons (pe_tup (pa_cons (pe_bltn (v := .ty "list") (by rfl) T.list (by decide +kernel) rfl) (pa_cons (pe_bltn (v := .ty "tuple") (by rfl) T.tuple (by decide +kernel) rfl) pa_nil))) pa_nil))))), ?_⟩
    obtain ⟨t, i, b, l, u, d, z, ty, ka, e1, e2⟩ := sq_ty hk hv
    refine ⟨_, rfl, (by show 2 ≤ sizeLine; decide), fun tp htp => ?_⟩
    have e3 := same_new (o := HO.tup [V.ty "list", V.ty "tuple"]) htp
    refine ⟨_, tp, _, _, _, l || u, rfl, upd_same, .cons (.ty _) (.cons (.ty _) .nil), (ty.grow e3).now, any2 ka.l ka.u rfl, ?_⟩
    rw [← e2]
    exact k _ e3
end
end K17

set_option Elab.async false
set_option linter.all false
set_option maxRecDepth 100000
set_option maxHeartbeats 4000000
/-! x == y and x != y, x of a class with an __eq__ of its own and no __ne__: whatever y is, whatever comes of it -/
namespace Own
open PySem PySem.Spec PyProof.Rows L2
section
variable {prog : Program} {w : World} {A : Around} {E : Value → Shared → Prop} {s : Shared} {K : PySem.W.Frag} {x C f : Addr} {ox : Obj} {od : Option Obj} {b : Value}
theorem ne_body (hu : A.units < cLine) (X : K.In s.heap) (I : PySem.W.InstAt s.heap x ox C od) (hs : PySem.W.findIn K (.ref C) "__eq__" = some (some (.ref f))) (hf : PySem.W.isFn K (.ref f) = true) {Q : Fin → Shared → Prop}
    (h : wpAny (model prog w) A (call (.ref f) [.ref x, b]) (fun v s' => ∃ r, v = .bool r ∧ Q (.done (.ret (.bool (!r)))) s') E s) : wpAny (model prog w) A (Builtin.«object.__ne__» ⟨[.ref x, b], []⟩) Q E s := by
  unfold Builtin.«object.__ne__»
  repeat (first
    | with_reducible refine wpAny_cRoomFor hu ?_
    | (refine wpAny_bind (m := callSpecialIfBound? (.ref x) (Str.ofString "__eq__") [b]) (PySem.W.ifBound_K X I hs hf (wpAny_mono h (fun v s' z => ?_) fun _ _ e => e)))
    | wp_step)
  obtain ⟨r, rfl, q⟩ := z
  repeat (first | exact q | exact wpAny_pure q | (refine wpAny_bind (m := truthy (.bool _)) (wpAny_truthy_bool ?_)) | wp_step)
theorem ne_bound {args : List Value} {Q : Option Value → Shared → Prop} (X : K.In s.heap) (I : PySem.W.InstAt s.heap x ox C od) (hs : PySem.W.findIn K (.ref C) "__ne__" = some (some (.builtin "object.__ne__")))
    (h : wpAny (model prog w) A (call (.builtin "object.__ne__") (.ref x :: args)) (fun v => Q (some v)) E s) : wpAny (model prog w) A (callSpecialIfBound? (.ref x) "__ne__" args) Q E s := by
  simp only [callSpecialIfBound?, bindSpecialIfBound?]
  refine wpAny_holding (wpAny_bind (wpAny_bind (wpAny_bind (I.type.here ((PySem.W.looks_findIn X hs).here (wpAny_bind (wpAny_askSetting (wpAny_ite ?_))))))))
  have go : wpAny (model prog w) A (call (.builtin "object.__ne__") ([.ref x] ++ args) >>= fun v => pure (some v)) Q E s := wpAny_bind (wpAny_mono h (fun v s' z => wpAny_pure z) fun _ _ e => e)
  split
  · exact wpAny_bind (wpAny_of_eq (F.cmp_object.ne.bind _) (wpAny_pure (by exact go)))
  · exact wpAny_tryCatch (wpAny_bind (wpAny_of_eq (F.cmp_object.ne.bind _) (wpAny_pure (by exact go))))
end
/-- what is known of a class with an __eq__ of its own and no __ne__ -/
structure Eqs (K : PySem.W.Frag) (C f : Addr) : Prop where
  eq : PySem.W.findIn K (.ref C) "__eq__" = some (some (.ref f))
  fn : PySem.W.isFn K (.ref f) = true
  ne : PySem.W.findIn K (.ref C) "__ne__" = some (some (.builtin "object.__ne__"))
  ob : PySem.W.mroIn K C (.type "object") = some true
def rOwn (K : PySem.W.Frag) (C : Addr) (neg : Bool) (sp : Sp) (E : XK) : R2 := fun x y H Q => ∃ (a dx : Addr) (fs : List (Str × V)) (t : Value), x = .ref a ∧ H a = some (.ins C dx fs) ∧ TyX K H y t ∧ PySem.W.notFirst K C t = true ∧
  sp [x, y] H (fun v H' => ∃ r : Bool, v = .bl r ∧ Q (.bl (if neg = true then !r else r)) H') E
section
variable {X : Cx} {CX : CXT} {n : Nat} {f C : Addr} {fd : FuncData} {ps : List Str} {sp : Sp} {E : XK}
theorem own_call (G : FnOk X.prog X.w X.K X.mg X.base CX n f fd ps sp) (hb : Binds X.K fd ps []) (hx : Passes CX X E) {A : Around} (hA : A.frames = X.A.frames) (hr : Room n A) {pins : List (Addr × Obj)} {σ : L2.St} {H : Hp} {s : Shared} (I : Inv X pins σ H s) {a : Addr} {y : V} {u : Value} (ry : RelV y u) {Q : VK}
    (hsp : sp [.ref a, y] H Q E) : wpAny (model X.prog X.w) A (call (.ref f) [.ref a, u]) (fun v s' => ∃ z H', Inv X pins σ H' s' ∧ RelV z v ∧ Q z H') X.xe s := by
  have e0 : Env0 X.prog X.w X.K X.mg X.base A X.stack s H := by
    have e := I.env0
    exact ⟨by rw [hA]; exact e.frames, e.mod, e.bs, e.bsz, e.funs, e.frf, e.hok, e.bare⟩
  have hl := G.len _ _ _ _ hsp
  have r2 : Vals [V.ref a, y] [Value.ref a, u] := .cons rfl (.cons ry .nil)
  have hbd : BindsTo s fd ⟨[.ref a, u], []⟩ (ps.zip [.ref a, u]) := by
    have z := hb s [.ref a, u] I.kIn (by simpa using hl)
    simpa using z
  refine wpAny_call (codeAny_mono (G.run A X.stack s H ⟨[.ref a, u], []⟩ [.ref a, u] [.ref a, y] _ E hr e0 hbd r2 hsp) fun r s' hq => ?_)
  cases r with
  | error e => exact hx pins σ H s e s' I hq
  | ok fl =>
    cases fl with
    | ret v =>
      obtain ⟨z, H', I', rz, q⟩ := I.after hq
      exact ⟨z, H', I', rz, q⟩
    | next => exact False.elim hq
    | brk => exact False.elim hq
    | cont => exact False.elim hq
theorem op_eqO (S : Eqs X.K C f) (G : FnOk X.prog X.w X.K X.mg X.base CX n f fd ps sp) (hb : Binds X.K fd ps []) (hr : Room n X.A) (hx : Passes CX X E) : OpR X (compareOp .Eq) (rOwn X.K C false sp E) := by
  intro pins s σ H x y v u Q I rx ry hq
  obtain ⟨a, dx, fs, t, rfl, ha, ty, nf, hsp⟩ := hq
  cases rx
  obtain ⟨P, Z, hP, _⟩ := kit_of I ry ty
  obtain ⟨mA, J, _⟩ := ins_get I.hok ha
  obtain ⟨od, J, _⟩ := J.look
  obtain ⟨m, hF⟩ := I.fr
  show wpAny (model X.prog X.w) X.A (richCompare .Eq (.ref a) u) (EP X pins σ Q) X.xe s
  refine PySem.W.cmp_K (op := .Eq) hr.units0 hF I.ok.mod.kin J (Z.ty _ _ I.kIn hP) nf S.eq S.fn (wpAny_mono (own_call G hb hx rfl hr I ry hsp) (fun r s' z => ?_) fun _ _ e => e)
  obtain ⟨z, H', I', rz, b, rfl, q⟩ := z
  cases rz
  exact ⟨.bl b, H', I', rfl, q⟩
theorem op_neO (S : Eqs X.K C f) (G : FnOk X.prog X.w X.K X.mg X.base CX n f fd ps sp) (hb : Binds X.K fd ps []) (hr : Room (n + 1) X.A) (hx : Passes CX X E) : OpR X (compareOp .NotEq) (rOwn X.K C true sp E) := by
  intro pins s σ H x y v u Q I rx ry hq
  obtain ⟨a, dx, fs, t, rfl, ha, ty, nf, hsp⟩ := hq
  cases rx
  obtain ⟨P, Z, hP, _⟩ := kit_of I ry ty
  obtain ⟨mA, J, _⟩ := ins_get I.hok ha
  obtain ⟨od, J, _⟩ := J.look
  show wpAny (model X.prog X.w) X.A (richCompare .NotEq (.ref a) u) (EP X pins σ Q) X.xe s
  have ny := Z.ty (model X.prog X.w) _ I.kIn hP
  have ru : X.A.in1.units < cLine := (hr.in1).units0
  have one : wpAny (model X.prog X.w) X.A (tryCompare (.ref a) "__ne__" u) (fun r s' => ∃ b : Bool, r = some (.bool b) ∧ EP X pins σ Q (.bool b) s') X.xe s := by
    unfold tryCompare
    refine wpAny_bind (ne_bound I.kIn J S.ne (wpAny_call (codeAny_call_builtin F.cmp_object.ne.plain F.cmpEntry_ne (PySem.W.check_slot F.cmpKind_ne F.cmpSplit_ne (J.type.andThen (PySem.W.looks_mroIn I.kIn S.ob)) (F.cmpArgs_ne _ _)
      (ne_body ru I.kIn J S.eq S.fn (wpAny_mono (own_call (A := X.A.in1) G hb hx rfl hr.in1 I ry hsp) (fun r s' z => ?_) fun _ _ e => e))))))
    obtain ⟨z, H', I', rz, b, rfl, q⟩ := z
    cases rz
    exact ⟨b, rfl, wpAny_pure ⟨!b, rfl, .bl (!b), H', I', rfl, q⟩⟩
  simp only [richCompare, cmpInfo_NotEq, oneThing_ref]
  refine wpAny_holding (wpAny_bind (wpAny_cRoomFor hr.units0 ?_))
  refine wpAny_bind (J.type.here (wpAny_bind (ny.here ?_)))
  split
  · rename_i q
    have e : PySem.W.subIn X.K t (.ref C) = some false := by
      rcases Bool.or_eq_true_iff.mp nf with e | e
      · rw [beq_iff_eq.mp e] at q
        simp at q
      · exact beq_iff_eq.mp e
    refine wpAny_bind ((PySem.W.looks_subIn I.kIn e).here ?_)
    simp only [Bool.false_eq_true, if_false]
    refine wpAny_bind (wpAny_mono one (fun r s' z => ?_) fun _ _ e => e)
    obtain ⟨b, rfl, z⟩ := z
    exact wpAny_pure z
  · refine wpAny_bind (wpAny_pure ?_)
    simp only [Bool.false_eq_true, if_false]
    refine wpAny_bind (wpAny_mono one (fun r s' z => ?_) fun _ _ e => e)
    obtain ⟨b, rfl, z⟩ := z
    exact wpAny_pure z
/-- a built-in type is none below an own class -/
theorem notFirst_type {K : PySem.W.Frag} {C : Addr} {T : String} (hT : T ∈ ["NoneType", "bool", "int", "str", "list", "tuple", "dict"]) : PySem.W.notFirst K C (.type T) = true := by
  have key : PySem.W.subIn K (.type T) (.ref C) = some false := by
    simp only [List.mem_cons, List.not_mem_nil, or_false] at hT
    rcases hT with rfl | rfl | rfl | rfl | rfl | rfl | rfl
    · show (fastBuiltinMro "NoneType").map (·.contains (.ref C)) = some false
      rw [show fastBuiltinMro "NoneType" = some [.type "NoneType", .type "object"] by decide +kernel]
      simp
    · show (fastBuiltinMro "bool").map (·.contains (.ref C)) = some false
      rw [show fastBuiltinMro "bool" = some [.type "bool", .type "int", .type "object"] by decide +kernel]
      simp
    · show (fastBuiltinMro "int").map (·.contains (.ref C)) = some false
      rw [show fastBuiltinMro "int" = some [.type "int", .type "object"] by decide +kernel]
      simp
    · show (fastBuiltinMro "str").map (·.contains (.ref C)) = some false
      rw [show fastBuiltinMro "str" = some [.type "str", .type "object"] by decide +kernel]
      simp
    · show (fastBuiltinMro "list").map (·.contains (.ref C)) = some false
      rw [show fastBuiltinMro "list" = some [.type "list", .type "object"] by decide +kernel]
      simp
    · show (fastBuiltinMro "tuple").map (·.contains (.ref C)) = some false
      rw [show fastBuiltinMro "tuple" = some [.type "tuple", .type "object"] by decide +kernel]
      simp
    · show (fastBuiltinMro "dict").map (·.contains (.ref C)) = some false
      rw [show fastBuiltinMro "dict" = some [.type "dict", .type "object"] by decide +kernel]
      simp
  unfold PySem.W.notFirst
  rw [key]
  simp
theorem notFirst_own {K : PySem.W.Frag} {C : Addr} : PySem.W.notFirst K C (.ref C) = true := by
  unfold PySem.W.notFirst
  simp
end
end Own

set_option Elab.async false
set_option linter.all false
set_option maxRecDepth 100000
set_option maxHeartbeats 4000000
namespace K17
open PySem PySem.Spec PyProof.Rows L2 Own
theorem scSame : FnScope ["_law_found", "_law_due", "_law_mine", "_law_theirs"] ["_law_found", "_law_due"] (defScope sSame) := ⟨rfl, rfl, rfl, by decide +kernel, rfl, by decide +kernel, by decide +kernel⟩
/-! ### equal trees -/
def Eqt (K : PySem.W.Frag) (C : Addr) : Nat → Hp → V → V → Prop
  | 0, H, v, u => v = u ∧ Lf K C H u
  | n + 1, H, v, u => (v = u ∧ Lf K C H u) ∨
      (∃ (a b : Addr) (xs ys : List V), v = .ref a ∧ u = .ref b ∧ H a = some (.lst xs) ∧ H b = some (.lst ys) ∧ Paired (Eqt K C n H) xs ys ∧ xs.length ≤ 1000) ∨
      (∃ (a b : Addr) (xs ys : List V), v = .ref a ∧ u = .ref b ∧ H a = some (.tup xs) ∧ H b = some (.tup ys) ∧ Paired (Eqt K C n H) xs ys ∧ xs.length ≤ 1000) ∨
      (2 ≤ n ∧ ∃ (a b : Addr) (kvs : List (Key × V)), v = .ref a ∧ u = .ref b ∧ H a = some (.dK kvs) ∧ H b = some (.dK kvs) ∧ (∀ p ∈ kvs, atomV p.2 = true) ∧ kvs.length ≤ 1000)
theorem eqt_leaf {K : PySem.W.Frag} {C : Addr} {n : Nat} {H : Hp} {v : V} (h : Lf K C H v) : Eqt K C n H v v := by
  cases n with
  | zero => exact ⟨rfl, h⟩
  | succ n => exact .inl ⟨rfl, h⟩
theorem eqt_atom {K : PySem.W.Frag} {C : Addr} {n : Nat} {H : Hp} {v : V} (h : atomV v = true) : Eqt K C n H v v := eqt_leaf (.inl h)
/-- all but tables stays -/
abbrev Ext (H H' : Hp) : Prop := LamX.ExtN H H'
theorem paired_imp {α β : Type} {F G : α → β → Prop} : ∀ {xs : List α} {ys : List β}, Paired F xs ys → (∀ a b, F a b → G a b) → Paired G xs ys
  | _, _, .nil, _ => .nil
  | _, _, .cons h t, k => .cons (k _ _ h) (paired_imp t k)
theorem Lf.ext {K : PySem.W.Frag} {C : Addr} {H H' : Hp} {v : V} (h : Lf K C H v) (e : Ext H H') : Lf K C H' v := by
  rcases h with h | h | ⟨x, rfl, dx, p, q, h1, h2, h3⟩
  · exact .inl h
  · exact .inr (.inl h)
  · exact .inr (.inr ⟨x, rfl, dx, p, q, e _ _ h1 (fun t z => by cases z), e _ _ h2 (fun t z => by cases z), e _ _ h3 (fun t z => by cases z)⟩)
theorem Eqt.ext {K : PySem.W.Frag} {C : Addr} : ∀ {n : Nat} {H H' : Hp} {v u : V}, Eqt K C n H v u → Ext H H' → Eqt K C n H' v u
  | 0, _, _, _, _, h, e => ⟨h.1, h.2.ext e⟩
  | n + 1, H, H', v, u, h, e => by
    rcases h with h | ⟨a, b, xs, ys, rfl, rfl, ha, hb, p, l⟩ | ⟨a, b, xs, ys, rfl, rfl, ha, hb, p, l⟩ | ⟨hn, a, b, kvs, rfl, rfl, ha, hb, p⟩
    · exact .inl ⟨h.1, h.2.ext e⟩
    · exact .inr (.inl ⟨a, b, xs, ys, rfl, rfl, e _ _ ha (fun t z => by cases z), e _ _ hb (fun t z => by cases z), paired_imp p fun _ _ q => Eqt.ext q e, l⟩)
    · exact .inr (.inr (.inl ⟨a, b, xs, ys, rfl, rfl, e _ _ ha (fun t z => by cases z), e _ _ hb (fun t z => by cases z), paired_imp p fun _ _ q => Eqt.ext q e, l⟩))
    · exact .inr (.inr (.inr ⟨hn, a, b, kvs, rfl, rfl, e _ _ ha (fun t z => by cases z), e _ _ hb (fun t z => by cases z), p⟩))
theorem ext_of {H H' : Hp} (e : Same H H') : Ext H H' := fun b o h _ => e b o h
def spEq4 (C : Addr) : Sp := fun vs H Q _ => ∃ x : Addr, vs = [.ref x, .ref x] ∧ Hou C H x ∧ Q (.bl true) H
def spSame (K : PySem.W.Frag) (C : Addr) (n : Nat) : Sp := fun vs H Q _ => ∃ v u : V, vs = [v, u] ∧ Eqt K C n H v u ∧ ∀ H', Same H H' → Q (.bl true) H'
/-- zip of two tuples, as one walk -/
theorem walk_zipT {K : PySem.W.Frag} {a b : Addr} {xs ys : List V} {n : Nat} (hn : n = min xs.length ys.length) : Walk (RZ.ItzT K a b) n (fun H => SqT K H a xs ∧ SqT K H b ys) (YPair (fun i => xs[i]?) (fun i => ys[i]?)) := by
  subst hn
  refine ⟨fun i _ hi q => ?_, fun _ q => ⟨xs, ys, q.1, q.2, by omega⟩, fun i H v H' _ q y => ?_⟩
  · have h1 : i < xs.length := by omega
    have h2 : i < ys.length := by omega
    exact ⟨xs, ys, xs[i], ys[i], q.1, q.2, by simp [h1], by simp [h2]⟩
  · obtain ⟨T, x, z, h1, h2, h3, h4, h5⟩ := y
    exact ⟨T, x, z, h1, h2, h3, h4 xs q.1, h5 ys q.2⟩
theorem paired_at {α β : Type} {F : α → β → Prop} : ∀ {xs : List α} {ys : List β} {i : Nat} {x : α} {y : β}, Paired F xs ys → xs[i]? = some x → ys[i]? = some y → F x y
  | _, _, 0, _, _, .cons h t, e1, e2 => by
    cases e1
    cases e2
    exact h
  | _, _, i + 1, x, y, .cons h t, e1, e2 => paired_at (i := i) t e1 e2
section
variable {P : Program} {w : World} {K : PySem.W.Frag} {mg : Str → Option Value} {base : Heap} {C : Addr}
theorem scal_atom {u : V} (h : atomV u = true) : scal u u = true := by
  cases u <;> first | rfl | cases h
theorem eq_done {u : V} {H : Hp} {Q : VK} (h : Q (.bl true) H) : Q (.bl (decide (u = u))) H := by
  rw [decide_eq_true rfl]
  exact h
theorem two_fit : 2 ≤ sizeLine := by decide
theorem three_fit : 3 ≤ sizeLine := by decide
theorem atom_key (k : Key) : atomV (kV k) = true := by
  cases k with
  | inl i => rfl
  | inr x => rfl
theorem items_eqt {H : Hp} {m : Nat} : ∀ {ts us : List Addr} {kvs : List (Key × V)}, Paired (fun (t : Addr) (q : Key × V) => H t = some (.tup [kV q.1, q.2])) ts kvs → Paired (fun (t : Addr) (q : Key × V) => H t = some (.tup [kV q.1, q.2])) us kvs →
    (∀ p ∈ kvs, atomV p.2 = true) → Paired (Eqt K C (m + 1) H) (ts.map V.ref) (us.map V.ref)
  | _, _, _, .nil, .nil, _ => .nil
  | _, _, p :: kvs, .cons h1 t1, .cons h2 t2, hp => .cons
      (.inr (.inr (.inl ⟨_, _, _, _, rfl, rfl, h1, h2, .cons (eqt_atom (atom_key p.1)) (.cons (eqt_atom (hp p List.mem_cons_self)) .nil), by show 2 ≤ 1000; decide⟩)))
      (items_eqt t1 t2 fun q hq => hp q (List.mem_cons_of_mem _ hq))
theorem step_same (hk : HKn K C) {fE : Addr} {fdE : FuncData} (S : Eqs K C fE) (GE : FnOk P w K mg base CX0 1 fE fdE ["self", "other"] (spEq4 C)) (bE : Binds K fdE ["self", "other"] []) {f : Addr} {fd : FuncData} (F : Fun K "_law_same" "_law_same" sSame f fd) (T : Bt mg) (gS : mg "_law_same" = some (.ref f)) (bS : Binds K fd ["_law_found", "_law_due"] [])
    (n : Nat) (sp : Sp) (G : FnOk P w K mg base CX0 (n + 1) f fd ["_law_found", "_law_due"] sp) (hsub : ∀ m, n = m + 1 → sp = spSame K C m) : FnOk P w K mg base CX0 (n + 2) f fd ["_law_found", "_law_due"] (spSame K C n) := by
  refine F.ok scSame (fun vs H Q E h => ?_) (fun cdv A outer s H vs Q E hr h => ?_)
  · obtain ⟨v, u, rfl, _⟩ := h
    rfl
  · obtain ⟨v, u, rfl, h, k⟩ := h
    have hs : (v = u ∧ Lf K C H u) ∨ (∃ m, n = m + 1 ∧ (
        (∃ (a b : Addr) (xs ys : List V), v = .ref a ∧ u = .ref b ∧ H a = some (.lst xs) ∧ H b = some (.lst ys) ∧ Paired (Eqt K C m H) xs ys ∧ xs.length ≤ 1000) ∨
        (∃ (a b : Addr) (xs ys : List V), v = .ref a ∧ u = .ref b ∧ H a = some (.tup xs) ∧ H b = some (.tup ys) ∧ Paired (Eqt K C m H) xs ys ∧ xs.length ≤ 1000) ∨
        (2 ≤ m ∧ ∃ (a b : Addr) (kvs : List (Key × V)), v = .ref a ∧ u = .ref b ∧ H a = some (.dK kvs) ∧ H b = some (.dK kvs) ∧ (∀ p ∈ kvs, atomV p.2 = true) ∧ kvs.length ≤ 1000))) := by
      cases n with
      | zero => exact .inl h
      | succ m =>
        rcases h with h | h
        · exact .inl h
        · exact .inr ⟨m, rfl, h⟩
    refine ⟨_, (pss_cons (ps_if (pt_val (pe_callB call_isiTY (by rfl) T.isi (by decide +kernel) (pa_cons (pv 1) (pa_cons (pe_tup (pa_cons (pe_bltn (v := .ty "list") (by rfl) T.list (by decide +kernel) rfl) (pa_cons (pe_bltn (v := .ty "tuple") (by rfl) T.tuple (by decide +kernel) rfl) pa_nil))) pa_nil)))) (pss_cons (ps_if (PW.pt (pw_or (pt_cmpR op_ne (pe_callB call_isiY (by rfl) T.isi (by decide +kernel) (pa_cons (pv 0) (pa_cons (pe_bltn (v := .ty "list") (by rfl) T.list (by decide +kernel) rfl) pa_nil))) (pe_callB call_isiY (by rfl) T.isi (by decide +kernel) (pa_cons (pv 1) (pa_cons (pe_bltn (v := .ty "list") (by rfl) T.list (by decide +kernel) rfl) pa_nil))) (nomark _)) (pw_or1 (pt_cmpR op_ne (pe_callB call_isiY (by rfl) T.isi (by decide +kernel) (pa_cons (pv 0) (pa_cons (pe_bltn (v := .ty "tuple") (by rfl) T.tuple (by decide +kernel) rfl) pa_nil))) (pe_callB call_isiY (by rfl) T.isi (by decide +kernel) (pa_cons (pv 1) (pa_cons (pe_bltn (v := .ty "tuple") (by rfl) T.tuple (by decide +kernel) rfl) pa_nil))) (nomark _))))) (pss_one (ps_ret pe_bl)) pss_nil)
  (pss_one (ps_ret (pe_and (pe_cmpR op_eq (pe_callB call_len_seq (by rfl) T.len (by decide +kernel) (pa_cons (pv 0) pa_nil)) (pe_callB call_len_seq (by rfl) T.len (by decide +kernel) (pa_cons (pv 1) pa_nil)) (nomark _)) (pe_one (pe_callB (cr_all rfl) (by rfl) T.all (by decide +kernel) (pa_cons (pe_lc (own := [("_law_mine", 2), ("_law_theirs", 3)]) (g := gTup K 2 (gCons (gName 2) (gCons (gName 3) gNil))) (tt := tYes) rfl scSame.nd (RZ.pi_zipA (by rfl) T.zip (pa_cons (pv 0) (pa_cons (pv 1) pa_nil))) (blkOk_by (N := ["_law_found", "_law_due", "_law_mine", "_law_theirs"]) (sc := defScope sSame) (by decide +kernel)) (fun _ _ _ _ _ => (pg_tup rfl (pgs_cons (pg_name (i := 2) (x := "_law_mine") scSame.nd rfl (Or.inl rfl)) (pgs_cons (pg_name (i := 3) (x := "_law_theirs") scSame.nd rfl (Or.inl rfl)) pgs_nil)))) (fun _ _ _ _ _ => pts_nil) (fun _ _ _ _ _ => (pe_call G hr (by rfl) gS F.kp bS .nil pass0 (pa_cons (pv 2) (pa_cons (pv 3) pa_nil))))) pa_nil))))))) pss_nil)
  (pss_cons (ps_if (pt_val (pe_callB call_isiY (by rfl) T.isi (by decide +kernel) (pa_cons (pv 1) (pa_cons (pe_bltn (v := .ty "dict") (by rfl) T.dict (by decide +kernel) rfl) pa_nil)))) (pss_one (ps_ret (pe_and (pe_callB call_isiY (by rfl) T.isi (by decide +kernel) (pa_cons (pv 0) (pa_cons (pe_bltn (v := .ty "dict") (by rfl) T.dict (by decide +kernel) rfl) pa_nil))) (pe_one (pe_call G hr (by rfl) gS F.kp bS .nil pass0 (pa_cons (LiI.pe_listItems rfl (pv 0) (by rfl) T.list (by decide +kernel)) (pa_cons (LiI.pe_listItems rfl (pv 1) (by rfl) T.list (by decide +kernel)) pa_nil))))))) pss_nil)
  (pss_cons (ps_if (PW.pt (pw_or (pt_val (pe_callB call_isiY (by rfl) T.isi (by decide +kernel) (pa_cons (pv 1) (pa_cons (pe_bltn (v := .ty "bool") (by rfl) T.bool (by decide +kernel) rfl) pa_nil)))) (pw_or1 (pt_val (pe_callB call_isiY (by rfl) T.isi (by decide +kernel) (pa_cons (pv 0) (pa_cons (pe_bltn (v := .ty "bool") (by rfl) T.bool (by decide +kernel) rfl) pa_nil))))))) (pss_one (ps_ret (pe_and (pe_callB call_isiY (by rfl) T.isi (by decide +kernel) (pa_cons (pv 1) (pa_cons (pe_bltn (v := .ty "bool") (by rfl) T.bool (by decide +kernel) rfl) pa_nil))) (pe_and (pe_callB call_isiY (by rfl) T.isi (by decide +kernel) (pa_cons (pv 0) (pa_cons (pe_bltn (v := .ty "bool") (by rfl) T.bool (by decide +kernel) rfl) pa_nil))) (pe_one (pe_cmpR op_eq (pv 0) (pv 1) (nomark _))))))) pss_nil)
  (pss_one (ps_ret (pe_and (pe_not (pe_callB call_isiTY (by rfl) T.isi (by decide +kernel) (pa_cons (pv 0) (pa_cons (pe_tup (pa_cons (pe_bltn (v := .ty "list") (by rfl) T.list (by decide +kernel) rfl) (pa_cons (pe_bltn (v := .ty "tuple") (by rfl) T.tuple (by decide +kernel) rfl) (pa_cons (pe_bltn (v := .ty "dict") (by rfl) T.dict (by decide +kernel) rfl) pa_nil)))) pa_nil)))) (pe_one (pe_cmpR (op_or (op_or op_eq (op_eqF (Nat.lt_of_le_of_lt (Nat.le_add_right _ 64) hr.units))) (op_eqO S GE bE (hr.mono (by omega)) pass0)) (pv 0) (pv 1) (nomark _))))))))), ?_⟩
    rcases hs with ⟨rfl, ha⟩ | ⟨m, rfl, ⟨a, b, xs, ys, rfl, rfl, ha, hb, hp, hl⟩ | ⟨a, b, xs, ys, rfl, rfl, ha, hb, hp, hl⟩ | ⟨hm, a, b, kvs, rfl, rfl, ha, hb, hp, hl⟩⟩
    · obtain ⟨Ty, i, c, z, ty, ka, hI, hab⟩ := lf_ty hk ha
      refine ⟨_, rfl, two_fit, fun tp htp => ?_⟩
      have e1 := same_new (o := HO.tup [V.ty "list", V.ty "tuple"]) htp
      have ty1 := ty.grow e1
      refine ⟨_, tp, _, _, _, false, rfl, upd_same, .cons (.ty _) (.cons (.ty _) .nil), ty1.now, any2 ka.l ka.u rfl, _, rfl, iteF ?_⟩
      refine ⟨_, rfl, _, _, _, _, false, rfl, .ty _, ty1.now, ka.d, _, rfl, iteF ?_⟩
      refine ⟨_, rfl, _, _, _, _, c, rfl, .ty _, ty1.now, ka.b, _, rfl, ?_⟩
      cases c with
      | true =>
        have ab : atomV v = true := hab rfl
        refine iteT (iteT ?_)
        refine ⟨_, rfl, _, _, _, _, true, rfl, .ty _, ty1.now, ka.b, _, rfl, iteT ⟨_, rfl, _, _, _, _, true, rfl, .ty _, ty1.now, ka.b, _, rfl, iteT ⟨_, rfl, _, rfl, scal_atom ab, ?_⟩⟩⟩
        exact eq_done (k _ e1)
      | false =>
        refine iteF ⟨_, rfl, _, _, _, _, false, rfl, .ty _, ty1.now, ka.b, _, rfl, iteF ?_⟩
        refine ⟨_, rfl, three_fit, fun tq htq => ?_⟩
        have e2 := same_new (o := HO.tup [V.ty "list", V.ty "tuple", V.ty "dict"]) htq
        have ty2 := ty1.grow e2
        refine ⟨_, tq, _, _, _, false, rfl, upd_same, .cons (.ty _) (.cons (.ty _) (.cons (.ty _) .nil)), ty2.now, any3 ka.l ka.u ka.d rfl, _, rfl, _, rfl, iteT ⟨_, rfl, _, rfl, ?_⟩⟩
        have kk := k _ (e1.trans e2)
        rcases ha with ha | ⟨f, o, rfl, h1, h2⟩ | ⟨x, rfl, hx⟩
        · exact .inl (.inl ⟨scal_atom ha, eq_done kk⟩)
        · exact .inl (.inr ⟨f, o, rfl, rfl, h1, h2, kk⟩)
        · have hx2 := hx.same (e1.trans e2)
          obtain ⟨dx, p, q, y1, y2, y3⟩ := hx2
          exact .inr ⟨x, dx, _, .ref C, rfl, y1, .base (.ins y1 hk.hc.cl hk.ha hk.hn hk.ht hk.hm), hk.nf, x, rfl, ⟨dx, p, q, y1, y2, y3⟩, true, rfl, kk⟩
    · obtain rfl := hsub m rfl
      have tyA : TyG K H (.ref a) (.type "list") := fun H' e => .inl (.base (.lst (e _ _ ha)))
      have tyB : TyG K H (.ref b) (.type "list") := fun H' e => .inl (.base (.lst (e _ _ hb)))
      have kL : kitB "list" "list" = some true := by decide +kernel
      have kT : kitB "list" "tuple" = some false := by decide +kernel
      refine ⟨_, rfl, two_fit, fun tp htp => ?_⟩
      have e1 := same_new (o := HO.tup [V.ty "list", V.ty "tuple"]) htp
      have tA := tyA.grow e1
      have tB := tyB.grow e1
      refine ⟨_, tp, _, _, _, true, rfl, upd_same, .cons (.ty _) (.cons (.ty _) .nil), tB.now, kit2 kL kT rfl, _, rfl, iteT ?_⟩
      refine ⟨_, rfl, _, _, _, _, true, rfl, .ty _, tA.now, kit_ty kL, _, rfl, _, _, _, _, true, rfl, .ty _, tB.now, kit_ty kL, rfl, false, rfl, iteF ?_⟩
      refine ⟨_, rfl, _, _, _, _, false, rfl, .ty _, tA.now, kit_ty kT, _, rfl, _, _, _, _, false, rfl, .ty _, tB.now, kit_ty kT, rfl, false, rfl, iteF ?_⟩
      refine ⟨_, rfl, a, xs, rfl, .inl (SqL.of (e1 _ _ ha)), _, rfl, b, ys, rfl, .inl (SqL.of (e1 _ _ hb)), rfl, true, ?_, iteT ?_⟩
      · exact congrArg V.bl (decide_eq_true (congrArg V.int (congrArg Int.ofNat hp.length)))
      · refine ⟨_, rfl, _, rfl, a, b, xs, ys, rfl, .inl ⟨SqL.of (e1 _ _ ha), SqL.of (e1 _ _ hb), fun D hD => ?_⟩⟩
        have e2 := same_new (o := HO.lst []) hD
        refine lc_it (walk_zip (xs := xs) (ys := ys) (n := xs.length) (by rw [← hp.length]; simp)) (fun i H' => Same (upd H tp (.tup [V.ty "list", V.ty "tuple"])) H' ∧ H' D = some (.lst (List.replicate i (V.bl true)))) ⟨e2, upd_same⟩ (fun i H' _ q => ⟨SqL.of (q.1 _ _ (e1 _ _ ha)), SqL.of (q.1 _ _ (e1 _ _ hb))⟩) ?_ ?_
        · rintro i x H3 H4 hi ⟨q1, q2⟩ ⟨t, x1, y1, rfl, ht, rfl, hx, hy⟩
          have e3 := same_new (o := HO.tup [x1, y1]) ht
          refine ⟨t, _, rfl, SqT.of upd_same, rfl, _, _, rfl, _, _, rfl, rfl, rfl, ?_⟩
          dsimp only [tYes]
          refine iteT ?_
          refine ⟨_, rfl, _, rfl, x1, y1, rfl, (paired_at hp hx hy).ext (ext_of ((e1.trans q1).trans e3)), fun H5 e5 => ?_⟩
          refine ⟨List.replicate i (V.bl true), e5 _ _ (e3 _ _ q2), ?_, fun p o z => ?_, ?_⟩
          · rw [List.length_replicate]
            exact Nat.lt_of_lt_of_le hi (Nat.le_trans hl (by decide))
          · have np : p ≠ D := ne_of_none z hD
            rw [upd_ne np]
            exact e5 _ _ (e3 _ _ (q1 _ _ z))
          · rw [upd_same, List.replicate_succ']
        · rintro H3 ⟨q1, q2⟩
          refine ⟨D, List.replicate xs.length true, rfl, SqL.of ?_, ?_⟩
          · rw [List.map_replicate]
            exact q2
          · have z : (List.replicate xs.length true).all id = true := by simp
            rw [z]
            exact k _ (e1.trans q1)
    · obtain rfl := hsub m rfl
      have tyA : TyG K H (.ref a) (.type "tuple") := fun H' e => .inl (.base (.tup (e _ _ ha)))
      have tyB : TyG K H (.ref b) (.type "tuple") := fun H' e => .inl (.base (.tup (e _ _ hb)))
      have kL : kitB "tuple" "list" = some false := by decide +kernel
      have kT : kitB "tuple" "tuple" = some true := by decide +kernel
      refine ⟨_, rfl, two_fit, fun tp htp => ?_⟩
      have e1 := same_new (o := HO.tup [V.ty "list", V.ty "tuple"]) htp
      have tA := tyA.grow e1
      have tB := tyB.grow e1
      refine ⟨_, tp, _, _, _, true, rfl, upd_same, .cons (.ty _) (.cons (.ty _) .nil), tB.now, kit2 kL kT rfl, _, rfl, iteT ?_⟩
      refine ⟨_, rfl, _, _, _, _, false, rfl, .ty _, tA.now, kit_ty kL, _, rfl, _, _, _, _, false, rfl, .ty _, tB.now, kit_ty kL, rfl, false, rfl, iteF ?_⟩
      refine ⟨_, rfl, _, _, _, _, true, rfl, .ty _, tA.now, kit_ty kT, _, rfl, _, _, _, _, true, rfl, .ty _, tB.now, kit_ty kT, rfl, false, rfl, iteF ?_⟩
      refine ⟨_, rfl, a, xs, rfl, .inr (SqT.of (e1 _ _ ha)), _, rfl, b, ys, rfl, .inr (SqT.of (e1 _ _ hb)), rfl, true, ?_, iteT ?_⟩
      · exact congrArg V.bl (decide_eq_true (congrArg V.int (congrArg Int.ofNat hp.length)))
      · refine ⟨_, rfl, _, rfl, a, b, xs, ys, rfl, .inr ⟨SqT.of (e1 _ _ ha), SqT.of (e1 _ _ hb), fun D hD => ?_⟩⟩
        have e2 := same_new (o := HO.lst []) hD
        refine lc_it (walk_zipT (xs := xs) (ys := ys) (n := xs.length) (by rw [← hp.length]; simp)) (fun i H' => Same (upd H tp (.tup [V.ty "list", V.ty "tuple"])) H' ∧ H' D = some (.lst (List.replicate i (V.bl true)))) ⟨e2, upd_same⟩ (fun i H' _ q => ⟨SqT.of (q.1 _ _ (e1 _ _ ha)), SqT.of (q.1 _ _ (e1 _ _ hb))⟩) ?_ ?_
        · rintro i x H3 H4 hi ⟨q1, q2⟩ ⟨t, x1, y1, rfl, ht, rfl, hx, hy⟩
          have e3 := same_new (o := HO.tup [x1, y1]) ht
          refine ⟨t, _, rfl, SqT.of upd_same, rfl, _, _, rfl, _, _, rfl, rfl, rfl, ?_⟩
          dsimp only [tYes]
          refine iteT ?_
          refine ⟨_, rfl, _, rfl, x1, y1, rfl, (paired_at hp hx hy).ext (ext_of ((e1.trans q1).trans e3)), fun H5 e5 => ?_⟩
          refine ⟨List.replicate i (V.bl true), e5 _ _ (e3 _ _ q2), ?_, fun p o z => ?_, ?_⟩
          · rw [List.length_replicate]
            exact Nat.lt_of_lt_of_le hi (Nat.le_trans hl (by decide))
          · have np : p ≠ D := ne_of_none z hD
            rw [upd_ne np]
            exact e5 _ _ (e3 _ _ (q1 _ _ z))
          · rw [upd_same, List.replicate_succ']
        · rintro H3 ⟨q1, q2⟩
          refine ⟨D, List.replicate xs.length true, rfl, SqL.of ?_, ?_⟩
          · rw [List.map_replicate]
            exact q2
          · have z : (List.replicate xs.length true).all id = true := by simp
            rw [z]
            exact k _ (e1.trans q1)
    · obtain rfl := hsub m rfl
      have tyA : TyG K H (.ref a) (.type "dict") := fun H' e => .inl (.base (.dK (e _ _ ha)))
      have tyB : TyG K H (.ref b) (.type "dict") := fun H' e => .inl (.base (.dK (e _ _ hb)))
      have kD : kitB "dict" "dict" = some true := by decide +kernel
      refine ⟨_, rfl, two_fit, fun tp htp => ?_⟩
      have e1 := same_new (o := HO.tup [V.ty "list", V.ty "tuple"]) htp
      have tA := tyA.grow e1
      have tB := tyB.grow e1
      refine ⟨_, tp, _, _, _, false, rfl, upd_same, .cons (.ty _) (.cons (.ty _) .nil), tB.now, kit2 (T := "dict") (x := false) (y := false) (by decide +kernel) (by decide +kernel) rfl, _, rfl, iteF ?_⟩
      refine ⟨_, rfl, _, _, _, _, true, rfl, .ty _, tB.now, kit_ty kD, _, rfl, iteT ?_⟩
      refine ⟨_, rfl, _, _, _, _, true, rfl, .ty _, tA.now, kit_ty kD, _, rfl, iteT ?_⟩
      refine ⟨_, rfl, a, kvs, rfl, e1 _ _ ha, fun H2 p ts e2 _ _ _ hl2 hp2 => ?_⟩
      refine ⟨_, rfl, b, kvs, rfl, e2 _ _ (e1 _ _ hb), fun H3 q us e3 _ _ _ hl3 hp3 => ?_⟩
      refine ⟨.ref p, .ref q, rfl, ?_, fun H4 e4 => k _ (((e1.trans e2).trans e3).trans e4)⟩
      obtain ⟨m2, rfl⟩ : ∃ m2, m = m2 + 2 := ⟨m - 2, by omega⟩
      have hp2' := paired_imp hp2 fun t q z => e3 _ _ z
      refine .inr (.inl ⟨p, q, _, _, rfl, rfl, e3 _ _ hl2, hl3, items_eqt hp2' hp3 hp, ?_⟩)
      rw [List.length_map, hp2.length]
      exact hl
theorem ok_same (hk : HKn K C) {fE : Addr} {fdE : FuncData} (S : Eqs K C fE) (GE : FnOk P w K mg base CX0 1 fE fdE ["self", "other"] (spEq4 C)) (bE : Binds K fdE ["self", "other"] []) {f : Addr} {fd : FuncData} (F : Fun K "_law_same" "_law_same" sSame f fd) (T : Bt mg) (gS : mg "_law_same" = some (.ref f)) (bS : Binds K fd ["_law_found", "_law_due"] []) :
    ∀ n : Nat, FnOk P w K mg base CX0 (n + 2) f fd ["_law_found", "_law_due"] (spSame K C n)
  | 0 => step_same hk S GE bE F T gS bS 0 (fun _ _ _ _ => False) ⟨fun _ _ _ _ z => z.elim, fun _ _ _ _ _ _ _ _ _ _ _ _ _ z => z.elim⟩ fun m z => by omega
  | n + 1 => step_same hk S GE bE F T gS bS (n + 1) (spSame K C n) (ok_same hk S GE bE F T gS bS n) fun m z => by
    have e : n = m := by omega
    rw [e]
end
end K17

set_option Elab.async false
set_option linter.all false
set_option maxRecDepth 100000
set_option maxHeartbeats 4000000
namespace K17
open PySem PySem.Spec PyProof.Rows L2 Own
/-! ### rings of roads of length 0: a line of places, its roads and two shortcuts, and one road back -/
/-- where ranks rise along all edges nobody comes back -/
theorem rch_rank {es : List (Int × Int)} (rk : Int → Nat) (h : ∀ a b, (a, b) ∈ es → rk a < rk b) : ∀ {a b : Int}, Rch es a b → rk a < rk b := fun {a b} r => by
  induction r with
  | one h1 => exact h _ _ h1
  | step _ h2 ih => exact Nat.lt_trans ih (h _ _ h2)
theorem Rch.mono {es fs : List (Int × Int)} (k : ∀ e ∈ es, e ∈ fs) : ∀ {a b : Int}, Rch es a b → Rch fs a b := fun {a b} r => by
  induction r with
  | one h1 => exact .one (k _ h1)
  | step _ h2 ih => exact .step ih (k _ h2)
theorem Rch.trans {es : List (Int × Int)} {a b c : Int} (r : Rch es a b) (q : Rch es b c) : Rch es a c := by
  induction q with
  | one h1 => exact .step r h1
  | step _ h2 ih => exact .step ih h2
def Rz (es : List (Int × Int)) (a b : Int) : Prop := a = b ∨ Rch es a b
theorem Rz.trans {es : List (Int × Int)} {a b c : Int} (r : Rz es a b) (q : Rz es b c) : Rz es a c := by
  rcases r with rfl | r
  · exact q
  · rcases q with rfl | q
    · exact .inr r
    · exact .inr (r.trans q)
theorem Rz.one {es : List (Int × Int)} {a b : Int} (h : (a, b) ∈ es) : Rz es a b := .inr (.one h)
theorem Rz.go {es : List (Int × Int)} {a b : Int} (r : Rz es a b) (n : a ≠ b) : Rch es a b := r.elim (fun z => absurd z n) id
/-- along a line, from the i-th to the j-th -/
theorem rz_line {es : List (Int × Int)} (o : Nat → Int) {i : Nat} : ∀ {d : Nat}, (∀ k, i ≤ k → k < i + d → (o k, o (k + 1)) ∈ es) → Rz es (o i) (o (i + d))
  | 0, _ => .inl rfl
  | d + 1, h => (rz_line o (d := d) fun k k1 k2 => h k k1 (by omega)).trans (.one (h (i + d) (by omega) (by omega)))
theorem rz_to {es : List (Int × Int)} (o : Nat → Int) {i j : Nat} (ij : i ≤ j) (h : ∀ k, i ≤ k → k < j → (o k, o (k + 1)) ∈ es) : Rz es (o i) (o j) := by
  have z := rz_line (es := es) o (i := i) (d := j - i) fun k k1 k2 => h k k1 (by omega)
  rw [show i + (j - i) = j by omega] at z
  exact z
abbrev Ed := Int × Int × Int × Int
def pr (e : Ed) : Int × Int := (e.1, e.2.1)
/-- the roads of the ring: back, and those of the row -/
structure RingL (m s : Nat) (o : Nat → Int) (rk : Int → Nat) (L : List Ed) : Prop where
  m3 : 3 ≤ m
  s2 : 2 ≤ s
  sm : s ≤ m
  r : ∀ k, k < m → rk (o k) = k
  nd : L.Nodup
  all : ∀ e ∈ L, e = (o (s - 1), o 0, 0, 5) ∨ e = (o 0, o (m - 1), 0, 2) ∨ e = (o 0, o 2, 0, 1) ∨ ∃ i, i + 1 < m ∧ e = (o i, o (i + 1), 0, 1)
  back : (o (s - 1), o 0, 0, 5) ∈ L
  long : (o 0, o (m - 1), 0, 2) ∈ L
  short : (o 0, o 2, 0, 1) ∈ L
  line : ∀ i, i + 1 < m → (o i, o (i + 1), 0, 1) ∈ L
/-- the road at j closes a ring -/
def Clo (L : List Ed) (j : Nat) : Prop := ∃ e, L[j]? = some e ∧ Rch ((L.take j).map pr) e.2.1 e.1
theorem take_at {α : Type} : ∀ {L : List α} {j n : Nat} {e : α}, L[n]? = some e → n < j → e ∈ L.take j
  | [], _, _, _, h, _ => by cases h
  | x :: r, j + 1, 0, e, h, _ => by
    rw [List.take_succ_cons, show x = e from Option.some.inj h]
    exact List.mem_cons_self
  | x :: r, j + 1, n + 1, e, h, k => by
    rw [List.take_succ_cons]
    exact List.mem_cons_of_mem _ (take_at (L := r) h (by omega))
theorem at_take {α : Type} : ∀ {L : List α} {j : Nat} {e : α}, e ∈ L.take j → ∃ n, n < j ∧ L[n]? = some e
  | [], j, e, h => by
    rw [List.take_nil] at h
    cases h
  | x :: r, 0, e, h => by cases h
  | x :: r, j + 1, e, h => by
    rw [List.take_succ_cons] at h
    rcases List.mem_cons.mp h with rfl | h
    · exact ⟨0, by omega, rfl⟩
    · obtain ⟨n, h1, h2⟩ := at_take h
      exact ⟨n + 1, by omega, h2⟩
theorem nodup_at {α : Type} : ∀ {L : List α} {i j : Nat} {e : α}, L.Nodup → L[i]? = some e → L[j]? = some e → i = j
  | [], _, _, _, _, h, _ => by cases h
  | x :: r, 0, 0, _, _, _, _ => rfl
  | x :: r, 0, j + 1, e, nd, h, k => by
    have z : x = e := Option.some.inj h
    subst z
    exact absurd (List.mem_of_getElem? (l := r) k) (List.nodup_cons.mp nd).1
  | x :: r, i + 1, 0, e, nd, h, k => by
    have z : x = e := Option.some.inj k
    subst z
    exact absurd (List.mem_of_getElem? (l := r) h) (List.nodup_cons.mp nd).1
  | x :: r, i + 1, j + 1, e, nd, h, k => by rw [nodup_at (List.nodup_cons.mp nd).2 (show r[i]? = some e from h) (show r[j]? = some e from k)]
/-- where from the k-th place of the line one has come from the first, by roads of S -/
def Rn (m : Nat) (o : Nat → Int) (S : Ed → Prop) (k : Nat) : Prop := k = 0 ∨ (∀ i, i < k → S (o i, o (i + 1), 0, 1)) ∨ (2 ≤ k ∧ S (o 0, o 2, 0, 1) ∧ ∀ i, 2 ≤ i → i < k → S (o i, o (i + 1), 0, 1)) ∨ (k = m - 1 ∧ S (o 0, o (m - 1), 0, 2))
open Classical in
/-- a ring has the road back, and one of three ways to where it begins -/
theorem RingL.closed {m s : Nat} {o : Nat → Int} {rk : Int → Nat} {L : List Ed} (R : RingL m s o rk L) (S : Ed → Prop) {es : List (Int × Int)} (he : ∀ p ∈ es, ∃ e ∈ L, S e ∧ p = pr e) {a : Int} (c : Rch es a a) :
    S (o (s - 1), o 0, 0, 5) ∧ Rn m o S (s - 1) := by
  obtain ⟨m3, s2, sm, r, _, all, _⟩ := R
  by_cases hb : S (o (s - 1), o 0, 0, 5)
  · refine ⟨hb, ?_⟩
    by_cases hn : Rn m o S (s - 1)
    · exact hn
    · exfalso
      have up : ∀ a b, (a, b) ∈ es → (fun x => rk x + if Rn m o S (rk x) then m else 0) a < (fun x => rk x + if Rn m o S (rk x) then m else 0) b := fun a b h => by
        obtain ⟨e, he1, he2, he3⟩ := he _ h
        have edge : ∀ i j, i < j → j < m → a = o i → b = o j → (Rn m o S i → Rn m o S j) → (fun x => rk x + if Rn m o S (rk x) then m else 0) a < (fun x => rk x + if Rn m o S (rk x) then m else 0) b := fun i j ij jm ha hb k => by
          show rk a + (if Rn m o S (rk a) then m else 0) < rk b + (if Rn m o S (rk b) then m else 0)
          rw [ha, hb, r i (by omega), r j jm]
          by_cases q : Rn m o S i
          · rw [if_pos q, if_pos (k q)]
            omega
          · rw [if_neg q]
            omega
        rcases all e he1 with rfl | rfl | rfl | ⟨i, i1, rfl⟩
        · obtain ⟨rfl, rfl⟩ := Prod.mk.inj he3
          show rk (o (s - 1)) + (if Rn m o S (rk (o (s - 1))) then m else 0) < rk (o 0) + (if Rn m o S (rk (o 0)) then m else 0)
          rw [r _ (show s - 1 < m by omega), r 0 (by omega), if_neg hn, if_pos (show Rn m o S 0 from Or.inl rfl)]
          omega
        · obtain ⟨rfl, rfl⟩ := Prod.mk.inj he3
          exact edge 0 (m - 1) (by omega) (by omega) rfl rfl fun _ => .inr (.inr (.inr ⟨rfl, he2⟩))
        · obtain ⟨rfl, rfl⟩ := Prod.mk.inj he3
          exact edge 0 2 (by omega) (by omega) rfl rfl fun _ => .inr (.inr (.inl ⟨by omega, he2, fun i i1 i2 => by omega⟩))
        · obtain ⟨rfl, rfl⟩ := Prod.mk.inj he3
          refine edge i (i + 1) (by omega) i1 rfl rfl fun q => ?_
          rcases q with q | q | ⟨q1, q2, q3⟩ | ⟨q1, _⟩
          · refine .inr (.inl fun k hk => ?_)
            rw [show k = i by omega]
            exact he2
          · refine .inr (.inl fun k hk => ?_)
            by_cases z : k = i
            · rw [z]; exact he2
            · exact q k (by omega)
          · refine .inr (.inr (.inl ⟨by omega, q2, fun k k1 k2 => ?_⟩))
            by_cases z : k = i
            · rw [z]; exact he2
            · exact q3 k k1 (by omega)
          · omega
      exact Nat.lt_irrefl _ (rch_rank _ up c)
  · exfalso
    have up : ∀ a b, (a, b) ∈ es → rk a < rk b := fun a b h => by
      obtain ⟨e, he1, he2, he3⟩ := he _ h
      rcases all e he1 with rfl | rfl | rfl | ⟨i, i1, rfl⟩
      · exact absurd he2 hb
      all_goals obtain ⟨rfl, rfl⟩ := Prod.mk.inj he3
      · rw [r 0 (by omega), r _ (show m - 1 < m by omega)]
        omega
      · rw [r 0 (by omega), r 2 (by omega)]
        omega
      · rw [r i (by omega), r _ i1]
        omega
    exact Nat.lt_irrefl _ (rch_rank rk up c)
/-- j is the last of the places of some roads -/
def LastOf (L : List Ed) (Z : Ed → Prop) (j : Nat) : Prop := (∃ e, Z e ∧ L[j]? = some e) ∧ ∀ e, Z e → ∃ i, i ≤ j ∧ L[i]? = some e
def RingA (s : Nat) (o : Nat → Int) (e : Ed) : Prop := e = (o (s - 1), o 0, 0, 5) ∨ ∃ i, i + 1 < s ∧ e = (o i, o (i + 1), 0, 1)
def RingB (s : Nat) (o : Nat → Int) (e : Ed) : Prop := e = (o (s - 1), o 0, 0, 5) ∨ e = (o 0, o 2, 0, 1) ∨ ∃ i, 2 ≤ i ∧ i + 1 < s ∧ e = (o i, o (i + 1), 0, 1)
def RingC (m s : Nat) (o : Nat → Int) (e : Ed) : Prop := e = (o (s - 1), o 0, 0, 5) ∨ e = (o 0, o (m - 1), 0, 2)
theorem clo_by {L : List Ed} {Z : Ed → Prop} {j : Nat} (nd : L.Nodup) (h : LastOf L Z j) (c : ∀ e es, Z e → (∀ x, Z x → x ≠ e → pr x ∈ es) → Rch es e.2.1 e.1) : Clo L j := by
  obtain ⟨⟨e, ze, he⟩, al⟩ := h
  refine ⟨e, he, c e _ ze fun x zx ne => ?_⟩
  obtain ⟨i, ij, hi⟩ := al x zx
  have : i ≠ j := fun z => ne (Option.some.inj (by rw [← hi, z, he]))
  exact List.mem_map_of_mem (take_at hi (by omega))
theorem RingL.inj {m s : Nat} {o : Nat → Int} {rk : Int → Nat} {L : List Ed} (R : RingL m s o rk L) {i j : Nat} (hi : i < m) (hj : j < m) (e : o i = o j) : i = j := by
  rw [← R.r i hi, ← R.r j hj, e]
theorem RingL.cloA {m s : Nat} {o : Nat → Int} {rk : Int → Nat} {L : List Ed} (R : RingL m s o rk L) {j : Nat} (h : LastOf L (RingA s o) j) : Clo L j := by
  have s2 := R.s2
  have sm := R.sm
  refine clo_by R.nd h fun e es ze k => ?_
  have ob : (∀ i, i + 1 < s → e ≠ (o i, o (i + 1), 0, 1)) → Rz es (o 0) (o (s - 1)) := fun q => rz_to o (by omega) fun i _ i1 => k (o i, o (i + 1), 0, 1) (.inr ⟨i, by omega, rfl⟩) fun z => q i (by omega) z.symm
  rcases ze with rfl | ⟨i, i1, rfl⟩
  · refine (ob fun i i1 z => ?_).go fun z => ?_
    · have := congrArg (fun e : Ed => e.2.2.2) z
      exact absurd this (by show (5 : Int) ≠ 1; decide)
    · have := R.inj (by omega) (by omega) z
      omega
  · have bk : Rz es (o (s - 1)) (o 0) := .one (k (o (s - 1), o 0, 0, 5) (.inl rfl) fun z => absurd (congrArg (fun e : Ed => e.2.2.2) z) (by show (5 : Int) ≠ 1; decide))
    have ln : ∀ n, n + 1 < s → n ≠ i → (o n, o (n + 1)) ∈ es := fun n n1 ne => k (o n, o (n + 1), 0, 1) (.inr ⟨n, n1, rfl⟩) fun z => ne (R.inj (by omega) (by omega) (congrArg (fun e : Ed => e.1) z))
    have p1 : Rz es (o (i + 1)) (o (s - 1)) := rz_to o (by omega) fun n n1 n2 => ln n (by omega) (by omega)
    have p2 : Rz es (o 0) (o i) := rz_to o (by omega) fun n n1 n2 => ln n (by omega) (by omega)
    refine ((p1.trans bk).trans p2).go fun z => ?_
    have := R.inj (by omega) (by omega) z
    omega
theorem RingL.cloB {m s : Nat} {o : Nat → Int} {rk : Int → Nat} {L : List Ed} (R : RingL m s o rk L) (s3 : 3 ≤ s) {j : Nat} (h : LastOf L (RingB s o) j) : Clo L j := by
  have sm := R.sm
  refine clo_by R.nd h fun e es ze k => ?_
  have five : ∀ a b c d : Int, ((a, b, (0 : Int), (5 : Int)) : Ed) ≠ (c, d, 0, 1) := fun a b c d z => absurd (congrArg (fun e : Ed => e.2.2.2) z) (by show (5 : Int) ≠ 1; decide)
  rcases ze with rfl | rfl | ⟨i, i2, i1, rfl⟩
  · have p0 : Rz es (o 0) (o 2) := .one (k (o 0, o 2, 0, 1) (.inr (.inl rfl)) fun z => five _ _ _ _ z.symm)
    have p1 : Rz es (o 2) (o (s - 1)) := rz_to o (by omega) fun i i2 i1 => k (o i, o (i + 1), 0, 1) (.inr (.inr ⟨i, i2, by omega, rfl⟩)) fun z => five _ _ _ _ z.symm
    refine (p0.trans p1).go fun z => ?_
    have := R.inj (by omega) (by omega) z
    omega
  · have p1 : Rz es (o 2) (o (s - 1)) := rz_to o (by omega) fun i i2 i1 => k (o i, o (i + 1), 0, 1) (.inr (.inr ⟨i, i2, by omega, rfl⟩)) fun z => by
      have := R.inj (by omega) (by omega) (congrArg (fun e : Ed => e.1) z)
      omega
    have bk : Rz es (o (s - 1)) (o 0) := .one (k (o (s - 1), o 0, 0, 5) (.inl rfl) (five _ _ _ _))
    refine (p1.trans bk).go fun z => ?_
    have := R.inj (by omega) (by omega) z
    omega
  · have bk : Rz es (o (s - 1)) (o 0) := .one (k (o (s - 1), o 0, 0, 5) (.inl rfl) (five _ _ _ _))
    have p0 : Rz es (o 0) (o 2) := .one (k (o 0, o 2, 0, 1) (.inr (.inl rfl)) fun z => by
      have := R.inj (by omega) (by omega) (congrArg (fun e : Ed => e.1) z)
      omega)
    have ln : ∀ n, 2 ≤ n → n + 1 < s → n ≠ i → (o n, o (n + 1)) ∈ es := fun n n2 n1 ne => k (o n, o (n + 1), 0, 1) (.inr (.inr ⟨n, n2, n1, rfl⟩)) fun z => ne (R.inj (by omega) (by omega) (congrArg (fun e : Ed => e.1) z))
    have p1 : Rz es (o (i + 1)) (o (s - 1)) := rz_to o (by omega) fun n n1 n2 => ln n (by omega) (by omega) (by omega)
    have p2 : Rz es (o 2) (o i) := rz_to o (by omega) fun n n1 n2 => ln n (by omega) (by omega) (by omega)
    refine (((p1.trans bk).trans p0).trans p2).go fun z => ?_
    have := R.inj (by omega) (by omega) z
    omega
theorem RingL.cloC {m s : Nat} {o : Nat → Int} {rk : Int → Nat} {L : List Ed} (R : RingL m s o rk L) (e0 : s = m) {j : Nat} (h : LastOf L (RingC m s o) j) : Clo L j := by
  refine clo_by R.nd h fun e es ze k => ?_
  have five : ∀ a b c d : Int, ((a, b, (0 : Int), (5 : Int)) : Ed) ≠ (c, d, 0, 2) := fun a b c d z => absurd (congrArg (fun e : Ed => e.2.2.2) z) (by show (5 : Int) ≠ 2; decide)
  subst e0
  rcases ze with rfl | rfl
  · exact .one (k (o 0, o (s - 1), 0, 2) (.inr rfl) fun z => five _ _ _ _ z.symm)
  · exact .one (k (o (s - 1), o 0, 0, 5) (.inl rfl) (five _ _ _ _))
/-- what the law reckons is the first road that closes a ring -/
theorem RingL.first {m s : Nat} {o : Nat → Int} {rk : Int → Nat} {L : List Ed} (R : RingL m s o rk L) {j : Nat} (hA : ∀ i, LastOf L (RingA s o) i → j ≤ i) (hB : 3 ≤ s → ∀ i, LastOf L (RingB s o) i → j ≤ i) (hC : s = m → ∀ i, LastOf L (RingC m s o) i → j ≤ i) : ∀ i, i < j → ¬ Clo L i := fun i ij c => by
  obtain ⟨e, he, c⟩ := c
  have s2 := R.s2
  have sm := R.sm
  have c1 : Rch ((L.take (i + 1)).map pr) e.2.1 e.2.1 := by
    refine .step (c.mono fun p hp => ?_) (List.mem_map_of_mem (f := pr) (take_at he (by omega)))
    obtain ⟨x, hx, rfl⟩ := List.mem_map.mp hp
    obtain ⟨n, n1, n2⟩ := at_take hx
    exact List.mem_map_of_mem (take_at n2 (by omega))
  obtain ⟨b, w⟩ := R.closed (fun e => ∃ n, n ≤ i ∧ L[n]? = some e) (fun p hp => by
    obtain ⟨x, hx, rfl⟩ := List.mem_map.mp hp
    obtain ⟨n, n1, n2⟩ := at_take hx
    exact ⟨x, List.mem_of_getElem? n2, ⟨n, by omega, n2⟩, rfl⟩) c1
  have some_last : ∀ Z : Ed → Prop, (∃ e, Z e) → (∀ e, Z e → ∃ n, n ≤ i ∧ L[n]? = some e) → ∃ k, k ≤ i ∧ LastOf L Z k := fun Z ⟨e0, z0⟩ al => by
    have : ∀ d, d ≤ i + 1 → (∃ k, k ≤ i ∧ LastOf L Z k) ∨ ∀ e, Z e → ∃ n, n + d ≤ i ∧ L[n]? = some e := fun d => by
      induction d with
      | zero => exact fun _ => .inr al
      | succ d ih =>
        intro hd
        rcases ih (by omega) with q | q
        · exact .inl q
        · by_cases t : ∃ e, Z e ∧ L[i - d]? = some e
          · exact .inl ⟨i - d, by omega, t, fun e ze => by
              obtain ⟨n, n1, n2⟩ := q e ze
              exact ⟨n, by omega, n2⟩⟩
          · refine .inr fun e ze => ?_
            obtain ⟨n, n1, n2⟩ := q e ze
            have : n ≠ i - d := fun z => t ⟨e, ze, by rw [← z]; exact n2⟩
            exact ⟨n, by omega, n2⟩
    rcases this (i + 1) (Nat.le_refl _) with q | q
    · exact q
    · obtain ⟨n, n1, _⟩ := q e0 z0
      omega
  rcases w with w | w | ⟨w1, w2, w3⟩ | ⟨w1, w2⟩
  · omega
  · obtain ⟨k, k1, k2⟩ := some_last (RingA s o) ⟨_, .inl rfl⟩ fun e ze => by
      rcases ze with rfl | ⟨n, n1, rfl⟩
      · exact b
      · exact w n (by omega)
    have := hA k k2
    omega
  · obtain ⟨k, k1, k2⟩ := some_last (RingB s o) ⟨_, .inl rfl⟩ fun e ze => by
      rcases ze with rfl | rfl | ⟨n, n2, n1, rfl⟩
      · exact b
      · exact w2
      · exact w3 n n2 (by omega)
    have := hB (by omega) k k2
    omega
  · obtain ⟨k, k1, k2⟩ := some_last (RingC m s o) ⟨_, .inl rfl⟩ fun e ze => by
      rcases ze with rfl | rfl
      · exact b
      · exact w2
    have := hC (by omega) k k2
    omega
theorem lastOf_uniq {L : List Ed} {Z : Ed → Prop} {i j : Nat} (nd : L.Nodup) (h : LastOf L Z i) (k : LastOf L Z j) : i = j := by
  obtain ⟨⟨e, ze, he⟩, al⟩ := h
  obtain ⟨⟨f, zf, hf⟩, bl⟩ := k
  obtain ⟨a, a1, a2⟩ := al f zf
  obtain ⟨b, b1, b2⟩ := bl e ze
  have := nodup_at nd a2 hf
  have := nodup_at nd b2 he
  omega
/-! ### roads in the heap -/
/-- the items of a tuple -/
def tupOf (H : Hp) : V → Option (List V)
  | .ref a => match H a with
    | some (.tup t) => some t
    | _ => none
  | _ => none
theorem tupOf_at {H : Hp} {a : Addr} {t : List V} (h : H a = some (.tup t)) : tupOf H (.ref a) = some t := by
  show (match H a with | some (.tup t) => some t | _ => none) = some t
  rw [h]
theorem tupOf_ref {H : Hp} {v : V} {t : List V} (h : tupOf H v = some t) : ∃ a, v = .ref a ∧ H a = some (.tup t) := by
  cases v with
  | ref a =>
    refine ⟨a, rfl, ?_⟩
    have h' : (match H a with | some (.tup t) => some t | _ => none) = some t := h
    cases e : H a with
    | none => rw [e] at h'; cases h'
    | some o =>
      rw [e] at h'
      cases o with
      | tup u => rw [Option.some.inj h']
      | _ => cases h'
  | _ => cases h
def qv (e : Ed) : List V := [.int e.1, .int e.2.1, .int e.2.2.1, .int e.2.2.2]
def qd (e : Ed) : PyData := .tuple [.int e.1, .int e.2.1, .int e.2.2.1, .int e.2.2.2]
/-- the things of a list are such roads -/
def QL (H : Hp) (xs : List V) (es : List Ed) : Prop := xs.map (tupOf H) = es.map fun e => some (qv e)
theorem QL.nil {H : Hp} : QL H [] [] := rfl
theorem QL.len {H : Hp} {xs : List V} {es : List Ed} (h : QL H xs es) : xs.length = es.length := by
  have z := congrArg List.length h
  rw [List.length_map, List.length_map] at z
  exact z
theorem QL.cons {H : Hp} {p : Addr} {xs : List V} {es : List Ed} {e : Ed} (h1 : H p = some (.tup (qv e))) (h : QL H xs es) : QL H (.ref p :: xs) (e :: es) := by
  show tupOf H (.ref p) :: xs.map (tupOf H) = some (qv e) :: es.map _
  rw [tupOf_at h1, show xs.map (tupOf H) = es.map fun e => some (qv e) from h]
theorem QL.one {H : Hp} {p : Addr} {e : Ed} (h1 : H p = some (.tup (qv e))) : QL H [.ref p] [e] := QL.cons h1 QL.nil
theorem QL.app {H : Hp} {xs ys : List V} {es fs : List Ed} (h : QL H xs es) (k : QL H ys fs) : QL H (xs ++ ys) (es ++ fs) := by
  unfold QL at *
  rw [List.map_append, List.map_append, h, k]
theorem QL.take {H : Hp} {xs : List V} {es : List Ed} (h : QL H xs es) (n : Nat) : QL H (xs.take n) (es.take n) := by
  unfold QL at *
  rw [List.map_take, List.map_take, h]
theorem QL.drop {H : Hp} {xs : List V} {es : List Ed} (h : QL H xs es) (n : Nat) : QL H (xs.drop n) (es.drop n) := by
  unfold QL at *
  rw [List.map_drop, List.map_drop, h]
theorem QL.at {H : Hp} {xs : List V} {es : List Ed} (h : QL H xs es) {i : Nat} {v : V} (hv : xs[i]? = some v) : ∃ p e, v = .ref p ∧ H p = some (.tup (qv e)) ∧ es[i]? = some e := by
  have z : (xs.map (tupOf H))[i]? = (es.map fun e => some (qv e))[i]? := by rw [show xs.map (tupOf H) = es.map fun e => some (qv e) from h]
  rw [List.getElem?_map, hv, List.getElem?_map] at z
  cases e : es[i]? with
  | none => rw [e] at z; cases z
  | some e0 =>
    rw [e] at z
    obtain ⟨a, rfl, ha⟩ := tupOf_ref (Option.some.inj z)
    exact ⟨a, e0, rfl, ha, rfl⟩
theorem QL.mem {H : Hp} {xs : List V} {es : List Ed} (h : QL H xs es) {v : V} (hv : v ∈ xs) : ∃ p e, v = .ref p ∧ H p = some (.tup (qv e)) ∧ e ∈ es := by
  obtain ⟨i, hi, rfl⟩ := List.mem_iff_getElem.mp hv
  obtain ⟨p, e, h1, h2, h3⟩ := h.at (List.getElem?_eq_getElem hi)
  exact ⟨p, e, h1, h2, List.mem_of_getElem? h3⟩
theorem QL.tl {H H' : Hp} {xs : List V} {es : List Ed} (h : QL H xs es) (k : TL H H') : QL H' xs es := by
  have : xs.map (tupOf H') = xs.map (tupOf H) := List.map_congr_left fun v hv => by
    obtain ⟨p, e, rfl, h2, _⟩ := h.mem hv
    rw [tupOf_at h2, tupOf_at (k _ _ h2)]
  unfold QL at *
  rw [this, h]
theorem perm_map_inv {α β : Type} {g : α → β} : ∀ {M N : List β}, M.Perm N → ∀ L : List α, N = L.map g → ∃ L' : List α, M = L'.map g ∧ L'.Perm L := fun {M N} p => by
  induction p with
  | nil =>
    intro L h
    cases L with
    | nil => exact ⟨[], rfl, .refl _⟩
    | cons x r => cases h
  | cons x _ ih =>
    intro L h
    cases L with
    | nil => cases h
    | cons y r =>
      obtain ⟨rfl, h2⟩ := List.cons.inj h
      obtain ⟨L', h3, h4⟩ := ih r h2
      exact ⟨y :: L', by rw [h3]; rfl, h4.cons y⟩
  | swap x y l =>
    intro L h
    match L, h with
    | a :: b :: r, h =>
      obtain ⟨rfl, h2⟩ := List.cons.inj h
      obtain ⟨rfl, rfl⟩ := List.cons.inj h2
      exact ⟨b :: a :: r, rfl, .swap _ _ _⟩
  | trans _ _ ih1 ih2 =>
    intro L h
    obtain ⟨L1, h1, p1⟩ := ih2 L h
    obtain ⟨L2, h2, p2⟩ := ih1 L1 h1
    exact ⟨L2, h2, p2.trans p1⟩
theorem QL.perm {H : Hp} {xs ys : List V} {es : List Ed} (h : QL H xs es) (p : ys.Perm xs) : ∃ fs, QL H ys fs ∧ fs.Perm es := perm_map_inv (p.map (tupOf H)) es h
theorem QL.dp {K : PySem.W.Frag} {H : Hp} : ∀ {xs : List V} {es : List Ed}, QL H xs es → DpAll K H xs (es.map qd)
  | [], [], _ => .nil
  | [], _ :: _, h => by cases h
  | _ :: _, [], h => by cases h
  | v :: xs, e :: es, h => by
    obtain ⟨h1, h2⟩ := List.cons.inj (show tupOf H v :: xs.map (tupOf H) = some (qv e) :: es.map _ from h)
    obtain ⟨p, rfl, hp⟩ := tupOf_ref h1
    exact .cons (.tup (SqT.of hp) (.cons (.int _) (.cons (.int _) (.cons (.int _) (.cons (.int _) .nil))))) (QL.dp (xs := xs) (es := es) h2)
theorem QL.seqs {H : Hp} {xs : List V} {es : List Ed} (h : QL H xs es) : xs.map (seqOf H) = es.map fun e => some (qv e) := by
  have : xs.map (seqOf H) = xs.map (tupOf H) := List.map_congr_left fun v hv => by
    obtain ⟨p, e, rfl, h2, _⟩ := h.mem hv
    rw [seq_tup h2, tupOf_at h2]
  rw [this]
  exact h
theorem QL.items {H : Hp} {xs : List V} {es : List Ed} (h : QL H xs es) : Items H xs := fun v hv => by
  obtain ⟨p, e, rfl, h2, _⟩ := h.mem hv
  refine ⟨.inr (.inr (.inl ⟨p, _, rfl, h2⟩)), fun ys hy y hy2 => ?_⟩
  rw [seq_tup h2] at hy
  rw [← Option.some.inj hy] at hy2
  unfold qv at hy2
  simp only [List.mem_cons, List.not_mem_nil, or_false] at hy2
  rcases hy2 with rfl | rfl | rfl | rfl <;> exact shp_int _
theorem Items.app {H : Hp} {xs ys : List V} (h : Items H xs) (k : Items H ys) : Items H (xs ++ ys) := fun v hv => (List.mem_append.mp hv).elim (h v) (k v)
theorem Items.sub {H : Hp} {xs ys : List V} (h : Items H xs) (k : ∀ v ∈ ys, v ∈ xs) : Items H ys := fun v hv => h v (k v hv)
theorem items_none {H : Hp} : Items H [.non] := fun v hv => by
  rw [List.mem_singleton.mp hv]
  exact ⟨.inl rfl, fun ys h => by cases h⟩
/-- a road between two of so many places -/
structure EdOk (n : Int) (e : Ed) : Prop where
  a0 : 0 ≤ e.1
  a1 : e.1 < n
  b0 : 0 ≤ e.2.1
  b1 : e.2.1 < n
  ne : e.1 ≠ e.2.1
  l0 : 0 ≤ e.2.2.1
  r1 : 1 ≤ e.2.2.2
theorem isP_of {n i : Int} (h0 : 0 ≤ i) (h1 : i < n) : isP n (.int i) = true := by
  simp [isP, h0, h1]
theorem isN_of {i : Int} (h0 : 0 ≤ i) : isN (.int i) = true := by
  simp [isN, h0]
theorem EdOk.road {n : Int} {e : Ed} (h : EdOk n e) : isRoad n (some (qv e)) = true := by
  show (isP n (.int e.1) && (isP n (.int e.2.1) && (!decide (V.int e.1 = V.int e.2.1) && (isN (.int e.2.2.1) && (isN (.int e.2.2.2) && !decide (V.int e.2.2.2 = .int 0)))))) = true
  rw [isP_of h.a0 h.a1, isP_of h.b0 h.b1, isN_of h.l0, isN_of (Int.le_trans (by decide) h.r1), decide_eq_false (fun z => h.ne (V.int.inj z)), decide_eq_false (fun z => by
    have := V.int.inj z
    have := h.r1
    omega)]
  rfl
theorem zero1_qv (e : Ed) : zero1 (some (qv e)) = if e.2.2.1 = 0 then [pr e] else [] := by
  obtain ⟨a, b, l, r⟩ := e
  by_cases h : l = 0
  · subst h
    rfl
  · rw [if_neg h]
    show zero1 (some [.int a, .int b, .int l, .int r]) = []
    unfold zero1
    split
    · rename_i z
      have := List.cons.inj (Option.some.inj z)
      have := List.cons.inj (List.cons.inj this.2).2
      exact absurd (V.int.inj this.1) h
    · rfl
theorem zeros_qv : ∀ es : List Ed, zeros (es.map fun e => some (qv e)) = (es.filter fun e => decide (e.2.2.1 = 0)).map pr
  | [] => rfl
  | e :: r => by
    show zero1 (some (qv e)) ++ zeros (r.map fun e => some (qv e)) = _
    rw [zero1_qv, zeros_qv r, List.filter_cons]
    by_cases h : e.2.2.1 = 0
    · rw [if_pos h, if_pos (by rw [decide_eq_true h])]
      rfl
    · rw [if_neg h, if_neg (by rw [decide_eq_false h]; decide)]
      rfl
/-- what is at j depends on what is up to there alone -/
theorem BadAt.app {n : Int} {ss ts : List (Option (List V))} {j : Nat} (hj : j < ss.length) : BadAt n (ss ++ ts) j ↔ BadAt n ss j := by
  unfold BadAt
  rw [List.getElem?_append_left hj, List.take_append_of_le_length (Nat.le_of_lt hj)]
/-- at j is a road that closes a ring -/
theorem bad_qv {n : Int} {es : List Ed} (ok : ∀ e ∈ es, EdOk n e) {j : Nat} (hj : j < es.length) : BadAt n (es.map fun e => some (qv e)) j ↔ ∃ e, es[j]? = some e ∧ e.2.2.1 = 0 ∧ Rch (((es.take j).filter fun e => decide (e.2.2.1 = 0)).map pr) e.2.1 e.1 := by
  unfold BadAt
  rw [← List.map_take, zeros_qv, List.getElem?_map, List.getElem?_eq_getElem hj]
  have hok := ok _ (List.getElem_mem hj)
  constructor
  · rintro ⟨s, hs, h⟩
    obtain rfl := Option.some.inj hs
    rcases h with h | ⟨a, b, r, h1, h2⟩
    · rw [hok.road] at h
      cases h
    · have e1 := List.cons.inj (Option.some.inj h1)
      have e2 := List.cons.inj e1.2
      have e3 := List.cons.inj e2.2
      refine ⟨_, rfl, V.int.inj e3.1, ?_⟩
      rw [V.int.inj e1.1, V.int.inj e2.1]
      exact h2
  · rintro ⟨e, he, h0, h⟩
    obtain rfl := Option.some.inj he
    refine ⟨_, rfl, .inr ⟨_, _, .int (es[j]).2.2.2, ?_, h⟩⟩
    show some (qv es[j]) = _
    unfold qv
    rw [h0]
/-- where ranks rise along all roads of length 0 no road is wrong -/
theorem no_bad {n : Int} {es : List Ed} (ok : ∀ e ∈ es, EdOk n e) (rk : Int → Nat) (up : ∀ e ∈ es, e.2.2.1 = 0 → rk e.1 < rk e.2.1) {j : Nat} (hj : j < es.length) : ¬ BadAt n (es.map fun e => some (qv e)) j := fun h => by
  obtain ⟨e, he, h0, r⟩ := (bad_qv ok hj).mp h
  have z := rch_rank rk (fun a b hab => by
    obtain ⟨x, hx, hp⟩ := List.mem_map.mp hab
    obtain ⟨hx1, hx2⟩ := List.mem_filter.mp hx
    obtain ⟨rfl, rfl⟩ := Prod.mk.inj hp
    exact up x (List.mem_of_mem_take hx1) (of_decide_eq_true hx2)) r
  have := up e (List.mem_of_getElem? he) h0
  omega
theorem wres_good {n : Int} {ss : List (Option (List V))} (h : ∀ j, j < ss.length → ¬ BadAt n ss j) (k : Nat) : ¬ WRes n ss (.int k) := fun w => by
  rcases w with ⟨z, _⟩ | ⟨j, _, hj, b, _⟩
  · cases z
  · exact h j hj b
theorem wres_bad {n : Int} {ss : List (Option (List V))} {k : Nat} (hk : k < ss.length) (b : BadAt n ss k) (h : ∀ j, j < k → ¬ BadAt n ss j) {r : V} (w : WRes n ss r) : r = .int k := by
  rcases w with ⟨_, z⟩ | ⟨j, rfl, hj, b2, h2⟩
  · exact absurd b (z k hk)
  · have : j = k := by
      rcases Nat.lt_trichotomy j k with q | q | q
      · exact absurd b2 (h j q)
      · exact q
      · exact absurd b (h2 k q)
    rw [this]
theorem dres_good {n : Int} {ss : List (Option (List V))} (h : ∀ j, j < ss.length → ¬ BadD n ss j) (k : Nat) : ¬ DRes n ss (.int k) := fun w => by
  rcases w with ⟨z, _⟩ | ⟨j, _, hj, b, _⟩
  · cases z
  · exact h j hj b
theorem dres_bad {n : Int} {ss : List (Option (List V))} {k : Nat} (hk : k < ss.length) (b : BadD n ss k) (h : ∀ j, j < k → ¬ BadD n ss j) {r : V} (w : DRes n ss r) : r = .int k := by
  rcases w with ⟨_, z⟩ | ⟨j, rfl, hj, b2, h2⟩
  · exact absurd b (z k hk)
  · have : j = k := by
      rcases Nat.lt_trichotomy j k with q | q | q
      · exact absurd b2 (h j q)
      · exact q
      · exact absurd b (h2 k q)
    rw [this]
theorem BadD.app {n : Int} {ss ts : List (Option (List V))} {j : Nat} (hj : j < ss.length) : BadD n (ss ++ ts) j ↔ BadD n ss j := by
  unfold BadD
  rw [List.getElem?_append_left hj]
  constructor
  · rintro ⟨s, hs, h⟩
    refine ⟨s, hs, h.imp id ?_⟩
    rintro ⟨z, p, h, i, z', h', e, ij, hi, ne⟩
    rw [List.getElem?_append_left (by omega)] at hi
    exact ⟨z, p, h, i, z', h', e, ij, hi, ne⟩
  · rintro ⟨s, hs, h⟩
    refine ⟨s, hs, h.imp id ?_⟩
    rintro ⟨z, p, h, i, z', h', e, ij, hi, ne⟩
    exact ⟨z, p, h, i, z', h', e, ij, by rw [List.getElem?_append_left (by omega)]; exact hi, ne⟩
/-- something put at a place of a list of good ones: it is the first that is wrong -/
theorem put_bad {n : Int} {ss : List (Option (List V))} {at' : Nat} (h : ∀ j, j < ss.length → ¬ BadAt n ss j) (ha : at' ≤ ss.length) {s : Option (List V)} (hs : isRoad n s = false) {ts : List (Option (List V))} {r : V} (w : WRes n (ss.take at' ++ [s] ++ ts) r) : r = .int at' := by
  have l1 : (ss.take at').length = at' := by
    rw [List.length_take]
    omega
  refine wres_bad (k := at') (by simp; omega) ⟨s, ?_, .inl hs⟩ (fun j hj b => ?_) w
  · rw [List.append_assoc, List.getElem?_append_right (by omega), l1, Nat.sub_self]
    rfl
  · rw [List.append_assoc] at b
    have b1 := (BadAt.app (by omega)).mp b
    refine h j (by omega) ?_
    rw [← List.take_append_drop at' ss]
    exact (BadAt.app (by omega)).mpr b1
theorem put_badD {n : Int} {ss : List (Option (List V))} {at' : Nat} (h : ∀ j, j < ss.length → ¬ BadD n ss j) (ha : at' ≤ ss.length) {s : Option (List V)} (hs : isDoor n s = false) {ts : List (Option (List V))} {r : V} (w : DRes n (ss.take at' ++ [s] ++ ts) r) : r = .int at' := by
  have l1 : (ss.take at').length = at' := by
    rw [List.length_take]
    omega
  refine dres_bad (k := at') (by simp; omega) ⟨s, ?_, .inl hs⟩ (fun j hj b => ?_) w
  · rw [List.append_assoc, List.getElem?_append_right (by omega), l1, Nat.sub_self]
    rfl
  · rw [List.append_assoc] at b
    have b1 := (BadD.app (by omega)).mp b
    refine h j (by omega) ?_
    rw [← List.take_append_drop at' ss]
    exact (BadD.app (by omega)).mpr b1
/-! ### a drawn house is right -/
theorem quads_of {H : Hp} {ps : List Int} {rk : Int → Nat} : ∀ {xs : List V}, AllT H (Rok ps rk) xs → ∃ es, QL H xs es ∧ ∀ e ∈ es, e.1 ∈ ps ∧ e.2.1 ∈ ps ∧ e.1 ≠ e.2.1 ∧ 0 ≤ e.2.2.1 ∧ 1 ≤ e.2.2.2 ∧ (e.2.2.1 = 0 → rk e.1 < rk e.2.1)
  | [], _ => ⟨[], rfl, fun e he => by cases he⟩
  | v :: r, h => by
    obtain ⟨es, h1, h2⟩ := quads_of (xs := r) fun u hu => h u (List.mem_cons_of_mem _ hu)
    obtain ⟨p, t, rfl, hp, x, y, d, w, rfl, hx, hy, ne, d0, _, w1, _, k⟩ := h v List.mem_cons_self
    refine ⟨(x, y, d, w) :: es, QL.cons hp h1, fun e he => ?_⟩
    rcases List.mem_cons.mp he with rfl | he
    · exact ⟨hx, hy, ne, d0, w1, k⟩
    · exact h2 e he
theorem doors_good {H : Hp} {n : Int} {ps : List Int} {S : Int → Bool} {ys : List V} (hps : ∀ x ∈ ps, 0 ≤ x ∧ x < n) (h : AllT H (Dok ps S) ys) : ∀ j, j < (ys.map (seqOf H)).length → ¬ BadD n (ys.map (seqOf H)) j := fun j hj b => by
  have at_ : ∀ {i : Nat} {s : Option (List V)}, (ys.map (seqOf H))[i]? = some s → ∃ x h : Int, s = some [.str (if S x = true then "in" else "out"), .int x, .int h] ∧ x ∈ ps ∧ 0 ≤ h := fun {i s} hs => by
    rw [List.getElem?_map] at hs
    obtain ⟨v, hv, rfl⟩ := Option.map_eq_some_iff.mp hs
    obtain ⟨p, t, rfl, hp, x, hh, rfl, hx, h0, _⟩ := h v (List.mem_of_getElem? hv)
    exact ⟨x, hh, seq_tup hp, hx, h0⟩
  obtain ⟨s, hs, b⟩ := b
  obtain ⟨x, hh, rfl, hx, h0⟩ := at_ hs
  rcases b with b | ⟨z, p, h2, i, z', h', e, ij, hi, ne⟩
  · have : isDoor n (some [.str (if S x = true then "in" else "out"), .int x, .int hh]) = true := by
      show (isIO (.str (if S x = true then "in" else "out")) && (isP n (.int x) && isN (.int hh))) = true
      rw [isP_of (hps x hx).1 (hps x hx).2, isN_of h0]
      cases S x <;> rfl
    rw [this] at b
    cases b
  · obtain ⟨x2, hh2, e2, hx2, _⟩ := at_ hi
    have q1 := List.cons.inj (Option.some.inj e)
    have q2 := List.cons.inj q1.2
    have q3 := List.cons.inj (Option.some.inj e2)
    have q4 := List.cons.inj q3.2
    have e5 : x = p := V.int.inj q2.1
    have e6 : p = x2 := V.int.inj q4.1
    refine ne (V.str.inj (show V.str z' = V.str z from ?_))
    rw [q3.1, ← q1.1, e5, e6]
theorem dok_items {H : Hp} {ps : List Int} {S : Int → Bool} {ys : List V} (h : AllT H (Dok ps S) ys) : Items H ys := fun v hv => by
  obtain ⟨p, t, rfl, hp, x, hh, rfl, _⟩ := h v hv
  refine ⟨.inr (.inr (.inl ⟨p, _, rfl, hp⟩)), fun zs hz y hy => ?_⟩
  rw [seq_tup hp] at hz
  rw [← Option.some.inj hz] at hy
  simp only [List.mem_cons, List.not_mem_nil, or_false] at hy
  rcases hy with rfl | rfl | rfl <;> exact .inl rfl
/-- all that the law asks of a drawn house -/
structure Good (H : Hp) (n : Int) (xs ys : List V) : Prop where
  ir : Items H xs
  id : Items H ys
  r : ∀ j, j < (xs.map (seqOf H)).length → ¬ BadAt n (xs.map (seqOf H)) j
  d : ∀ j, j < (ys.map (seqOf H)).length → ¬ BadD n (ys.map (seqOf H)) j
theorem HouseAt.good {H : Hp} {many full doors : Int} {p q : Addr} {xs ys : List V} (h : HouseAt H many full doors p q xs ys) : Good H many xs ys := by
  obtain ⟨ps, rk, S, hps, hr, hd⟩ := h.roads
  obtain ⟨es, h1, h2⟩ := quads_of hr
  refine ⟨h1.items, dok_items hd, ?_, doors_good hps hd⟩
  rw [h1.seqs]
  intro j hj
  rw [List.length_map] at hj
  exact no_bad (fun e he => by
    obtain ⟨a, b, c, d, f, _⟩ := h2 e he
    exact ⟨(hps _ a).1, (hps _ a).2, (hps _ b).1, (hps _ b).2, c, d, f⟩) rk (fun e he => (h2 e he).2.2.2.2.2) hj
theorem Good.same {H H' : Hp} {n : Int} {xs ys : List V} (g : Good H n xs ys) (e : Same H H') : Good H' n xs ys := by
  refine ⟨g.ir.same e, g.id.same e, ?_, ?_⟩
  · rw [g.ir.seqs e]
    exact g.r
  · rw [g.id.seqs e]
    exact g.d
end K17

set_option Elab.async false
set_option linter.all false
set_option maxRecDepth 100000
set_option maxHeartbeats 4000000
namespace K17
open PySem PySem.Spec PyProof.Rows L2 Own
/-- all but what stands at a and l stays -/
structure Go (a l : Addr) (H H' : Hp) : Prop where
  k : ∀ b o, b ≠ a → b ≠ l → H b = some o → H' b = some o
  t : TL H H'
theorem Go.trans {a l : Addr} {H H1 H2 : Hp} (x : Go a l H H1) (y : Go a l H1 H2) : Go a l H H2 := ⟨fun b o h1 h2 e => y.k b o h1 h2 (x.k b o h1 h2 e), x.t.trans y.t⟩
theorem Go.refl {a l : Addr} {H : Hp} : Go a l H H := ⟨fun _ _ _ _ e => e, TL.refl⟩
theorem Go.same {a l : Addr} {H H' : Hp} (e : Same H H') : Go a l H H' := ⟨fun b o _ _ h => e b o h, fun b t h => e b _ h⟩
theorem Go.but {N : Int} {a l : Addr} {H H' : Hp} (S : Strm N H a l) (b : But2 a l H H') : Go a l H H' := ⟨fun c o h1 h2 e => b c o h1 h2 e, b.tl S⟩
theorem Go.set {a l q : Addr} {H H' : Hp} {o : HO} (g : Go a l H H') (h : H q = none) : Go a l H (upd H' q o) := ⟨fun b u h1 h2 e => by
  rw [upd_ne (ne_of_none e h)]
  exact g.k b u h1 h2 e, fun b t e => by
  rw [upd_ne (ne_of_none e h)]
  exact g.t b t e⟩
theorem Go.but2 {a l : Addr} {H H' : Hp} (g : Go a l H H') : But2 a l H H' := fun b o h1 h2 e => g.k b o h1 h2 e
/-- a list of the def's own -/
structure Ls (a l : Addr) (H : Hp) (p : Addr) (xs : List V) : Prop where
  na : p ≠ a
  nl : p ≠ l
  h : H p = some (.lst xs)
theorem Ls.go {a l p : Addr} {H H' : Hp} {xs : List V} (x : Ls a l H p xs) (g : Go a l H H') : Ls a l H' p xs := ⟨x.na, x.nl, g.k _ _ x.na x.nl x.h⟩
theorem Ls.new {n : Int} {a l p : Addr} {H : Hp} {xs : List V} (S : Strm n H a l) (h : H p = none) : Ls a l (upd H p (.lst xs)) p xs := ⟨(S.ne_new h).1, (S.ne_new h).2, upd_same⟩
/-! ### rows of ints and of the doors' words -/
def isW : V → Bool
  | .int _ => true
  | .str s => decide (s = "in") || decide (s = "out")
  | _ => false
theorem isW_cases {v : V} (h : isW v = true) : (∃ i, v = .int i) ∨ v = .str "in" ∨ v = .str "out" := by
  cases v with
  | int i => exact .inl ⟨i, rfl⟩
  | str s =>
    rcases Bool.or_eq_true_iff.mp h with h | h
    · exact .inr (.inl (by rw [of_decide_eq_true h]))
    · exact .inr (.inr (by rw [of_decide_eq_true h]))
  | _ => cases h
theorem isW_atom {v : V} (h : isW v = true) : atomV v = true := by
  rcases isW_cases h with ⟨i, rfl⟩ | rfl | rfl <;> rfl
def pdV : V → PyData
  | .int i => .int i
  | .str s => .str s
  | _ => .none
def td (t : List V) : PyData := .tuple (t.map pdV)
theorem dp_w {K : PySem.W.Frag} {H : Hp} {v : V} (h : isW v = true) : Dp K H v (pdV v) := by
  rcases isW_cases h with ⟨i, rfl⟩ | rfl | rfl
  · exact .int i
  · exact .str _
  · exact .str _
theorem dp_ws {K : PySem.W.Frag} {H : Hp} : ∀ {t : List V}, (∀ v ∈ t, isW v = true) → DpAll K H t (t.map pdV)
  | [], _ => .nil
  | v :: r, h => .cons (dp_w (h v List.mem_cons_self)) (dp_ws fun u hu => h u (List.mem_cons_of_mem _ hu))
theorem eqv_w {v u : V} (h : isW v = true) (k : isW u = true) : PyData.eqv (pdV v) (pdV u) = decide (v = u) := by
  rcases isW_cases h with ⟨i, rfl⟩ | rfl | rfl <;> rcases isW_cases k with ⟨j, rfl⟩ | rfl | rfl
  · show (i == j) = decide (V.int i = V.int j)
    rw [Bool.eq_iff_iff]
    simp only [beq_iff_eq, decide_eq_true_eq, V.int.injEq]
  · rfl
  · rfl
  · rfl
  · decide +kernel
  · decide +kernel
  · rfl
  · decide +kernel
  · decide +kernel
theorem eqv_ws : ∀ {t u : List V}, (∀ v ∈ t, isW v = true) → (∀ v ∈ u, isW v = true) → PyData.eqvAll (t.map pdV) (u.map pdV) = decide (t = u)
  | [], [], _, _ => rfl
  | [], _ :: _, _, _ => rfl
  | _ :: _, [], _, _ => rfl
  | v :: r, u :: q, h, k => by
    show (PyData.eqv (pdV v) (pdV u) && PyData.eqvAll (r.map pdV) (q.map pdV)) = _
    rw [eqv_w (h v List.mem_cons_self) (k u List.mem_cons_self), eqv_ws (fun w hw => h w (List.mem_cons_of_mem _ hw)) fun w hw => k w (List.mem_cons_of_mem _ hw), Bool.eq_iff_iff]
    simp only [Bool.and_eq_true, decide_eq_true_eq, List.cons.injEq]
def Ws (ts : List (List V)) : Prop := ∀ t ∈ ts, ∀ v ∈ t, isW v = true
theorem eqv_rows : ∀ {ts us : List (List V)}, Ws ts → Ws us → PyData.eqvAll (ts.map td) (us.map td) = decide (ts = us)
  | [], [], _, _ => rfl
  | [], _ :: _, _, _ => rfl
  | _ :: _, [], _, _ => rfl
  | t :: r, u :: q, h, k => by
    show (PyData.eqvAll (t.map pdV) (u.map pdV) && PyData.eqvAll (r.map td) (q.map td)) = _
    rw [eqv_ws (h t List.mem_cons_self) (k u List.mem_cons_self), eqv_rows (fun w hw => h w (List.mem_cons_of_mem _ hw)) fun w hw => k w (List.mem_cons_of_mem _ hw), Bool.eq_iff_iff]
    simp only [Bool.and_eq_true, decide_eq_true_eq, List.cons.injEq]
theorem lay_w {v : V} (h : isW v = true) : PyData.canLay0 (pdV v) = true ∧ PyData.depth (pdV v) = 0 := by
  rcases isW_cases h with ⟨i, rfl⟩ | rfl | rfl
  · exact ⟨rfl, rfl⟩
  · exact ⟨by decide +kernel, rfl⟩
  · exact ⟨by decide +kernel, rfl⟩
theorem lay_ws : ∀ {t : List V}, (∀ v ∈ t, isW v = true) → PyData.canLayAll0 (t.map pdV) = true ∧ PyData.depthAll (t.map pdV) = 0
  | [], _ => ⟨rfl, rfl⟩
  | v :: r, h => by
    obtain ⟨a1, a2⟩ := lay_w (h v List.mem_cons_self)
    obtain ⟨b1, b2⟩ := lay_ws fun u hu => h u (List.mem_cons_of_mem _ hu)
    constructor
    · show (PyData.canLay0 (pdV v) && PyData.canLayAll0 (r.map pdV)) = true
      rw [a1, b1]
      rfl
    · show max (PyData.depth (pdV v)) (PyData.depthAll (r.map pdV)) = 0
      rw [a2, b2]
      rfl
theorem lay_rows : ∀ {ts : List (List V)}, Ws ts → PyData.canLayAll0 (ts.map td) = true ∧ PyData.depthAll (ts.map td) ≤ 1
  | [], _ => ⟨rfl, by decide⟩
  | t :: r, h => by
    obtain ⟨a1, a2⟩ := lay_ws (h t List.mem_cons_self)
    obtain ⟨b1, b2⟩ := lay_rows fun u hu => h u (List.mem_cons_of_mem _ hu)
    constructor
    · show (PyData.canLayAll0 (t.map pdV) && PyData.canLayAll0 (r.map td)) = true
      rw [a1, b1]
      rfl
    · show max (PyData.depthAll (t.map pdV) + 1) (PyData.depthAll (r.map td)) ≤ 1
      omega
theorem sh_rows {ts : List (List V)} (h : Ws ts) : SeqAt.shaped (.list (ts.map td)) = true := by
  obtain ⟨h1, h2⟩ := lay_rows h
  show (PyData.canLayAll0 (ts.map td) && decide (PyData.depthAll (ts.map td) + 1 ≤ 64)) = true
  rw [h1, decide_eq_true (by omega)]
  rfl
/-- a list of tuples of these -/
def TT (H : Hp) (xs : List V) (ts : List (List V)) : Prop := xs.map (tupOf H) = ts.map some
theorem TT.len {H : Hp} {xs : List V} {ts : List (List V)} (h : TT H xs ts) : xs.length = ts.length := by
  have z := congrArg List.length h
  rw [List.length_map, List.length_map] at z
  exact z
theorem TT.at {H : Hp} {xs : List V} {ts : List (List V)} (h : TT H xs ts) {i : Nat} {v : V} (hv : xs[i]? = some v) : ∃ p t, v = .ref p ∧ H p = some (.tup t) ∧ ts[i]? = some t := by
  have z : (xs.map (tupOf H))[i]? = (ts.map some)[i]? := by rw [show xs.map (tupOf H) = ts.map some from h]
  rw [List.getElem?_map, hv, List.getElem?_map] at z
  cases e : ts[i]? with
  | none => rw [e] at z; cases z
  | some t =>
    rw [e] at z
    obtain ⟨a, rfl, ha⟩ := tupOf_ref (Option.some.inj z)
    exact ⟨a, t, rfl, ha, rfl⟩
theorem TT.mem {H : Hp} {xs : List V} {ts : List (List V)} (h : TT H xs ts) {v : V} (hv : v ∈ xs) : ∃ p t, v = .ref p ∧ H p = some (.tup t) ∧ t ∈ ts := by
  obtain ⟨i, hi, rfl⟩ := List.mem_iff_getElem.mp hv
  obtain ⟨p, t, h1, h2, h3⟩ := h.at (List.getElem?_eq_getElem hi)
  exact ⟨p, t, h1, h2, List.mem_of_getElem? h3⟩
theorem TT.tl {H H' : Hp} {xs : List V} {ts : List (List V)} (h : TT H xs ts) (k : TL H H') : TT H' xs ts := by
  have : xs.map (tupOf H') = xs.map (tupOf H) := List.map_congr_left fun v hv => by
    obtain ⟨p, t, rfl, h2, _⟩ := h.mem hv
    rw [tupOf_at h2, tupOf_at (k _ _ h2)]
  unfold TT at *
  rw [this, h]
theorem TT.nil {H : Hp} : TT H [] [] := rfl
theorem TT.one {H : Hp} {p : Addr} {t : List V} (h : H p = some (.tup t)) : TT H [.ref p] [t] := by
  show [tupOf H (.ref p)] = [some t]
  rw [tupOf_at h]
theorem TT.app {H : Hp} {xs ys : List V} {ts us : List (List V)} (h : TT H xs ts) (k : TT H ys us) : TT H (xs ++ ys) (ts ++ us) := by
  unfold TT at *
  rw [List.map_append, List.map_append, h, k]
theorem TT.dp {K : PySem.W.Frag} {H : Hp} : ∀ {xs : List V} {ts : List (List V)}, TT H xs ts → Ws ts → DpAll K H xs (ts.map td)
  | [], [], _, _ => .nil
  | [], _ :: _, h, _ => by cases h
  | _ :: _, [], h, _ => by cases h
  | v :: xs, t :: ts, h, w => by
    obtain ⟨h1, h2⟩ := List.cons.inj (show tupOf H v :: xs.map (tupOf H) = some t :: ts.map some from h)
    obtain ⟨p, rfl, hp⟩ := tupOf_ref h1
    exact .cons (.tup (SqT.of hp) (dp_ws (w t List.mem_cons_self))) (TT.dp (xs := xs) (ts := ts) h2 fun u hu => w u (List.mem_cons_of_mem _ hu))
theorem TT.seqs {H : Hp} {xs : List V} {ts : List (List V)} (h : TT H xs ts) : xs.map (seqOf H) = ts.map some := by
  have : xs.map (seqOf H) = xs.map (tupOf H) := List.map_congr_left fun v hv => by
    obtain ⟨p, t, rfl, h2, _⟩ := h.mem hv
    rw [seq_tup h2, tupOf_at h2]
  rw [this]
  exact h
/-- what comes of __init__'s copies -/
theorem tupd_tt {H H' : Hp} : ∀ {xs rs : List V} {ts : List (List V)}, Tupd H H' xs rs → xs.map (seqOf H) = ts.map some → TT H' rs ts
  | [], _, [], h, _ => by
    cases h
    rfl
  | [], _, _ :: _, _, e => by cases e
  | _ :: _, _, [], _, e => by cases e
  | x :: xs, _, t :: ts, h, e => by
    cases h with
    | cons h1 h2 =>
      obtain ⟨b, u, rfl, hb, hs⟩ := h1
      obtain ⟨e1, e2⟩ := List.cons.inj (show seqOf H x :: xs.map (seqOf H) = some t :: ts.map some from e)
      rw [hs] at e1
      rw [Option.some.inj e1] at hb
      show tupOf H' (.ref b) :: List.map (tupOf H') _ = some t :: ts.map some
      rw [tupOf_at hb, show List.map (tupOf H') _ = ts.map some from tupd_tt h2 e2]
/-- a house of the program -/
structure HObj (a l C : Addr) (H : Hp) (x : Addr) (n : Int) (rt dt : List (List V)) : Prop where
  na : x ≠ a
  nl : x ≠ l
  ex : ∃ dx p q rs ds, H x = some (.ins C dx [("_places", .int n), ("_roads", .ref p), ("_doors", .ref q)]) ∧ Ls a l H p rs ∧ Ls a l H q ds ∧ TT H rs rt ∧ TT H ds dt
theorem HObj.go {a l C : Addr} {H H' : Hp} {x : Addr} {n : Int} {rt dt : List (List V)} (h : HObj a l C H x n rt dt) (g : Go a l H H') : HObj a l C H' x n rt dt := by
  obtain ⟨dx, p, q, rs, ds, h1, h2, h3, h4, h5⟩ := h.ex
  exact ⟨h.na, h.nl, dx, p, q, rs, ds, g.k _ _ h.na h.nl h1, h2.go g, h3.go g, h4.tl g.t, h5.tl g.t⟩
end K17

set_option Elab.async false
set_option linter.all false
set_option maxRecDepth 100000
set_option maxHeartbeats 4000000
namespace K17
open PySem PySem.Spec PyProof.Rows L2 Own
/-- a thing of which it is known whether it is of the class C -/
def IsC (K : PySem.W.Frag) (H : Hp) (C : Addr) (v : V) (b : Bool) : Prop := ∃ ty, TyY K H v ty ∧ PySem.W.kitOne K ty (.ref C) = some b
def spNeedH (K : PySem.W.Frag) (C Ch : Addr) : Sp := fun vs H Q E => ∃ (v : V) (b : Bool), vs = [v] ∧ IsC K H C v b ∧ ((b = true ∧ Q .non H) ∨ (b = false ∧ Out H E Ch "thing" v))
def spNeedB (Cb : Addr) : Sp := fun vs H Q E => ∃ v : V, vs = [v] ∧ Shp H v ∧ ((isN v = true ∧ Q .non H) ∨ (isN v = false ∧ Out H E Cb "bell" v))
theorem scNeedH : FnScope ["house"] ["house"] (defScope sNeedHouse) := ⟨rfl, rfl, rfl, by decide +kernel, rfl, by decide +kernel, by decide +kernel⟩
theorem scNeedB : FnScope ["bell"] ["bell"] (defScope sNeedBell) := ⟨rfl, rfl, rfl, by decide +kernel, rfl, by decide +kernel, by decide +kernel⟩
section
variable {P : Program} {w : World} {K : PySem.W.Frag} {mg : Str → Option Value} {base : Heap}
theorem ok_needH {f C Ch : Addr} {fd : FuncData} (F : Fun K "need_house" "need_house" sNeedHouse f fd) (T : Bt mg) (gC : mg "House" = some (.ref C)) (EH : EI P w K mg base "BadHouse" "thing" Ch) : FnOk P w K mg base (L2.CX P w) 4 f fd ["house"] (spNeedH K C Ch) := by
  refine F.okX scNeedH (fun vs H Q E h => ?_) (fun cdv A outer s H vs Q E hr h => ?_)
  · obtain ⟨v, b, rfl, _⟩ := h
    rfl
  · obtain ⟨v, b, rfl, ⟨ty, hty, hk⟩, hc⟩ := h
    refine ⟨_, pss_one (ps_if (pt_not (pt_val (pe_callB call_isiY (by rfl) T.isi (by decide +kernel) (pa_cons (pv 0) (pa_cons (pe_glob (v := .ref C) (by rfl) gC rfl) pa_nil))))) (pss_one (ps_EI rfl (takes_of rfl rfl rfl rfl) EH (hr.mono (by decide)) (by rfl) (pv 0) (mono_var 0))) pss_nil), ?_⟩
    refine ⟨_, rfl, _, _, _, _, b, rfl, .own C, hty, hk, _, rfl, ?_⟩
    rcases hc with ⟨rfl, q⟩ | ⟨rfl, out⟩
    · exact iteF q
    · exact iteT ⟨_, rfl, out.at (Same.refl H)⟩
theorem ok_needB {f fI fN Cb : Addr} {fd fdI fdN : FuncData} (F : Fun K "need_bell" "need_bell" sNeedBell f fd) (T : Bt mg) (FI : Fun K "is_integer" "is_integer" sIsInt fI fdI) (gI : mg "is_integer" = some (.ref fI)) (bI : Binds K fdI ["thing"] [])
    (FN : Fun K "is_number" "is_number" sIsNum fN fdN) (gN : mg "is_number" = some (.ref fN)) (bN : Binds K fdN ["thing"] []) (EB : EI P w K mg base "BadBell" "bell" Cb) : FnOk P w K mg base (L2.CX P w) 4 f fd ["bell"] (spNeedB Cb) := by
  have GN : FnOk P w K mg base CX0 2 fN fdN ["thing"] spNum := ok_isNum FN T FI gI bI
  refine F.okX scNeedB (fun vs H Q E h => ?_) (fun cdv A outer s H vs Q E hr h => ?_)
  · obtain ⟨v, rfl, _⟩ := h
    rfl
  · obtain ⟨v, rfl, sh, hc⟩ := h
    refine ⟨_, pss_one (ps_if (pt_not (pt_val (pe_call GN (hr.mono (by decide)) (by rfl) gN FN.kp bN .nil pass0 (pa_cons (pv 0) pa_nil)))) (pss_one (ps_EI rfl (takes_of rfl rfl rfl rfl) EB (hr.mono (by decide)) (by rfl) (pv 0) (mono_var 0))) pss_nil), ?_⟩
    refine ⟨_, rfl, v, rfl, sh, _, rfl, ?_⟩
    rcases hc with ⟨e, q⟩ | ⟨e, out⟩
    · rw [e]
      exact iteF q
    · rw [e]
      exact iteT ⟨_, rfl, out.at (Same.refl H)⟩
end
end K17

set_option Elab.async false
set_option linter.all false
set_option maxRecDepth 100000
set_option maxHeartbeats 4000000
namespace K17
open PySem PySem.Spec PyProof.Rows L2 Own
/-- what is known of the class House -/
structure HK (K : PySem.W.Frag) (C : Addr) : Prop where
  hc : HC K C
  ha : PySem.W.findIn K (.ref C) "__class__" = some (some (.builtin "object.__class__"))
  hn : PySem.W.specialIn K (.builtin "object.__class__") "__get__" = some (some (.builtin "getset_descriptor.__get__"))
  ht : PySem.W.takesIn K (.builtin "object.__class__") = some true
  hm : PySem.W.mroIn K C (.type "object") = some true
  kT : ∀ T : String, T ∈ ["NoneType", "bool", "int", "str", "list", "tuple", "dict"] → PySem.W.kitOne K (.type T) (.ref C) = some false
theorem shp_typ {K : PySem.W.Frag} {H : Hp} {v : V} (h : Shp H v) : ∃ T : String, T ∈ ["NoneType", "bool", "int", "str", "list", "tuple", "dict"] ∧ TyX K H v (.type T) := by
  rcases h with h | ⟨a, xs, rfl, h⟩ | ⟨a, xs, rfl, h⟩ | ⟨a, xs, rfl, h⟩
  · cases v with
    | non => exact ⟨"NoneType", by decide, .base .non⟩
    | bl b => exact ⟨"bool", by decide, .base (.bl b)⟩
    | int i => exact ⟨"int", by decide, .base (.int i)⟩
    | str z => exact ⟨"str", by decide, .base (.str z)⟩
    | _ => cases h
  · exact ⟨"list", by decide, .base (.lst h)⟩
  · exact ⟨"tuple", by decide, .base (.tup h)⟩
  · exact ⟨"dict", by decide, .base (.dK h)⟩
theorem HK.ty {K : PySem.W.Frag} {a l C : Addr} {H : Hp} {x : Addr} {n : Int} {rt dt : List (List V)} (k : HK K C) (h : HObj a l C H x n rt dt) : TyX K H (.ref x) (.ref C) := by
  obtain ⟨dx, p, q, rs, ds, h1, _⟩ := h.ex
  exact .base (.ins h1 k.hc.cl k.ha k.hn k.ht k.hm)
def spPl (C : Addr) : Sp := fun vs H Q _ => ∃ (a l x : Addr) (n : Int) (rt dt : List (List V)), vs = [.ref x] ∧ HObj a l C H x n rt dt ∧ Q (.int n) H
def spRd (C : Addr) (d : Bool) : Sp := fun vs H Q _ => ∃ (a l x : Addr) (n : Int) (rt dt : List (List V)), vs = [.ref x] ∧ HObj a l C H x n rt dt ∧
  ∀ H' q rs, Same H H' → H q = none → H' q = some (.lst rs) → TT H' rs (if d = true then dt else rt) → Q (.ref q) H'
def spEqH (C : Addr) : Sp := fun vs H Q _ => ∃ (a l x : Addr) (y : V) (n : Int) (rt dt : List (List V)), vs = [.ref x, y] ∧ HObj a l C H x n rt dt ∧ Ws rt ∧ Ws dt ∧
  ((∃ (x' : Addr) (n' : Int) (rt' dt' : List (List V)), y = .ref x' ∧ HObj a l C H x' n' rt' dt' ∧ Ws rt' ∧ Ws dt' ∧ ∀ H', Same H H' → Q (.bl (decide (n = n' ∧ rt = rt' ∧ dt = dt'))) H') ∨ (Shp H y ∧ ∀ H', Same H H' → Q (.bl false) H'))
theorem scPl : FnScope ["self"] ["self"] (defScope sPlaces) := ⟨rfl, rfl, rfl, by decide +kernel, rfl, by decide +kernel, by decide +kernel⟩
theorem scRo : FnScope ["self"] ["self"] (defScope sRoads) := ⟨rfl, rfl, rfl, by decide +kernel, rfl, by decide +kernel, by decide +kernel⟩
theorem scDo : FnScope ["self"] ["self"] (defScope sDoors) := ⟨rfl, rfl, rfl, by decide +kernel, rfl, by decide +kernel, by decide +kernel⟩
theorem scHEq : FnScope ["self", "other"] ["self", "other"] (defScope sHEq) := ⟨rfl, rfl, rfl, by decide +kernel, rfl, by decide +kernel, by decide +kernel⟩
section
variable {P : Program} {w : World} {K : PySem.W.Frag} {mg : Str → Option Value} {base : Heap} {C : Addr}
theorem ok_places {f : Addr} {fd : FuncData} (F : Fun K "places" "House.places" sPlaces f fd) (k : HK K C) : FnOk P w K mg base CX0 1 f fd ["self"] (spPl C) := by
  refine F.ok scPl (fun vs H Q E h => ?_) (fun cdv A outer s H vs Q E hr h => ?_)
  · obtain ⟨a, l, x, n, rt, dt, rfl, _⟩ := h
    rfl
  · obtain ⟨a, l, x, n, rt, dt, rfl, h, q⟩ := h
    obtain ⟨dx, p, p2, rs, ds, h1, _⟩ := h.ex
    refine ⟨_, pss_one (ps_ret (pe_fld (pv 0) rfl)), ?_⟩
    exact ⟨_, rfl, x, C, dx, _, _, rfl, h1, k.hc.cl, k.hc.nP, rfl, q⟩
theorem ok_roads {f : Addr} {fd : FuncData} (F : Fun K "roads" "House.roads" sRoads f fd) (T : Bt mg) (k : HK K C) : FnOk P w K mg base CX0 1 f fd ["self"] (spRd C false) := by
  refine F.ok scRo (fun vs H Q E h => ?_) (fun cdv A outer s H vs Q E hr h => ?_)
  · obtain ⟨a, l, x, n, rt, dt, rfl, _⟩ := h
    rfl
  · obtain ⟨a, l, x, n, rt, dt, rfl, h, q⟩ := h
    obtain ⟨dx, p, p2, rs, ds, h1, h2, h3, h4, h5⟩ := h.ex
    refine ⟨_, pss_one (ps_ret (pe_callTy call_list_of (by rfl) T.list (by decide +kernel) (pa_cons (pe_fld (pv 0) rfl) pa_nil))), ?_⟩
    refine ⟨_, rfl, x, C, dx, _, _, rfl, h1, k.hc.cl, k.hc.nR, rfl, p, rs, rfl, .inl (SqL.of h2.h), fun q2 hq => ?_⟩
    exact q _ q2 rs (same_new hq) hq upd_same (h4.tl (TL.new hq))
theorem ok_doors {f : Addr} {fd : FuncData} (F : Fun K "doors" "House.doors" sDoors f fd) (T : Bt mg) (k : HK K C) : FnOk P w K mg base CX0 1 f fd ["self"] (spRd C true) := by
  refine F.ok scDo (fun vs H Q E h => ?_) (fun cdv A outer s H vs Q E hr h => ?_)
  · obtain ⟨a, l, x, n, rt, dt, rfl, _⟩ := h
    rfl
  · obtain ⟨a, l, x, n, rt, dt, rfl, h, q⟩ := h
    obtain ⟨dx, p, p2, rs, ds, h1, h2, h3, h4, h5⟩ := h.ex
    refine ⟨_, pss_one (ps_ret (pe_callTy call_list_of (by rfl) T.list (by decide +kernel) (pa_cons (pe_fld (pv 0) rfl) pa_nil))), ?_⟩
    refine ⟨_, rfl, x, C, dx, _, _, rfl, h1, k.hc.cl, k.hc.nD, rfl, p2, ds, rfl, .inl (SqL.of h3.h), fun q2 hq => ?_⟩
    exact q _ q2 ds (same_new hq) hq upd_same (h5.tl (TL.new hq))
theorem ok_heq {f : Addr} {fd : FuncData} (F : Fun K "__eq__" "House.__eq__" sHEq f fd) (T : Bt mg) (gC : mg "House" = some (.ref C)) (k : HK K C) : FnOk P w K mg base CX0 1 f fd ["self", "other"] (spEqH C) := by
  refine F.ok scHEq (fun vs H Q E h => ?_) (fun cdv A outer s H vs Q E hr h => ?_)
  · obtain ⟨a, l, x, y, n, rt, dt, rfl, _⟩ := h
    rfl
  · obtain ⟨a, l, x, y, n, rt, dt, rfl, h, w1, w2, hc⟩ := h
    obtain ⟨dx, p, p2, rs, ds, h1, h2, h3, h4, h5⟩ := h.ex
    refine ⟨_, pss_one (ps_ret (pe_and (pe_callB call_isi (by rfl) T.isi (by decide +kernel) (pa_cons (pv 1) (pa_cons (pe_glob (v := .ref C) (by rfl) gC rfl) pa_nil)))
      (pe_and (pe_cmpR op_eq (pe_fld (pv 0) rfl) (pe_fld (pv 1) rfl) (nomark _)) (pe_and (pe_cmpR (op_eqD hr.units) (pe_fld (pv 0) rfl) (pe_fld (pv 1) rfl) (nomark _)) (pe_one (pe_cmpR (op_eqD hr.units) (pe_fld (pv 0) rfl) (pe_fld (pv 1) rfl) (nomark _))))))), ?_⟩
    rcases hc with ⟨x', n', rt', dt', rfl, h', w1', w2', q⟩ | ⟨sh, q⟩
    · obtain ⟨dx', p', p2', rs', ds', h1', h2', h3', h4', h5'⟩ := h'.ex
      refine ⟨_, rfl, _, _, _, _, true, rfl, .own C, k.ty h', ?_, _, rfl, iteT ?_⟩
      · unfold PySem.W.kitOne
        rw [if_pos (by simp)]
      refine ⟨_, rfl, x, C, dx, _, _, rfl, h1, k.hc.cl, k.hc.nP, rfl, _, rfl, x', C, dx', _, _, rfl, h1', k.hc.cl, k.hc.nP, rfl, rfl, _, rfl, ?_⟩
      by_cases e1 : n = n'
      · subst e1
        rw [decide_eq_true rfl]
        refine iteT ?_
        refine ⟨_, rfl, x, C, dx, _, _, rfl, h1, k.hc.cl, k.hc.nR, rfl, _, rfl, x', C, dx', _, _, rfl, h1', k.hc.cl, k.hc.nR, rfl, _, _, .lst (SqL.of h2.h) (h4.dp w1), .lst (SqL.of h2'.h) (h4'.dp w1'), sh_rows w1, sh_rows w1', _, rfl, ?_⟩
        rw [show PyData.eqv (.list (rt.map td)) (.list (rt'.map td)) = decide (rt = rt') from eqv_rows w1 w1']
        by_cases e2 : rt = rt'
        · subst e2
          rw [decide_eq_true rfl]
          refine iteT ?_
          refine ⟨_, rfl, x, C, dx, _, _, rfl, h1, k.hc.cl, k.hc.nD, rfl, _, rfl, x', C, dx', _, _, rfl, h1', k.hc.cl, k.hc.nD, rfl, _, _, .lst (SqL.of h3.h) (h5.dp w2), .lst (SqL.of h3'.h) (h5'.dp w2'), sh_rows w2, sh_rows w2', ?_⟩
          rw [show PyData.eqv (.list (dt.map td)) (.list (dt'.map td)) = decide (dt = dt') from eqv_rows w2 w2']
          have z := q _ (Same.refl H)
          simp only [true_and] at z
          exact z
        · rw [decide_eq_false e2]
          refine iteF ?_
          have z := q _ (Same.refl H)
          rw [decide_eq_false (fun y => e2 y.2.1)] at z
          exact z
      · rw [decide_eq_false (fun y => e1 (V.int.inj y))]
        refine iteF ?_
        have z := q _ (Same.refl H)
        rw [decide_eq_false (fun y => e1 y.1)] at z
        exact z
    · obtain ⟨Ty, hT, ty⟩ := shp_typ (K := K) sh
      exact ⟨_, rfl, _, _, _, _, false, rfl, .own C, ty, k.kT Ty hT, _, rfl, iteF (q _ (Same.refl H))⟩
end
end K17

set_option Elab.async false
set_option linter.all false
set_option maxRecDepth 100000
set_option maxHeartbeats 4000000
namespace K17
open PySem PySem.Spec PyProof.Rows L2 Own
/-- numbers below m, each once, none of those that were seen -/
def isLotL (m : Int) : List Int → List V → Bool
  | _, [] => true
  | seen, .int i :: r => (decide (0 ≤ i) && (decide (i < m) && !decide (i ∈ seen))) && isLotL m (seen ++ [i]) r
  | _, _ :: _ => false
def isLot (m : Int) : Option (List V) → Bool
  | some xs => isLotL m [] xs
  | none => false
def spIsLot (C : Addr) : Sp := fun vs H Q _ => ∃ (a l x : Addr) (v : V) (n : Int) (rt dt : List (List V)), vs = [.ref x, v] ∧ HObj a l C H x n rt dt ∧ Shp H v ∧ (∀ xs, seqOf H v = some xs → (∀ y ∈ xs, Shp H y) ∧ xs.length ≤ 1000) ∧
  ∀ H', Same H H' → Q (.bl (isLot dt.length (seqOf H v))) H'
abbrev NIsLot : List Str := ["house", "thing", "many", "seen", "door"]
theorem scIsLot : FnScope NIsLot ["house", "thing"] (defScope sIsLot) := ⟨rfl, rfl, rfl, by decide +kernel, rfl, by decide +kernel, by decide +kernel⟩
section
variable {P : Program} {w : World} {K : PySem.W.Frag} {mg : Str → Option Value} {base : Heap} {C : Addr}
theorem ok_isLot {f fL fI fD : Addr} {fd fdL fdI fdD : FuncData} (F : Fun K "is_lot" "is_lot" sIsLot f fd) (T : Bt mg) (k0 : HK K C) (FI : Fun K "is_integer" "is_integer" sIsInt fI fdI) (gI : mg "is_integer" = some (.ref fI)) (bI : Binds K fdI ["thing"] [])
    (FL : Fun K "is_list" "is_list" sIsList fL fdL) (gL : mg "is_list" = some (.ref fL)) (bL : Binds K fdL ["thing"] []) (mD : Meth K C "doors" fD) (FD : Fun K "doors" "House.doors" sDoors fD fdD) (bD : Binds K fdD ["self"] []) : FnOk P w K mg base CX0 2 f fd ["house", "thing"] (spIsLot C) := by
  have GI : FnOk P w K mg base CX0 1 fI fdI ["thing"] spInt := ok_isInt FI T
  have GL : FnOk P w K mg base CX0 1 fL fdL ["thing"] spLst := ok_isLst FL T
  have GD : FnOk P w K mg base CX0 1 fD fdD ["self"] (spRd C true) := ok_doors FD T k0
  refine F.ok scIsLot (fun vs H Q E h => ?_) (fun cdv A outer s H vs Q E hr h => ?_)
  · obtain ⟨a, l, x, v, n, rt, dt, rfl, _⟩ := h
    rfl
  · obtain ⟨a, l, x, v, n, rt, dt, rfl, ho, sh, it, k⟩ := h
    refine ⟨_, (pss_cons (ps_if (pt_not (pt_val (pe_call GL (hr.mono (by decide)) (by rfl) gL FL.kp bL .nil pass0 (pa_cons (pv 1) pa_nil)))) (pss_one (ps_ret pe_bl)) pss_nil)
  (pss_cons (ps_set (i := 2) scIsLot.nd rfl (Or.inl rfl) (pe_callB call_len_seq (by rfl) T.len (by decide +kernel) (pa_cons (pe_meth0 (pv 0) k0.hc.cl mD GD (hr.mono (by decide)) bD .nil pass0) pa_nil)))
  (pss_cons (ps_set (i := 3) scIsLot.nd rfl (Or.inl rfl) pe_dnewK)
  (pss_cons (ps_for PassesOwn.never rfl (pi_or (pi_list (pv 1)) (pi_tup (pv 1))) (pg_name (i := 4) (x := "door") scIsLot.nd rfl (Or.inl rfl)) (pss_cons (ps_if (PW.pt (pw_or (pt_not (pt_val (pe_call GI (hr.mono (by decide)) (by rfl) gI FI.kp bI .nil pass0 (pa_cons (pv 4) pa_nil)))) (pw_or (pt_cmpR op_lt (pv 4) pe_int (nomark _)) (pw_or (pt_cmpR op_ge (pv 4) (pv 2) (nomark _)) (pw_or1 (pt_cmp (pc_din (hu_of hr) (pv 4) (pv 3)))))))) (pss_one (ps_ret pe_bl)) pss_nil)
  (pss_one (ps_dput (hu_of hr) (pv 3) (pv 4) pe_bl rfl))))
  (pss_one (ps_ret pe_bl)))))), ?_⟩
    obtain ⟨dx, p, p2, rs0, ds0, hx0, _⟩ := ho.ex
    refine ⟨_, rfl, v, rfl, sh, fun H1 e1 => ⟨_, rfl, ?_⟩⟩
    cases hs : seqOf H v with
    | none =>
      rw [hs] at k
      exact iteT (k H1 e1)
    | some xs =>
      rw [hs] at k
      obtain ⟨ish, lxs⟩ := it xs hs
      obtain ⟨b, rfl, hb⟩ := sq_of (K := K) sh hs
      refine iteF ⟨_, rfl, x, dx, _, rfl, e1 _ _ hx0, rfl, a, l, x, n, rt, dt, rfl, ho.go (.same e1), fun H2 q ds e2 f2 hq htt => ⟨q, _, rfl, .inl (SqL.of hq), fun sd hsd => ?_⟩⟩
      rw [htt.len]
      have s3 := same_new (o := .dK []) hsd
      have s13 := (Same.trans e1 (e2.trans s3))
      have d3 : upd H2 sd (.dK []) sd = some (.dK (trueD [])) := upd_same
      have fsd : H sd = none := none_back (Same.trans e1 e2) hsd
      generalize upd H2 sd (.dK []) = H3 at s13 d3 ⊢
      clear s3 e1 e2 hsd hq htt f2
      simp only [if_true]
      refine walk_or (K := K) (H0 := H) hb s13 (fun S q => ⟨_, rfl, q⟩) fun J G wk hG => ?_
      refine for_it wk (fun i σ H' => (∃ door, σ = [some (.ref x), some (.ref b), some (.int dt.length), some (.ref sd), door]) ∧ (∀ c o, H c = some o → H' c = some o) ∧ ∃ bs, H' sd = some (.dK (trueD bs)) ∧ bs.length = i ∧ isLotL dt.length [] xs = isLotL dt.length bs (xs.drop i)) ⟨⟨_, rfl⟩, s13, [], d3, rfl, rfl⟩ ?_ ?_ ?_
      · exact fun i σ H' _ z => hG _ z.2.1
      · rintro i y σ H4 H5 hi ⟨⟨door, rfl⟩, s4, bs, hd, lb, eq⟩ ⟨rfl, hx⟩
        have hy := ish y (List.mem_of_getElem? hx)
        have dr : xs.drop i = y :: xs.drop (i + 1) := by
          obtain ⟨hl, hg⟩ := List.getElem?_eq_some_iff.mp hx
          rw [← hg, List.drop_eq_getElem_cons hl]
        rw [dr] at eq
        have shy := hy.same (show Same H H5 from s4)
        refine ⟨_, rfl, y, rfl, shy, _, rfl, ?_⟩
        have no : isLotL dt.length bs (y :: xs.drop (i + 1)) = false → Q (.bl false) H5 := fun z => by
          have q := k H5 s4
          rw [show isLot dt.length (some xs) = false from eq.trans z] at q
          exact q
        cases y with
        | int j =>
          have ej : isLotL dt.length bs (V.int j :: xs.drop (i + 1)) = ((decide (0 ≤ j) && (decide (j < dt.length) && !decide (j ∈ bs))) && isLotL dt.length (bs ++ [j]) (xs.drop (i + 1))) := rfl
          rw [ej] at no eq
          refine iteF ⟨_, rfl, _, _, rfl, rfl, _, rfl, ite2 (fun hc => ?_) (fun hc => ?_)⟩
          · refine iteT (no ?_)
            have : j < 0 := by simpa using hc
            rw [decide_eq_false (show ¬ 0 ≤ j by omega)]
            rfl
          · have j0 : ¬ j < 0 := by simpa using hc
            refine ⟨_, rfl, _, rfl, _, _, rfl, rfl, _, rfl, ite2 (fun hc => ?_) (fun hc => ?_)⟩
            · refine iteT (no ?_)
              have : (dt.length : Int) ≤ j := by simpa using hc
              rw [decide_eq_false (show ¬ j < dt.length by omega), Bool.false_and, Bool.and_false, Bool.false_and]
            · have j1 : ¬ (dt.length : Int) ≤ j := by simpa using hc
              refine ⟨_, rfl, _, rfl, sd, _, rfl, DGet.k (k := Sum.inl j) hd, _, rfl, ?_⟩
              rw [trueD_val]
              by_cases hm : j ∈ bs
              · rw [if_pos hm]
                refine iteT (no ?_)
                rw [decide_eq_true hm]
                simp
              · rw [if_neg hm]
                refine iteF ⟨_, rfl, _, rfl, sd, _, rfl, DPut.k (k := Sum.inl j) hd (by rw [trueD_len]; exact Nat.lt_of_le_of_lt (show bs.length ≤ 1000 by omega) (by decide)), ?_⟩
                rw [trueD_put hm]
                refine ⟨⟨_, rfl⟩, fun c o hc' => ?_, bs ++ [j], upd_same, by rw [List.length_append, lb]; rfl, ?_⟩
                · rw [upd_ne (ne_of_none hc' fsd)]
                  exact s4 _ _ hc'
                · rw [eq, decide_eq_true (show 0 ≤ j by omega), decide_eq_true (show j < dt.length by omega), decide_eq_false hm]
                  rfl
        | _ => exact iteT (iteT (no rfl))
      · rintro σ H4 ⟨⟨door, rfl⟩, s4, bs, hd, lb, eq⟩
        rw [List.drop_length] at eq
        have q := k H4 s4
        rw [show isLot dt.length (some xs) = true from eq.trans rfl] at q
        exact q
end
end K17

set_option Elab.async false
set_option linter.all false
set_option maxRecDepth 100000
set_option maxHeartbeats 2000000
/-! sorted(t), t a tuple of ints -/
namespace Own
open PySem PySem.Spec PyProof.Rows L2
section
variable {prog : Program} {w : World} {A : Around} {E : Value → Shared → Prop} {s : Shared} {t : Addr} {us : List Value}
/-- where the tuple's items stand, once gathered -/
abbrev gath (h : Heap) (us : List Value) : Heap := (h.push (seqObj "list" #[] 0)).update h.objs.size (Obj.mapSeq (· ++ us.toArray))
theorem gather_tup {Q : List Value → Shared → Prop} (ht : s.heap.IsTuple t us.toArray) (hz : us.length ≤ sizeLine) (q : Q us { s with heap := gath s.heap us }) : wpAny (model prog w) A (collect (.ref t)) Q E s := by
  obtain ⟨ob, h1, h2, m, h3⟩ := id ht
  have new : (s.heap.push (seqObj "list" #[] 0)).get? s.heap.objs.size = some (seqObj "list" #[] 0) := Heap.get?_push_size _ rfl
  have h1' : (s.heap.push (seqObj "list" #[] 0)).get? t = some ob := Heap.get?_push_of_some _ h1
  unfold collect
  refine wpAny_bind (wpAny_runValue (codeAny_builtin entry_proto_collect' (?_ : wpAny _ _ (do again (.builtin "list.__iadd__" ⟨[← newList [], .ref t], []⟩)) _ _ s)))
  refine wpAny_bind (wpAny_newList (wpAny_pure ⟨Code.quiet_builtin _ (by decide +kernel), codeAny_builtin entry_list_iadd' (?_ : wpAny _ _ (Builtin.List.listExtendWith (.ref s.heap.objs.size) (.ref t) (.ref s.heap.objs.size)) _ _ { s with heap := s.heap.push (seqObj "list" #[] 0) })⟩))
  unfold Builtin.List.listExtendWith
  refine wpAny_bind (wpAny_typeOf (T := "tuple") ⟨ob, h1', h2⟩ ?_)
  rw [if_pos (by rw [show (Value.type "tuple" == Value.type "tuple") = true from rfl]; simp)]
  refine wpAny_bind (listItems_at h1' h3 (wpAny_bind (listItems_at (xs := #[]) (n := 0) new rfl ?_)))
  rw [if_neg (by simp)]
  refine wpAny_bind (listUpdate_at (xs := #[]) (n := 0) new rfl (wpAny_pure ?_) (Nat.zero_le _) (by show (#[] ++ us.toArray).size ≤ sizeLine + 1; simp only [Array.size_append, List.size_toArray, List.length_nil]; omega))
  refine wpAny_bind (m := load s.heap.objs.size) (wpAny_load (get?_update_seq new _) ?_)
  show wpAny _ _ (pure ((#[] : Array Value) ++ us.toArray).toList) Q E _
  rw [show ((#[] : Array Value) ++ us.toArray).toList = us by simp]
  exact wpAny_pure q
theorem sorted_tup {ns : List Int} {Q : Value → Shared → Prop} (ht : s.heap.IsTuple t us.toArray) (hI : IntsAre us ns) (h64 : us.length < 64)
    (q : ∀ (out : Array Value) (ns' : List Int), IntsAre out.toList ns' → ns'.Perm ns → ns'.Pairwise (· ≤ ·) → Q (.ref (s.heap.objs.size + 1)) { s with heap := sortedAll s.heap us out }) : wpAny (model prog w) A (call (.builtin "sorted") [.ref t]) Q E s := by
  have hz : us.length ≤ sizeLine := small64 h64
  have sz : (gath s.heap us).objs.size = s.heap.objs.size + 1 := by rw [Heap.size_update, size_push']
  have at1 : ((gath s.heap us).push (seqObj "list" us.toArray 0)).get? (s.heap.objs.size + 1) = some (seqObj "list" us.toArray 0) := by
    rw [← sz]
    exact Heap.get?_push_size _ rfl
  refine Calls.call_function_entry kind_sorted plain_sorted entry_sorted (args_sorted1 _) ?_
  unfold Builtin.«sorted»
  refine wpAny_bind (m := checkCount "sorted" 1 1 _) (wpAny_pure (wpAny_bind (gather_tup ht hz (wpAny_bind (wpAny_newList (s := { s with heap := gath s.heap us }) ?_ hz)))))
  show wpAny _ _ _ _ _ { s with heap := (gath s.heap us).push (seqObj "list" us.toArray 0) }
  rw [show (({ s with heap := gath s.heap us } : Shared).heap).objs.size = s.heap.objs.size + 1 from sz]
  exact wpAny_bind (wpAny_holding (wpAny_call_entry slot_list_sort ⟨_, at1, rfl⟩ entry_list_sort (list_sort_tree at1 hI h64 fun out ns' a1 a2 a3 => ⟨_, rfl, wpAny_pure ⟨_, rfl, q out ns' a1 a2 a3⟩⟩) (args_list_sort _)))
end
def rSortedT (K : PySem.W.Frag) : List V → Hp → VK → Prop := fun vs H Q => ∃ (a : Addr) (ns : List Int), vs = [V.ref a] ∧ SqT K H a (ns.map V.int) ∧ ns.length < 64 ∧
  ∀ (ns' : List Int) (p : Addr), ns'.Perm ns → ns'.Pairwise (· ≤ ·) → H p = none → Q (.ref p) (upd H p (.lst (ns'.map V.int)))
theorem cr_sortedT {X : Cx} : CallR X (.builtin "sorted") (rSortedT X.K) := by
  intro pins s σ H vs us Q I r h
  obtain ⟨a, ns, rfl, hs, h64, q⟩ := h
  obtain ⟨its, rv, hl, _⟩ := I.tuple hs
  rw [Vals.ref1 r]
  have hi := rv.ints
  refine sorted_tup (show s.heap.IsTuple a its.toArray from hl) hi (by rw [hi.length]; exact h64) fun out ns' h1 h2 h3 => ?_
  obtain ⟨ep, he'⟩ := PyProof.Rows.sortedAll_at s.heap its out
  have len : (ns'.map V.int).length ≤ sizeLine := by rw [List.length_map, h2.length_eq]; exact small64 h64
  exact ⟨.ref _, upd H (s.heap.objs.size + 1) (.lst (ns'.map V.int)), I.laid (t' := s.toks) (fun _ _ => PyProof.Rows.sortedAll_old) (Nat.le_succ _) ⟨len, out.toList, ep, vals_of_ints h1, he'⟩, rfl, q ns' _ h2 h3 (I.hok.fresh (Nat.le_succ _))⟩
end Own

set_option Elab.async false
set_option linter.all false
set_option maxRecDepth 100000
set_option maxHeartbeats 4000000
namespace K17
open PySem PySem.Spec PyProof.Rows L2 Own
/-- one of two ways to read -/
theorem pe_or2 {X : Cx} {e : Expr} {t1 t2 : TE} (h : PE X e t1) (k : PE X e t2) : PE X e (fun σ H Q => t1 σ H Q ∨ t2 σ H Q) := ⟨fun pins s σ H Q I q => q.elim (h.run pins s σ H Q I) (k.run pins s σ H Q I)⟩
def spGivenLot (C Cl : Addr) : Sp := fun vs H Q E => ∃ (a l x : Addr) (v : V) (n : Int) (rt dt : List (List V)), vs = [.ref x, v] ∧ HObj a l C H x n rt dt ∧ Shp H v ∧ (∀ xs, seqOf H v = some xs → (∀ y ∈ xs, Shp H y) ∧ xs.length ≤ 1000) ∧
  ((isLot dt.length (seqOf H v) = false ∧ Out H E Cl "lot" v) ∨ (isLot dt.length (seqOf H v) = true ∧ ∃ (b : Addr) (ns : List Int), v = .ref b ∧ Sqs H b (ns.map V.int) ∧ ns.length < 64 ∧
    ∀ (H' : Hp) (p : Addr) (ns' : List Int), Same H H' → H p = none → H' p = some (.lst (ns'.map V.int)) → ns'.Perm ns → ns'.Pairwise (· ≤ ·) → Q (.ref p) H'))
theorem scGLot : FnScope ["house", "lot"] ["house", "lot"] (defScope sGivenLot) := ⟨rfl, rfl, rfl, by decide +kernel, rfl, by decide +kernel, by decide +kernel⟩
section
variable {P : Program} {w : World} {K : PySem.W.Frag} {mg : Str → Option Value} {base : Heap} {C : Addr}
theorem ok_givenLot {f fLt fL fI fD Cl : Addr} {fd fdLt fdL fdI fdD : FuncData} (F : Fun K "given_lot" "given_lot" sGivenLot f fd) (T : Bt mg) (zS : mg "sorted" = none) (k0 : HK K C) (FI : Fun K "is_integer" "is_integer" sIsInt fI fdI) (gI : mg "is_integer" = some (.ref fI)) (bI : Binds K fdI ["thing"] [])
    (FL : Fun K "is_list" "is_list" sIsList fL fdL) (gL : mg "is_list" = some (.ref fL)) (bL : Binds K fdL ["thing"] []) (mD : Meth K C "doors" fD) (FD : Fun K "doors" "House.doors" sDoors fD fdD) (bD : Binds K fdD ["self"] [])
    (FLt : Fun K "is_lot" "is_lot" sIsLot fLt fdLt) (gLt : mg "is_lot" = some (.ref fLt)) (bLt : Binds K fdLt ["house", "thing"] []) (EL : EI P w K mg base "BadLot" "lot" Cl) : FnOk P w K mg base (L2.CX P w) 4 f fd ["house", "lot"] (spGivenLot C Cl) := by
  have GLt : FnOk P w K mg base CX0 2 fLt fdLt ["house", "thing"] (spIsLot C) := ok_isLot FLt T k0 FI gI bI FL gL bL mD FD bD
  refine F.okX scGLot (fun vs H Q E h => ?_) (fun cdv A outer s H vs Q E hr h => ?_)
  · obtain ⟨a, l, x, v, n, rt, dt, rfl, _⟩ := h
    rfl
  · obtain ⟨a, l, x, v, n, rt, dt, rfl, ho, sh, it, hc⟩ := h
    refine ⟨_, pss_cons (ps_if (pt_not (pt_val (pe_call GLt (hr.mono (by decide)) (by rfl) gLt FLt.kp bLt .nil pass0 (pa_cons (pv 0) (pa_cons (pv 1) pa_nil))))) (pss_one (ps_EI rfl (takes_of rfl rfl rfl rfl) EL (hr.mono (by decide)) (by rfl) (pv 1) (mono_var 1))) pss_nil)
      (pss_one (ps_ret (pe_or2 (pe_callB cr_sorted (by rfl) zS (by decide +kernel) (pa_cons (pv 1) pa_nil)) (pe_callB cr_sortedT (by rfl) zS (by decide +kernel) (pa_cons (pv 1) pa_nil))))), ?_⟩
    refine ⟨_, rfl, _, rfl, a, l, x, v, n, rt, dt, rfl, ho, sh, it, fun H1 e1 => ⟨_, rfl, ?_⟩⟩
    rcases hc with ⟨z, out⟩ | ⟨z, b, ns, rfl, hb, h64, k⟩
    · rw [z]
      exact iteT ⟨_, rfl, out.at e1⟩
    · rw [z]
      refine iteF ?_
      rcases hb with hb | hb
      · exact .inl ⟨_, rfl, b, ns, rfl, SqL.of (e1 _ _ hb), h64, fun ns' p h1 h2 hp => k _ p ns' (e1.trans (same_new hp)) (none_back e1 hp) upd_same h1 h2⟩
      · exact .inr ⟨_, rfl, b, ns, rfl, SqT.of (e1 _ _ hb), h64, fun ns' p h1 h2 hp => k _ p ns' (e1.trans (same_new hp)) (none_back e1 hp) upd_same h1 h2⟩
end
end K17

set_option Elab.async false
set_option linter.all false
set_option maxRecDepth 100000
set_option maxHeartbeats 4000000
namespace K17
open PySem PySem.Spec PyProof.Rows L2 Own
/-- a thing that may be asked for its items -/
def Lotty (H : Hp) (v : V) : Prop := Shp H v ∧ ∀ xs, seqOf H v = some xs → (∀ y ∈ xs, Shp H y) ∧ xs.length ≤ 1000
/-- no house, or a house and no lot: refused, with the very object -/
def Ref2 (K : PySem.W.Frag) (C Ch Cl : Addr) (v lo : V) (H : Hp) (E : XK) : Prop := (IsC K H C v false ∧ Out H E Ch "thing" v) ∨
  ∃ (a l x : Addr) (n : Int) (rt dt : List (List V)), v = .ref x ∧ IsC K H C v true ∧ HObj a l C H x n rt dt ∧ Lotty H lo ∧ isLot dt.length (seqOf H lo) = false ∧ Out H E Cl "lot" lo
/-- .. or a house, a lot and no number -/
def Ref3 (K : PySem.W.Frag) (C Ch Cl Cb : Addr) (fb : Str) (v lo be : V) (H : Hp) (E : XK) : Prop := Ref2 K C Ch Cl v lo H E ∨
  ∃ (a l x b : Addr) (n : Int) (rt dt : List (List V)) (ns : List Int), v = .ref x ∧ IsC K H C v true ∧ HObj a l C H x n rt dt ∧ Lotty H lo ∧ isLot dt.length (seqOf H lo) = true ∧ lo = .ref b ∧ Sqs H b (ns.map V.int) ∧ ns.length < 64 ∧ Shp H be ∧ isN be = false ∧ Out H E Cb fb be
def spRef2 (K : PySem.W.Frag) (C Ch Cl : Addr) : Sp := fun vs H _ E => ∃ v lo, vs = [v, lo] ∧ Ref2 K C Ch Cl v lo H E
def spRef3 (K : PySem.W.Frag) (C Ch Cl Cb : Addr) (fb : Str) : Sp := fun vs H _ E => ∃ v lo be, vs = [v, lo, be] ∧ Ref3 K C Ch Cl Cb fb v lo be H E
def spRef4 (K : PySem.W.Frag) (C Ch Cl Cb : Addr) : Sp := fun vs H _ E => ∃ v lo be th, vs = [v, lo, be, th] ∧ Ref3 K C Ch Cl Cb "bell" v lo be H E
section
variable {P : Program} {w : World} {K : PySem.W.Frag} {mg : Str → Option Value} {base : Heap} {C Ch Cl Cb fH fG fB fN : Addr} {fdH fdG fdB fdN : FuncData}
theorem sc_most : FnScope ["house", "lot", "bell", "chosen"] ["house", "lot", "bell"] (defScope sMost) := ⟨rfl, rfl, rfl, by decide +kernel, rfl, by decide +kernel, by decide +kernel⟩
theorem ok_most {f : Addr} {fd : FuncData} (F : Fun K "most" "most" sMost f fd) (FH : Fun K "need_house" "need_house" sNeedHouse fH fdH) (gH : mg "need_house" = some (.ref fH)) (bH : Binds K fdH ["house"] []) (GH : FnOk P w K mg base (L2.CX P w) 4 fH fdH ["house"] (spNeedH K C Ch))
    (FG : Fun K "given_lot" "given_lot" sGivenLot fG fdG) (gG : mg "given_lot" = some (.ref fG)) (bG : Binds K fdG ["house", "lot"] []) (GG : FnOk P w K mg base (L2.CX P w) 4 fG fdG ["house", "lot"] (spGivenLot C Cl))
    (FB : Fun K "need_bell" "need_bell" sNeedBell fB fdB) (gB : mg "need_bell" = some (.ref fB)) (bB : Binds K fdB ["bell"] []) (GB : FnOk P w K mg base (L2.CX P w) 4 fB fdB ["bell"] (spNeedB Cb)) : FnOk P w K mg base (L2.CX P w) 5 f fd ["house", "lot", "bell"] (spRef3 K C Ch Cl Cb "bell") := by
  refine F.okX sc_most (fun vs H Q E h => ?_) (fun cdv A outer s H vs Q E hr h => ?_)
  · obtain ⟨v, lo, be, rfl, _⟩ := h
    rfl
  · obtain ⟨v, lo, be, rfl, h⟩ := h
    refine ⟨_, (pss_cons (ps_expr (pe_call GH (hr.mono (by decide)) (by rfl) gH FH.kp bH .nil (passes_call (takes_of rfl rfl rfl rfl) (fun _ _ _ _ h => h)) (pa_cons (pv 0) pa_nil))) (pss_cons (ps_set (i := 3) sc_most.nd rfl (Or.inl rfl) (pe_call GG (hr.mono (by decide)) (by rfl) gG FG.kp bG .nil (passes_call (takes_of rfl rfl rfl rfl) (fun _ _ _ _ h => h)) (pa_cons (pv 0) (pa_cons (pv 1) pa_nil)))) (pss_stop (ps_expr (pe_call GB (hr.mono (by decide)) (by rfl) gB FB.kp bB .nil (passes_call (takes_of rfl rfl rfl rfl) (fun _ _ _ _ h => h)) (pa_cons (pv 2) pa_nil)))))), ?_⟩
    rcases h with h | ⟨a, l, x, b, n, rt, dt, ns, rfl, hc, ho, ll, z, rfl, hb, h64, sb, nb, out⟩
    · rcases h with ⟨hc, out⟩ | ⟨a, l, x, n, rt, dt, rfl, hc, ho, ll, z, out⟩
      · exact ⟨_, rfl, v, false, rfl, hc, .inr ⟨rfl, out⟩⟩
      · exact ⟨_, rfl, _, true, rfl, hc, .inl ⟨rfl, _, rfl, _, rfl, a, l, x, lo, n, rt, dt, rfl, ho, ll.1, ll.2, .inl ⟨z, out⟩⟩⟩
    · exact ⟨_, rfl, _, true, rfl, hc, .inl ⟨rfl, _, rfl, _, rfl, a, l, x, _, n, rt, dt, rfl, ho, ll.1, ll.2, .inr ⟨z, b, ns, rfl, hb, h64, fun H1 p ns' e1 _ _ _ _ => ⟨_, rfl, be, rfl, sb.same e1, .inr ⟨nb, fun d H2 nd sm hd => out.at e1 d H2 nd sm hd⟩⟩⟩⟩⟩
theorem sc_most_plan : FnScope ["house", "lot", "bell", "chosen"] ["house", "lot", "bell"] (defScope sMostPlan) := ⟨rfl, rfl, rfl, by decide +kernel, rfl, by decide +kernel, by decide +kernel⟩
theorem ok_most_plan {f : Addr} {fd : FuncData} (F : Fun K "most_plan" "most_plan" sMostPlan f fd) (FH : Fun K "need_house" "need_house" sNeedHouse fH fdH) (gH : mg "need_house" = some (.ref fH)) (bH : Binds K fdH ["house"] []) (GH : FnOk P w K mg base (L2.CX P w) 4 fH fdH ["house"] (spNeedH K C Ch))
    (FG : Fun K "given_lot" "given_lot" sGivenLot fG fdG) (gG : mg "given_lot" = some (.ref fG)) (bG : Binds K fdG ["house", "lot"] []) (GG : FnOk P w K mg base (L2.CX P w) 4 fG fdG ["house", "lot"] (spGivenLot C Cl))
    (FB : Fun K "need_bell" "need_bell" sNeedBell fB fdB) (gB : mg "need_bell" = some (.ref fB)) (bB : Binds K fdB ["bell"] []) (GB : FnOk P w K mg base (L2.CX P w) 4 fB fdB ["bell"] (spNeedB Cb)) : FnOk P w K mg base (L2.CX P w) 5 f fd ["house", "lot", "bell"] (spRef3 K C Ch Cl Cb "bell") := by
  refine F.okX sc_most_plan (fun vs H Q E h => ?_) (fun cdv A outer s H vs Q E hr h => ?_)
  · obtain ⟨v, lo, be, rfl, _⟩ := h
    rfl
  · obtain ⟨v, lo, be, rfl, h⟩ := h
    refine ⟨_, (pss_cons (ps_expr (pe_call GH (hr.mono (by decide)) (by rfl) gH FH.kp bH .nil (passes_call (takes_of rfl rfl rfl rfl) (fun _ _ _ _ h => h)) (pa_cons (pv 0) pa_nil))) (pss_cons (ps_set (i := 3) sc_most_plan.nd rfl (Or.inl rfl) (pe_call GG (hr.mono (by decide)) (by rfl) gG FG.kp bG .nil (passes_call (takes_of rfl rfl rfl rfl) (fun _ _ _ _ h => h)) (pa_cons (pv 0) (pa_cons (pv 1) pa_nil)))) (pss_stop (ps_expr (pe_call GB (hr.mono (by decide)) (by rfl) gB FB.kp bB .nil (passes_call (takes_of rfl rfl rfl rfl) (fun _ _ _ _ h => h)) (pa_cons (pv 2) pa_nil)))))), ?_⟩
    rcases h with h | ⟨a, l, x, b, n, rt, dt, ns, rfl, hc, ho, ll, z, rfl, hb, h64, sb, nb, out⟩
    · rcases h with ⟨hc, out⟩ | ⟨a, l, x, n, rt, dt, rfl, hc, ho, ll, z, out⟩
      · exact ⟨_, rfl, v, false, rfl, hc, .inr ⟨rfl, out⟩⟩
      · exact ⟨_, rfl, _, true, rfl, hc, .inl ⟨rfl, _, rfl, _, rfl, a, l, x, lo, n, rt, dt, rfl, ho, ll.1, ll.2, .inl ⟨z, out⟩⟩⟩
    · exact ⟨_, rfl, _, true, rfl, hc, .inl ⟨rfl, _, rfl, _, rfl, a, l, x, _, n, rt, dt, rfl, ho, ll.1, ll.2, .inr ⟨z, b, ns, rfl, hb, h64, fun H1 p ns' e1 _ _ _ _ => ⟨_, rfl, be, rfl, sb.same e1, .inr ⟨nb, fun d H2 nd sm hd => out.at e1 d H2 nd sm hd⟩⟩⟩⟩⟩
theorem sc_levels : FnScope ["house", "lot", "chosen"] ["house", "lot"] (defScope sLevels) := ⟨rfl, rfl, rfl, by decide +kernel, rfl, by decide +kernel, by decide +kernel⟩
theorem ok_levels {f : Addr} {fd : FuncData} (F : Fun K "levels" "levels" sLevels f fd) (FH : Fun K "need_house" "need_house" sNeedHouse fH fdH) (gH : mg "need_house" = some (.ref fH)) (bH : Binds K fdH ["house"] []) (GH : FnOk P w K mg base (L2.CX P w) 4 fH fdH ["house"] (spNeedH K C Ch))
    (FG : Fun K "given_lot" "given_lot" sGivenLot fG fdG) (gG : mg "given_lot" = some (.ref fG)) (bG : Binds K fdG ["house", "lot"] []) (GG : FnOk P w K mg base (L2.CX P w) 4 fG fdG ["house", "lot"] (spGivenLot C Cl)) : FnOk P w K mg base (L2.CX P w) 5 f fd ["house", "lot"] (spRef2 K C Ch Cl) := by
  refine F.okX sc_levels (fun vs H Q E h => ?_) (fun cdv A outer s H vs Q E hr h => ?_)
  · obtain ⟨v, lo, rfl, _⟩ := h
    rfl
  · obtain ⟨v, lo, rfl, h⟩ := h
    refine ⟨_, (pss_cons (ps_expr (pe_call GH (hr.mono (by decide)) (by rfl) gH FH.kp bH .nil (passes_call (takes_of rfl rfl rfl rfl) (fun _ _ _ _ h => h)) (pa_cons (pv 0) pa_nil))) (pss_stop (ps_set (i := 2) sc_levels.nd rfl (Or.inl rfl) (pe_call GG (hr.mono (by decide)) (by rfl) gG FG.kp bG .nil (passes_call (takes_of rfl rfl rfl rfl) (fun _ _ _ _ h => h)) (pa_cons (pv 0) (pa_cons (pv 1) pa_nil)))))), ?_⟩
    rcases h with ⟨hc, out⟩ | ⟨a, l, x, n, rt, dt, rfl, hc, ho, ll, z, out⟩
    · exact ⟨_, rfl, v, false, rfl, hc, .inr ⟨rfl, out⟩⟩
    · exact ⟨_, rfl, _, true, rfl, hc, .inl ⟨rfl, _, rfl, _, rfl, a, l, x, lo, n, rt, dt, rfl, ho, ll.1, ll.2, .inl ⟨z, out⟩⟩⟩
theorem sc_lot_bell : FnScope ["house", "lot", "amount", "chosen"] ["house", "lot", "amount"] (defScope sLotBell) := ⟨rfl, rfl, rfl, by decide +kernel, rfl, by decide +kernel, by decide +kernel⟩
theorem ok_lot_bell {f : Addr} {fd : FuncData} (F : Fun K "lot_bell" "lot_bell" sLotBell f fd) (FH : Fun K "need_house" "need_house" sNeedHouse fH fdH) (gH : mg "need_house" = some (.ref fH)) (bH : Binds K fdH ["house"] []) (GH : FnOk P w K mg base (L2.CX P w) 4 fH fdH ["house"] (spNeedH K C Ch))
    (FG : Fun K "given_lot" "given_lot" sGivenLot fG fdG) (gG : mg "given_lot" = some (.ref fG)) (bG : Binds K fdG ["house", "lot"] []) (GG : FnOk P w K mg base (L2.CX P w) 4 fG fdG ["house", "lot"] (spGivenLot C Cl))
    (FN : Fun K "is_number" "is_number" sIsNum fN fdN) (gN : mg "is_number" = some (.ref fN)) (bN : Binds K fdN ["thing"] []) (GN : FnOk P w K mg base CX0 2 fN fdN ["thing"] spNum) (EB : EI P w K mg base "BadAmount" "amount" Cb) : FnOk P w K mg base (L2.CX P w) 5 f fd ["house", "lot", "amount"] (spRef3 K C Ch Cl Cb "amount") := by
  refine F.okX sc_lot_bell (fun vs H Q E h => ?_) (fun cdv A outer s H vs Q E hr h => ?_)
  · obtain ⟨v, lo, be, rfl, _⟩ := h
    rfl
  · obtain ⟨v, lo, be, rfl, h⟩ := h
    refine ⟨_, (pss_cons (ps_expr (pe_call GH (hr.mono (by decide)) (by rfl) gH FH.kp bH .nil (passes_call (takes_of rfl rfl rfl rfl) (fun _ _ _ _ h => h)) (pa_cons (pv 0) pa_nil))) (pss_cons (ps_set (i := 3) sc_lot_bell.nd rfl (Or.inl rfl) (pe_call GG (hr.mono (by decide)) (by rfl) gG FG.kp bG .nil (passes_call (takes_of rfl rfl rfl rfl) (fun _ _ _ _ h => h)) (pa_cons (pv 0) (pa_cons (pv 1) pa_nil)))) (pss_stop (ps_if (pt_not (pt_val (pe_call GN (hr.mono (by decide)) (by rfl) gN FN.kp bN .nil pass0 (pa_cons (pv 2) pa_nil)))) (pss_one (ps_EI rfl (takes_of rfl rfl rfl rfl) EB (hr.mono (by decide)) (by rfl) (pv 2) (mono_var 2))) pss_nil)))), ?_⟩
    rcases h with h | ⟨a, l, x, b, n, rt, dt, ns, rfl, hc, ho, ll, z, rfl, hb, h64, sb, nb, out⟩
    · rcases h with ⟨hc, out⟩ | ⟨a, l, x, n, rt, dt, rfl, hc, ho, ll, z, out⟩
      · exact ⟨_, rfl, v, false, rfl, hc, .inr ⟨rfl, out⟩⟩
      · exact ⟨_, rfl, _, true, rfl, hc, .inl ⟨rfl, _, rfl, _, rfl, a, l, x, lo, n, rt, dt, rfl, ho, ll.1, ll.2, .inl ⟨z, out⟩⟩⟩
    · exact ⟨_, rfl, _, true, rfl, hc, .inl ⟨rfl, _, rfl, _, rfl, a, l, x, _, n, rt, dt, rfl, ho, ll.1, ll.2, .inr ⟨z, b, ns, rfl, hb, h64, fun H1 p ns' e1 _ _ _ _ => ⟨_, rfl, be, rfl, sb.same e1, _, rfl, by rw [nb]; exact iteT ⟨_, rfl, out.at e1⟩⟩⟩⟩⟩
theorem sc_is_moments : FnScope ["house", "lot", "bell", "thing", "chosen"] ["house", "lot", "bell", "thing"] (defScope sIsMom) := ⟨rfl, rfl, rfl, by decide +kernel, rfl, by decide +kernel, by decide +kernel⟩
theorem ok_is_moments {f : Addr} {fd : FuncData} (F : Fun K "is_moments" "is_moments" sIsMom f fd) (FH : Fun K "need_house" "need_house" sNeedHouse fH fdH) (gH : mg "need_house" = some (.ref fH)) (bH : Binds K fdH ["house"] []) (GH : FnOk P w K mg base (L2.CX P w) 4 fH fdH ["house"] (spNeedH K C Ch))
    (FG : Fun K "given_lot" "given_lot" sGivenLot fG fdG) (gG : mg "given_lot" = some (.ref fG)) (bG : Binds K fdG ["house", "lot"] []) (GG : FnOk P w K mg base (L2.CX P w) 4 fG fdG ["house", "lot"] (spGivenLot C Cl))
    (FB : Fun K "need_bell" "need_bell" sNeedBell fB fdB) (gB : mg "need_bell" = some (.ref fB)) (bB : Binds K fdB ["bell"] []) (GB : FnOk P w K mg base (L2.CX P w) 4 fB fdB ["bell"] (spNeedB Cb)) : FnOk P w K mg base (L2.CX P w) 5 f fd ["house", "lot", "bell", "thing"] (spRef4 K C Ch Cl Cb) := by
  refine F.okX sc_is_moments (fun vs H Q E h => ?_) (fun cdv A outer s H vs Q E hr h => ?_)
  · obtain ⟨v, lo, be, th, rfl, _⟩ := h
    rfl
  · obtain ⟨v, lo, be, th, rfl, h⟩ := h
    refine ⟨_, (pss_cons (ps_expr (pe_call GH (hr.mono (by decide)) (by rfl) gH FH.kp bH .nil (passes_call (takes_of rfl rfl rfl rfl) (fun _ _ _ _ h => h)) (pa_cons (pv 0) pa_nil))) (pss_cons (ps_set (i := 4) sc_is_moments.nd rfl (Or.inl rfl) (pe_call GG (hr.mono (by decide)) (by rfl) gG FG.kp bG .nil (passes_call (takes_of rfl rfl rfl rfl) (fun _ _ _ _ h => h)) (pa_cons (pv 0) (pa_cons (pv 1) pa_nil)))) (pss_stop (ps_expr (pe_call GB (hr.mono (by decide)) (by rfl) gB FB.kp bB .nil (passes_call (takes_of rfl rfl rfl rfl) (fun _ _ _ _ h => h)) (pa_cons (pv 2) pa_nil)))))), ?_⟩
    rcases h with h | ⟨a, l, x, b, n, rt, dt, ns, rfl, hc, ho, ll, z, rfl, hb, h64, sb, nb, out⟩
    · rcases h with ⟨hc, out⟩ | ⟨a, l, x, n, rt, dt, rfl, hc, ho, ll, z, out⟩
      · exact ⟨_, rfl, v, false, rfl, hc, .inr ⟨rfl, out⟩⟩
      · exact ⟨_, rfl, _, true, rfl, hc, .inl ⟨rfl, _, rfl, _, rfl, a, l, x, lo, n, rt, dt, rfl, ho, ll.1, ll.2, .inl ⟨z, out⟩⟩⟩
    · exact ⟨_, rfl, _, true, rfl, hc, .inl ⟨rfl, _, rfl, _, rfl, a, l, x, _, n, rt, dt, rfl, ho, ll.1, ll.2, .inr ⟨z, b, ns, rfl, hb, h64, fun H1 p ns' e1 _ _ _ _ => ⟨_, rfl, be, rfl, sb.same e1, .inr ⟨nb, fun d H2 nd sm hd => out.at e1 d H2 nd sm hd⟩⟩⟩⟩⟩
theorem sc_moments_for : FnScope ["house", "lot", "bell", "chosen"] ["house", "lot", "bell"] (defScope sMomFor) := ⟨rfl, rfl, rfl, by decide +kernel, rfl, by decide +kernel, by decide +kernel⟩
theorem ok_moments_for {f : Addr} {fd : FuncData} (F : Fun K "moments_for" "moments_for" sMomFor f fd) (FH : Fun K "need_house" "need_house" sNeedHouse fH fdH) (gH : mg "need_house" = some (.ref fH)) (bH : Binds K fdH ["house"] []) (GH : FnOk P w K mg base (L2.CX P w) 4 fH fdH ["house"] (spNeedH K C Ch))
    (FG : Fun K "given_lot" "given_lot" sGivenLot fG fdG) (gG : mg "given_lot" = some (.ref fG)) (bG : Binds K fdG ["house", "lot"] []) (GG : FnOk P w K mg base (L2.CX P w) 4 fG fdG ["house", "lot"] (spGivenLot C Cl))
    (FB : Fun K "need_bell" "need_bell" sNeedBell fB fdB) (gB : mg "need_bell" = some (.ref fB)) (bB : Binds K fdB ["bell"] []) (GB : FnOk P w K mg base (L2.CX P w) 4 fB fdB ["bell"] (spNeedB Cb)) : FnOk P w K mg base (L2.CX P w) 5 f fd ["house", "lot", "bell"] (spRef3 K C Ch Cl Cb "bell") := by
  refine F.okX sc_moments_for (fun vs H Q E h => ?_) (fun cdv A outer s H vs Q E hr h => ?_)
  · obtain ⟨v, lo, be, rfl, _⟩ := h
    rfl
  · obtain ⟨v, lo, be, rfl, h⟩ := h
    refine ⟨_, (pss_cons (ps_expr (pe_call GH (hr.mono (by decide)) (by rfl) gH FH.kp bH .nil (passes_call (takes_of rfl rfl rfl rfl) (fun _ _ _ _ h => h)) (pa_cons (pv 0) pa_nil))) (pss_cons (ps_set (i := 3) sc_moments_for.nd rfl (Or.inl rfl) (pe_call GG (hr.mono (by decide)) (by rfl) gG FG.kp bG .nil (passes_call (takes_of rfl rfl rfl rfl) (fun _ _ _ _ h => h)) (pa_cons (pv 0) (pa_cons (pv 1) pa_nil)))) (pss_stop (ps_expr (pe_call GB (hr.mono (by decide)) (by rfl) gB FB.kp bB .nil (passes_call (takes_of rfl rfl rfl rfl) (fun _ _ _ _ h => h)) (pa_cons (pv 2) pa_nil)))))), ?_⟩
    rcases h with h | ⟨a, l, x, b, n, rt, dt, ns, rfl, hc, ho, ll, z, rfl, hb, h64, sb, nb, out⟩
    · rcases h with ⟨hc, out⟩ | ⟨a, l, x, n, rt, dt, rfl, hc, ho, ll, z, out⟩
      · exact ⟨_, rfl, v, false, rfl, hc, .inr ⟨rfl, out⟩⟩
      · exact ⟨_, rfl, _, true, rfl, hc, .inl ⟨rfl, _, rfl, _, rfl, a, l, x, lo, n, rt, dt, rfl, ho, ll.1, ll.2, .inl ⟨z, out⟩⟩⟩
    · exact ⟨_, rfl, _, true, rfl, hc, .inl ⟨rfl, _, rfl, _, rfl, a, l, x, _, n, rt, dt, rfl, ho, ll.1, ll.2, .inr ⟨z, b, ns, rfl, hb, h64, fun H1 p ns' e1 _ _ _ _ => ⟨_, rfl, be, rfl, sb.same e1, .inr ⟨nb, fun d H2 nd sm hd => out.at e1 d H2 nd sm hd⟩⟩⟩⟩⟩
end
end K17

set_option Elab.async false
set_option linter.all false
set_option maxRecDepth 100000
set_option maxHeartbeats 4000000
namespace K17
open PySem PySem.Spec PyProof.Rows L2 Own
def spLM (C : Addr) : Sp := fun vs H Q _ => ∃ (a l x b : Addr) (n : Int) (rt dt : List (List V)) (xs : List V), vs = [.ref x, .ref b] ∧ HObj a l C H x n rt dt ∧ Sqs H b xs ∧ (xs.length : Int) ≠ n ∧ ∀ H', Same H H' → Q (.bl false) H'
/-- no house, or a house and a list of another length -/
def spWorth (K : PySem.W.Frag) (C Ch Cm : Addr) : Sp := fun vs H _ E => ∃ v m, vs = [v, m] ∧ ((IsC K H C v false ∧ Out H E Ch "thing" v) ∨
  ∃ (a l x b : Addr) (n : Int) (rt dt : List (List V)) (xs : List V), v = .ref x ∧ IsC K H C v true ∧ HObj a l C H x n rt dt ∧ m = .ref b ∧ Sqs H b xs ∧ (xs.length : Int) ≠ n ∧ Out H E Cm "moments" m)
theorem sc_steady : FnScope ["house", "lot", "_", "amount"] ["house", "lot"] (defScope sSteady) := ⟨rfl, rfl, rfl, by decide +kernel, rfl, by decide +kernel, by decide +kernel⟩
theorem sc_lm : FnScope ["house", "thing", "one"] ["house", "thing"] (defScope sIsLM) := ⟨rfl, rfl, rfl, by decide +kernel, rfl, by decide +kernel, by decide +kernel⟩
theorem sc_worth : FnScope ["house", "moments"] ["house", "moments"] (defScope sWorth) := ⟨rfl, rfl, rfl, by decide +kernel, rfl, by decide +kernel, by decide +kernel⟩
section
variable {P : Program} {w : World} {K : PySem.W.Frag} {mg : Str → Option Value} {base : Heap} {C Ch Cl Cm fV fL fI fN fP fH fM : Addr} {fdV fdL fdI fdN fdP fdH fdM : FuncData}
theorem ok_steady {f : Addr} {fd : FuncData} (F : Fun K "steady" "steady" sSteady f fd) (zSum : mg "sum" = none) (FV : Fun K "levels" "levels" sLevels fV fdV) (gV : mg "levels" = some (.ref fV)) (bV : Binds K fdV ["house", "lot"] []) (GV : FnOk P w K mg base (L2.CX P w) 5 fV fdV ["house", "lot"] (spRef2 K C Ch Cl)) :
    FnOk P w K mg base (L2.CX P w) 6 f fd ["house", "lot"] (spRef2 K C Ch Cl) := by
  refine F.okX sc_steady (fun vs H Q E h => ?_) (fun cdv A outer s H vs Q E hr h => ?_)
  · obtain ⟨v, lo, rfl, _⟩ := h
    rfl
  · obtain ⟨v, lo, rfl, h⟩ := h
    refine ⟨_, (pss_one (ps_ret (pe_callB (cr_sum rfl) (by rfl) zSum (by decide +kernel) (pa_cons (pe_lc (own := [("_", 2), ("amount", 3)]) (g := gTup K 2 (gCons (gName 2) (gCons (gName 3) gNil))) (tt := tYes) rfl sc_steady.nd (pi_list (pe_call GV (hr.mono (by decide)) (by rfl) gV FV.kp bV .nil (passes_call (takes_of rfl rfl rfl rfl) (fun _ _ _ _ h => h)) (pa_cons (pv 0) (pa_cons (pv 1) pa_nil)))) (blkOk_by (N := ["house", "lot", "_", "amount"]) (sc := defScope sSteady) (by decide +kernel)) (fun _ _ _ _ _ => (pg_tup rfl (pgs_cons (pg_name (i := 2) (x := "_") sc_steady.nd rfl (Or.inl rfl)) (pgs_cons (pg_name (i := 3) (x := "amount") sc_steady.nd rfl (Or.inl rfl)) pgs_nil)))) (fun _ _ _ _ _ => pts_nil) (fun _ _ _ _ _ => (pv 3))) pa_nil)))), ?_⟩
    exact ⟨_, rfl, _, rfl, v, lo, rfl, h⟩
theorem ok_lm {f : Addr} {fd : FuncData} (F : Fun K "is_list_of_moments" "is_list_of_moments" sIsLM f fd) (T : Bt mg) (k0 : HK K C) (FI : Fun K "is_integer" "is_integer" sIsInt fI fdI) (gI : mg "is_integer" = some (.ref fI)) (bI : Binds K fdI ["thing"] [])
    (FL : Fun K "is_list" "is_list" sIsList fL fdL) (gL : mg "is_list" = some (.ref fL)) (bL : Binds K fdL ["thing"] []) (FN : Fun K "is_number" "is_number" sIsNum fN fdN) (gN : mg "is_number" = some (.ref fN)) (bN : Binds K fdN ["thing"] [])
    (mP : Meth K C "places" fP) (FP : Fun K "places" "House.places" sPlaces fP fdP) (bP : Binds K fdP ["self"] []) : FnOk P w K mg base CX0 3 f fd ["house", "thing"] (spLM C) := by
  have GL : FnOk P w K mg base CX0 1 fL fdL ["thing"] spLst := ok_isLst FL T
  have GN : FnOk P w K mg base CX0 2 fN fdN ["thing"] spNum := ok_isNum FN T FI gI bI
  have GP : FnOk P w K mg base CX0 1 fP fdP ["self"] (spPl C) := ok_places FP k0
  refine F.ok sc_lm (fun vs H Q E h => ?_) (fun cdv A outer s H vs Q E hr h => ?_)
  · obtain ⟨a, l, x, b, n, rt, dt, xs, rfl, _⟩ := h
    rfl
  · obtain ⟨a, l, x, b, n, rt, dt, xs, rfl, ho, hb, ne, k⟩ := h
    obtain ⟨dx, p, p2, rs0, ds0, hx0, _⟩ := ho.ex
    refine ⟨_, (pss_one (ps_ret (pe_and (pe_call GL (hr.mono (by decide)) (by rfl) gL FL.kp bL .nil pass0 (pa_cons (pv 1) pa_nil)) (pe_and (pe_cmpR op_eq (pe_callB call_len_seq (by rfl) T.len (by decide +kernel) (pa_cons (pv 1) pa_nil)) (pe_meth0 (pv 0) k0.hc.cl mP GP (hr.mono (by decide)) bP .nil pass0) (nomark _)) (pe_one (pe_callB (cr_all rfl) (by rfl) T.all (by decide +kernel) (pa_cons (pe_lc (own := [("one", 2)]) (g := gName 2) (tt := tYes) rfl sc_lm.nd (pi_list (pv 1)) (blkOk_by (N := ["house", "thing", "one"]) (sc := defScope sIsLM) (by decide +kernel)) (fun _ _ _ _ _ => (pg_name (i := 2) (x := "one") sc_lm.nd rfl (Or.inl rfl))) (fun _ _ _ _ _ => pts_nil) (fun _ _ _ _ _ => (pe_call GN (hr.mono (by decide)) (by rfl) gN FN.kp bN .nil pass0 (pa_cons (pv 2) pa_nil)))) pa_nil))))))), ?_⟩
    refine ⟨_, rfl, _, rfl, hb.shp, fun H1 e1 => ⟨_, rfl, ?_⟩⟩
    rw [hb.seq]
    have fin : ∀ {Q' : Prop}, (b = b → Q') → Q' := fun h => h rfl
    have hb1 := hb.same e1
    refine iteT ⟨_, rfl, b, xs, rfl, hb1.imp SqL.of SqT.of, ?_⟩
    refine ⟨_, rfl, x, dx, _, rfl, e1 _ _ hx0, rfl, a, l, x, n, rt, dt, rfl, ho.go (.same e1), rfl, _, rfl, ?_⟩
    rw [decide_eq_false (fun z => ne (V.int.inj z))]
    exact iteF (k H1 e1)
theorem ok_worth {f : Addr} {fd : FuncData} (F : Fun K "worth" "worth" sWorth f fd) (FH : Fun K "need_house" "need_house" sNeedHouse fH fdH) (gH : mg "need_house" = some (.ref fH)) (bH : Binds K fdH ["house"] []) (GH : FnOk P w K mg base (L2.CX P w) 4 fH fdH ["house"] (spNeedH K C Ch))
    (FM : Fun K "is_list_of_moments" "is_list_of_moments" sIsLM fM fdM) (gM : mg "is_list_of_moments" = some (.ref fM)) (bM : Binds K fdM ["house", "thing"] []) (GM : FnOk P w K mg base CX0 3 fM fdM ["house", "thing"] (spLM C)) (EM : EI P w K mg base "BadMoments" "moments" Cm) :
    FnOk P w K mg base (L2.CX P w) 5 f fd ["house", "moments"] (spWorth K C Ch Cm) := by
  refine F.okX sc_worth (fun vs H Q E h => ?_) (fun cdv A outer s H vs Q E hr h => ?_)
  · obtain ⟨v, m, rfl, _⟩ := h
    rfl
  · obtain ⟨v, m, rfl, h⟩ := h
    refine ⟨_, (pss_cons (ps_expr (pe_call GH (hr.mono (by decide)) (by rfl) gH FH.kp bH .nil (passes_call (takes_of rfl rfl rfl rfl) (fun _ _ _ _ h => h)) (pa_cons (pv 0) pa_nil))) (pss_stop (ps_if (pt_not (pt_val (pe_call GM (hr.mono (by decide)) (by rfl) gM FM.kp bM .nil pass0 (pa_cons (pv 0) (pa_cons (pv 1) pa_nil))))) (pss_one (ps_EI rfl (takes_of rfl rfl rfl rfl) EM (hr.mono (by decide)) (by rfl) (pv 1) (mono_var 1))) pss_nil))), ?_⟩
    rcases h with ⟨hc, out⟩ | ⟨a, l, x, b, n, rt, dt, xs, rfl, hc, ho, rfl, hb, ne, out⟩
    · exact ⟨_, rfl, v, false, rfl, hc, .inr ⟨rfl, out⟩⟩
    · exact ⟨_, rfl, _, true, rfl, hc, .inl ⟨rfl, _, rfl, _, rfl, a, l, x, b, n, rt, dt, xs, rfl, ho, hb, ne, fun H1 e1 => ⟨_, rfl, iteT ⟨_, rfl, out.at e1⟩⟩⟩⟩
end
end K17

set_option Elab.async false
set_option linter.all false
set_option maxRecDepth 100000
set_option maxHeartbeats 4000000
namespace K17
open PySem PySem.Spec PyProof.Rows L2 Own
abbrev NLoose : List Str := ["_law_stream_here", "_law_thing", "_law_some", "_law_one"]
theorem scLoose : FnScope NLoose ["_law_stream_here", "_law_thing"] (defScope sLoose) := ⟨rfl, rfl, rfl, by decide +kernel, rfl, by decide +kernel, by decide +kernel⟩
/-- a list or a tuple of these, the def's own -/
def RowA (a l : Addr) (H : Hp) (v : V) (t : List V) : Prop := ∃ p, v = .ref p ∧ p ≠ a ∧ p ≠ l ∧ Sqs H p t
theorem RowA.go {a l : Addr} {H H' : Hp} {v : V} {t : List V} (h : RowA a l H v t) (g : Go a l H H') : RowA a l H' v t := by
  obtain ⟨p, rfl, h1, h2, h3⟩ := h
  exact ⟨p, rfl, h1, h2, h3.imp (fun z => g.k _ _ h1 h2 z) fun z => g.k _ _ h1 h2 z⟩
def RowsA (a l : Addr) (H : Hp) (v : V) (ts : List (List V)) : Prop := ∃ p xs, v = .ref p ∧ p ≠ a ∧ p ≠ l ∧ Sqs H p xs ∧ Paired (RowA a l H) xs ts
theorem pair_imp {α β : Type} {F G : α → β → Prop} : ∀ {xs : List α} {ys : List β}, Paired F xs ys → (∀ a b, F a b → G a b) → Paired G xs ys
  | _, _, .nil, _ => .nil
  | _, _, .cons h t, k => .cons (k _ _ h) (pair_imp t k)
theorem RowsA.go {a l : Addr} {H H' : Hp} {v : V} {ts : List (List V)} (h : RowsA a l H v ts) (g : Go a l H H') : RowsA a l H' v ts := by
  obtain ⟨p, xs, rfl, h1, h2, h3, h4⟩ := h
  exact ⟨p, xs, rfl, h1, h2, h3.imp (fun z => g.k _ _ h1 h2 z) fun z => g.k _ _ h1 h2 z, pair_imp h4 fun _ _ r => r.go g⟩
theorem pair_at {α β : Type} {F : α → β → Prop} : ∀ {xs : List α} {ys : List β} {i : Nat} {x : α}, Paired F xs ys → xs[i]? = some x → ∃ y, ys[i]? = some y ∧ F x y
  | _, _, _, _, .nil, h => by cases h
  | _, _, 0, _, .cons h t, e => by
    obtain rfl := Option.some.inj e
    exact ⟨_, rfl, h⟩
  | _, _, i + 1, _, .cons h t, e => pair_at (i := i) t e
theorem pair_len {α β : Type} {F : α → β → Prop} : ∀ {xs : List α} {ys : List β}, Paired F xs ys → xs.length = ys.length
  | _, _, .nil => rfl
  | _, _, .cons _ t => congrArg (· + 1) (pair_len t)
theorem rows_seq {a l : Addr} {H : Hp} : ∀ {xs : List V} {ts : List (List V)}, Paired (RowA a l H) xs ts → xs.map (seqOf H) = ts.map some
  | _, _, .nil => rfl
  | _, _, .cons h t => by
    obtain ⟨p, rfl, _, _, hp⟩ := h
    show seqOf H (.ref p) :: List.map (seqOf H) _ = some _ :: List.map some _
    rw [hp.seq, rows_seq t]
/-- a comprehension over either, of what none but the stream changes -/
theorem walk_or' {K : PySem.W.Frag} {te : TE} {σ : L2.St} {H : Hp} {a l p : Addr} {xs : List V} (n1 : p ≠ a) (n2 : p ≠ l) (hs : Sqs H p xs) {R : It → Hp → Prop} (hte : ∀ S : VK, S (.ref p) H → te σ H S)
    (h : ∀ (J : It) (G : Hp → Prop), Walk J xs.length G (YAt xs) → (∀ H', Go a l H H' → G H') → R J H) : iList K te σ H R ∨ iTup K te σ H R := by
  rcases hs with hs | hs
  · exact .inl (hte _ ⟨p, rfl, ⟨_, SqL.of hs⟩, h (Itl K p) _ walk_list fun H' k => SqL.of (k.k _ _ n1 n2 hs)⟩)
  · exact .inr (hte _ ⟨p, rfl, ⟨_, SqT.of hs⟩, h (Itt K p) _ walk_tup fun H' k => SqT.of (k.k _ _ n1 n2 hs)⟩)
def spLo0 : Sp := fun vs H Q _ => ∃ (a : Addr) (v : V), vs = [.ref a, v] ∧ isW v = true ∧ ∀ H', Same H H' → Q v H'
def spLo1 : Sp := fun vs H Q _ => ∃ (a l : Addr) (N : Int) (v : V) (t : List V), vs = [.ref a, v] ∧ Strm N H a l ∧ 0 ≤ N ∧ N + 1 ≤ 1000000000 ∧ RowA a l H v t ∧ (∀ x ∈ t, isW x = true) ∧ t.length ≤ 20 ∧
  ∀ H' b, Go a l H H' → H b = none → b ≠ a → b ≠ l → Sqs H' b t → Strm (N + 1) H' a l → Q (.ref b) H'
theorem Go.fresh {a l p : Addr} {H H' : Hp} (g : Go a l H H') (h : H' p = none) (h1 : p ≠ a) (h2 : p ≠ l) : H p = none := by
  cases e : H p with
  | none => rfl
  | some o =>
    rw [g.k _ _ h1 h2 e] at h
    cases h
def spLo2 : Sp := fun vs H Q _ => ∃ (a l : Addr) (N : Int) (v : V) (ts : List (List V)), vs = [.ref a, v] ∧ Strm N H a l ∧ 0 ≤ N ∧ N + 100 ≤ 1000000000 ∧ RowsA a l H v ts ∧ Ws ts ∧ (∀ t ∈ ts, t.length ≤ 20) ∧ ts.length ≤ 50 ∧
  ∀ H' v', Go a l H H' → RowsA a l H' v' ts → Strm (N + 100) H' a l → Q v' H'
section
variable {P : Program} {w : World} {K : PySem.W.Frag} {mg : Str → Option Value} {base : Heap} {f fD : Addr} {fd fdD : FuncData}
theorem ok_lo0 (F : Fun K "_law_loose" "_law_loose" sLoose f fd) (T : Bt mg) (FD : Fun K "_law_draw" "_law_draw" sDraw fD fdD) (gD : mg "_law_draw" = some (.ref fD)) (bD : Binds K fdD ["_law_stream_here", "_law_many"] [])
    (gL : mg "_law_loose" = some (.ref f)) (bL : Binds K fd ["_law_stream_here", "_law_thing"] []) : FnOk P w K mg base CX0 2 f fd ["_law_stream_here", "_law_thing"] spLo0 := by
  have GD : FnOk P w K mg base CX0 1 fD fdD ["_law_stream_here", "_law_many"] spDraw := ok_draw FD T
  have GL : FnOk P w K mg base CX0 0 f fd ["_law_stream_here", "_law_thing"] (fun _ _ _ _ => False) := ⟨fun _ _ _ _ z => z.elim, fun _ _ _ _ _ _ _ _ _ _ _ _ _ z => z.elim⟩
  refine F.ok scLoose (fun vs H Q E h => ?_) (fun cdv A outer s H vs Q E hr h => ?_)
  · obtain ⟨a, v, rfl, _⟩ := h
    rfl
  · obtain ⟨a, v, rfl, hv, k⟩ := h
    refine ⟨_, (pss_cons (ps_if (pt_val (pe_callB call_isiT (by rfl) T.isi (by decide +kernel) (pa_cons (pv 1) (pa_cons (pe_tup (pa_cons (pe_bltn (v := .ty "list") (by rfl) T.list (by decide +kernel) rfl) (pa_cons (pe_bltn (v := .ty "tuple") (by rfl) T.tuple (by decide +kernel) rfl) pa_nil))) pa_nil)))) (pss_cons (ps_setLc (i := 2) (own := [("_law_one", 3)]) (g := gName 3) (tt := tYes) (by rfl) scLoose.nd rfl rfl (sw_true rfl rfl rfl (by decide +kernel)) (pi_or (pi_list (pv 1)) (pi_tup (pv 1))) (blkOk_by (N := NLoose) (sc := defScope sLoose) (by decide +kernel)) (fun _ _ _ _ _ => pg_name (i := 3) (x := "_law_one") scLoose.nd rfl (Or.inl rfl)) (fun _ _ _ _ _ => pts_nil) (fun _ _ _ _ _ => (pe_call GL (hr.mono (by decide)) (by rfl) gL F.kp bL .nil pass0 (pa_cons (pv 0) (pa_cons (pv 3) pa_nil))))) (pss_one (ps_ret (pe_ifExp (pt_cmpR op_eq (pe_call GD (hr.mono (by decide)) (by rfl) gD FD.kp bD .nil pass0 (pa_cons (pv 0) (pa_cons pe_int pa_nil))) pe_int (nomark _)) (pv 2) (pe_tupK (K := K) rfl (by rfl) T.tuple (pv 2)))))) pss_nil) (pss_one (ps_ret (pv 1)))), ?_⟩
    have sh : Shp H v := .inl (isW_atom hv)
    obtain ⟨Ty, i, b, li, ti, si, ty, ki, kb, kl, kt, ks, e1, e2, _⟩ := shp_ty (K := K) sh
    refine ⟨_, rfl, (by show 2 ≤ sizeLine; decide), fun tp htp => ?_⟩
    have e3 := same_new (o := HO.tup [V.ty "list", V.ty "tuple"]) htp
    refine ⟨_, tp, _, _, _, li || ti, rfl, upd_same, .cons (.ty _) (.cons (.ty _) .nil), (ty.grow e3).now, kit2 kl kt rfl, _, rfl, ?_⟩
    have z : (seqOf H v).isSome = false := by
      rw [seq_atom (isW_atom hv)]
      rfl
    rw [← e2, z]
    exact iteF ⟨_, rfl, k _ e3⟩
theorem ok_lo1 (F : Fun K "_law_loose" "_law_loose" sLoose f fd) (T : Bt mg) (FD : Fun K "_law_draw" "_law_draw" sDraw fD fdD) (gD : mg "_law_draw" = some (.ref fD)) (bD : Binds K fdD ["_law_stream_here", "_law_many"] [])
    (gL : mg "_law_loose" = some (.ref f)) (bL : Binds K fd ["_law_stream_here", "_law_thing"] []) : FnOk P w K mg base CX0 3 f fd ["_law_stream_here", "_law_thing"] spLo1 := by
  have GD : FnOk P w K mg base CX0 1 fD fdD ["_law_stream_here", "_law_many"] spDraw := ok_draw FD T
  have GL : FnOk P w K mg base CX0 2 f fd ["_law_stream_here", "_law_thing"] spLo0 := ok_lo0 F T FD gD bD gL bL
  refine F.ok scLoose (fun vs H Q E h => ?_) (fun cdv A outer s H vs Q E hr h => ?_)
  · obtain ⟨a, l, N, v, t, rfl, _⟩ := h
    rfl
  · obtain ⟨a, l, N, v, t, rfl, S, hN0, hN1, ⟨p, rfl, np1, np2, hp⟩, hw, ht, k⟩ := h
    refine ⟨_, (pss_cons (ps_if (pt_val (pe_callB call_isiT (by rfl) T.isi (by decide +kernel) (pa_cons (pv 1) (pa_cons (pe_tup (pa_cons (pe_bltn (v := .ty "list") (by rfl) T.list (by decide +kernel) rfl) (pa_cons (pe_bltn (v := .ty "tuple") (by rfl) T.tuple (by decide +kernel) rfl) pa_nil))) pa_nil)))) (pss_cons (ps_setLc (i := 2) (own := [("_law_one", 3)]) (g := gName 3) (tt := tYes) (by rfl) scLoose.nd rfl rfl (sw_true rfl rfl rfl (by decide +kernel)) (pi_or (pi_list (pv 1)) (pi_tup (pv 1))) (blkOk_by (N := NLoose) (sc := defScope sLoose) (by decide +kernel)) (fun _ _ _ _ _ => pg_name (i := 3) (x := "_law_one") scLoose.nd rfl (Or.inl rfl)) (fun _ _ _ _ _ => pts_nil) (fun _ _ _ _ _ => (pe_call GL (hr.mono (by decide)) (by rfl) gL F.kp bL .nil pass0 (pa_cons (pv 0) (pa_cons (pv 3) pa_nil))))) (pss_one (ps_ret (pe_ifExp (pt_cmpR op_eq (pe_call GD (hr.mono (by decide)) (by rfl) gD FD.kp bD .nil pass0 (pa_cons (pv 0) (pa_cons pe_int pa_nil))) pe_int (nomark _)) (pv 2) (pe_tupK (K := K) rfl (by rfl) T.tuple (pv 2)))))) pss_nil) (pss_one (ps_ret (pv 1)))), ?_⟩
    obtain ⟨Ty, i, b, li, ti, si, ty, ki, kb, kl, kt, ks, e1, e2, _⟩ := shp_ty (K := K) hp.shp
    refine ⟨_, rfl, (by show 2 ≤ sizeLine; decide), fun tp htp => ?_⟩
    have e3 := same_new (o := HO.tup [V.ty "list", V.ty "tuple"]) htp
    refine ⟨_, tp, _, _, _, li || ti, rfl, upd_same, .cons (.ty _) (.cons (.ty _) .nil), (ty.grow e3).now, kit2 kl kt rfl, _, rfl, ?_⟩
    rw [← e2, hp.seq]
    refine iteT ?_
    have S1 := S.but e3
    generalize upd H tp (.tup [V.ty "list", V.ty "tuple"]) = H1 at e3 S1 ⊢
    clear htp
    refine walk_or (K := K) (hp.same e3) (Same.refl H1) (fun S q => ⟨_, rfl, q⟩) fun J G wk hG => fun D hD => ?_
    refine lc_it wk (fun i H' => Same H1 H' ∧ H' D = some (.lst (t.take i))) ⟨same_new hD, upd_same⟩ (fun i H' _ q => hG _ q.1) ?_ ?_
    · rintro i x H3 H4 hi ⟨q1, q2⟩ ⟨rfl, hx⟩
      refine ⟨rfl, _, rfl, _, rfl, a, x, rfl, hw x (List.mem_of_getElem? hx), fun H5 e5 => ?_⟩
      refine ⟨_, e5 _ _ q2, ?_, fun b o g => ?_, ?_⟩
      · rw [List.length_take]
        exact Nat.lt_of_le_of_lt (Nat.min_le_right _ _) (Nat.lt_of_le_of_lt ht (by decide))
      · rw [upd_ne (ne_of_none g hD)]
        exact e5 _ _ (q1 _ _ g)
      · rw [upd_same, List.take_add_one, hx]
        rfl
    · rintro H3 ⟨q1, q2⟩
      rw [List.take_of_length_le (Nat.le_refl _)] at q2
      have S3 := S1.but q1
      have nD := S1.ne_new hD
      have g3 : Go a l H H3 := (Go.same e3).trans (.same q1)
      refine ⟨_, rfl, a, l, N, 2, rfl, S3, hN0, by omega, by decide, by decide, fun H4 d d0 d1 b4 S4 => ⟨rfl, _, rfl, ite2 (fun hc => ?_) (fun hc => ?_)⟩⟩
      · have g4 := g3.trans (.but S3 b4)
        exact ⟨_, rfl, k _ _ g4 ((Go.same (a := a) (l := l) e3).fresh hD nD.1 nD.2) nD.1 nD.2 (.inl (b4 _ _ nD.1 nD.2 q2)) S4⟩
      · have g4 := g3.trans (.but S3 b4)
        refine ⟨_, rfl, .inl ⟨D, t, rfl, SqL.of (b4 _ _ nD.1 nD.2 q2), fun q hq => ?_⟩⟩
        have nq := S4.ne_new hq
        exact k _ _ (g4.trans (.same (same_new hq))) (g4.fresh hq nq.1 nq.2) nq.1 nq.2 (.inr upd_same) (S4.but (same_new hq))
theorem ok_lo2 (F : Fun K "_law_loose" "_law_loose" sLoose f fd) (T : Bt mg) (FD : Fun K "_law_draw" "_law_draw" sDraw fD fdD) (gD : mg "_law_draw" = some (.ref fD)) (bD : Binds K fdD ["_law_stream_here", "_law_many"] [])
    (gL : mg "_law_loose" = some (.ref f)) (bL : Binds K fd ["_law_stream_here", "_law_thing"] []) : FnOk P w K mg base CX0 4 f fd ["_law_stream_here", "_law_thing"] spLo2 := by
  have GD : FnOk P w K mg base CX0 1 fD fdD ["_law_stream_here", "_law_many"] spDraw := ok_draw FD T
  have GL : FnOk P w K mg base CX0 3 f fd ["_law_stream_here", "_law_thing"] spLo1 := ok_lo1 F T FD gD bD gL bL
  refine F.ok scLoose (fun vs H Q E h => ?_) (fun cdv A outer s H vs Q E hr h => ?_)
  · obtain ⟨a, l, N, v, ts, rfl, _⟩ := h
    rfl
  · obtain ⟨a, l, N, v, ts, rfl, S, hN0, hN1, ⟨p, xs, rfl, np1, np2, hp, hr2⟩, hw, hl, ht, k⟩ := h
    refine ⟨_, (pss_cons (ps_if (pt_val (pe_callB call_isiT (by rfl) T.isi (by decide +kernel) (pa_cons (pv 1) (pa_cons (pe_tup (pa_cons (pe_bltn (v := .ty "list") (by rfl) T.list (by decide +kernel) rfl) (pa_cons (pe_bltn (v := .ty "tuple") (by rfl) T.tuple (by decide +kernel) rfl) pa_nil))) pa_nil)))) (pss_cons (ps_setLc (i := 2) (own := [("_law_one", 3)]) (g := gName 3) (tt := tYes) (by rfl) scLoose.nd rfl rfl (sw_true rfl rfl rfl (by decide +kernel)) (pi_or (pi_list (pv 1)) (pi_tup (pv 1))) (blkOk_by (N := NLoose) (sc := defScope sLoose) (by decide +kernel)) (fun _ _ _ _ _ => pg_name (i := 3) (x := "_law_one") scLoose.nd rfl (Or.inl rfl)) (fun _ _ _ _ _ => pts_nil) (fun _ _ _ _ _ => (pe_call GL (hr.mono (by decide)) (by rfl) gL F.kp bL .nil pass0 (pa_cons (pv 0) (pa_cons (pv 3) pa_nil))))) (pss_one (ps_ret (pe_ifExp (pt_cmpR op_eq (pe_call GD (hr.mono (by decide)) (by rfl) gD FD.kp bD .nil pass0 (pa_cons (pv 0) (pa_cons pe_int pa_nil))) pe_int (nomark _)) (pv 2) (pe_tupK (K := K) rfl (by rfl) T.tuple (pv 2)))))) pss_nil) (pss_one (ps_ret (pv 1)))), ?_⟩
    obtain ⟨Ty, i, b, li, ti, si, ty, ki, kb, kl, kt, ks, e1, e2, _⟩ := shp_ty (K := K) hp.shp
    refine ⟨_, rfl, (by show 2 ≤ sizeLine; decide), fun tp htp => ?_⟩
    have e3 := same_new (o := HO.tup [V.ty "list", V.ty "tuple"]) htp
    refine ⟨_, tp, _, _, _, li || ti, rfl, upd_same, .cons (.ty _) (.cons (.ty _) .nil), (ty.grow e3).now, kit2 kl kt rfl, _, rfl, ?_⟩
    rw [← e2, hp.seq]
    refine iteT ?_
    have S1 := S.but e3
    generalize upd H tp (.tup [V.ty "list", V.ty "tuple"]) = H1 at e3 S1 ⊢
    clear htp
    have lx : xs.length = ts.length := pair_len hr2
    have np : ∀ {b : Addr} {xs : List V}, Sqs H1 b xs → ∃ o, H1 b = some o := fun h => h.elim (fun z => ⟨_, z⟩) fun z => ⟨_, z⟩
    have hp1 := hp.same e3
    have hr1 : Paired (RowA a l H1) xs ts := pair_imp hr2 fun _ _ r => r.go (.same e3)
    clear hr2 hp
    -- the list walked over stands still: it is none of the stream's
    refine walk_or' (K := K) np1 np2 hp1 (fun S q => ⟨_, rfl, q⟩) fun J G wk hG => fun D hD => ?_
    have nD := S1.ne_new hD
    refine lc_it wk (fun i H' => Go a l H1 H' ∧ Strm (N + i) H' a l ∧ ∃ acc, H' D = some (.lst acc) ∧ Paired (fun v t => ∃ p, v = V.ref p ∧ p ≠ a ∧ p ≠ l ∧ p ≠ D ∧ Sqs H' p t) acc (ts.take i)) ⟨.same (same_new hD), by simpa using S1.but (same_new hD), [], upd_same, .nil⟩ (fun i H' _ q => hG _ q.1) ?_ ?_
    · rintro i x H3 H4 hi ⟨g3, S3, acc, a3, r3⟩ ⟨rfl, hx⟩
      obtain ⟨t, hti, hrow⟩ := pair_at hr1 hx
      have htm := List.mem_of_getElem? hti
      refine ⟨rfl, _, rfl, _, rfl, a, l, _, x, t, rfl, S3, by omega, by omega, hrow.go g3, hw t htm, hl t htm, fun H5 b g5 fb nb1 nb2 hb S5 => ?_⟩
      have la : acc.length ≤ 50 := by
        rw [pair_len r3, List.length_take]
        omega
      have a5 := g5.k _ _ nD.1 nD.2 a3
      have nbD : b ≠ D := fun z => by
        rw [z, a3] at fb
        cases fb
      have up : ∀ {p : Addr} {t : List V}, p ≠ D → Sqs H5 p t → Sqs (upd H5 D (.lst (acc ++ [.ref b]))) p t := fun n h => h.imp (fun z => by rw [upd_ne n]; exact z) fun z => by rw [upd_ne n]; exact z
      refine ⟨acc, a5, Nat.lt_of_le_of_lt la (by decide), (g3.trans g5).set hD, ?_, _, upd_same, ?_⟩
      · have z : N + ((i + 1 : Nat) : Int) = N + i + 1 := by omega
        rw [z]
        exact S5.upd nD.1 nD.2
      · rw [List.take_add_one, hti]
        refine Paired.snoc (pair_imp r3 fun v t ⟨p, e, m1, m2, m3, m4⟩ => ⟨p, e, m1, m2, m3, up m3 (m4.imp (fun z => g5.k _ _ m1 m2 z) fun z => g5.k _ _ m1 m2 z)⟩) ⟨b, rfl, nb1, nb2, nbD, up nbD hb⟩
    · rintro H3 ⟨g3, S3, acc, a3, r3⟩
      rw [lx, List.take_length] at r3
      rw [lx] at S3
      refine ⟨_, rfl, a, l, _, 2, rfl, S3, by omega, by omega, by decide, by decide, fun H4 d d0 d1 b4 S4 => ⟨rfl, _, rfl, ite2 (fun hc => ?_) (fun hc => ?_)⟩⟩
      · have g4 := ((Go.same e3).trans g3).trans (.but S3 b4)
        have r4 : Paired (RowA a l H4) acc ts := pair_imp r3 fun v t ⟨p, e, m1, m2, _, m4⟩ => ⟨p, e, m1, m2, m4.imp (fun z => b4 _ _ m1 m2 z) fun z => b4 _ _ m1 m2 z⟩
        exact ⟨_, rfl, k _ _ g4 ⟨D, acc, rfl, nD.1, nD.2, .inl (b4 _ _ nD.1 nD.2 a3), r4⟩ (S4.mono (by omega))⟩
      · have g4 := ((Go.same e3).trans g3).trans (.but S3 b4)
        have r4 : Paired (RowA a l H4) acc ts := pair_imp r3 fun v t ⟨p, e, m1, m2, _, m4⟩ => ⟨p, e, m1, m2, m4.imp (fun z => b4 _ _ m1 m2 z) fun z => b4 _ _ m1 m2 z⟩
        refine ⟨_, rfl, .inl ⟨D, acc, rfl, SqL.of (b4 _ _ nD.1 nD.2 a3), fun q hq => ?_⟩⟩
        have nq := S4.ne_new hq
        have s5 := same_new (o := .tup acc) hq
        exact k _ _ (g4.trans (.same s5)) ⟨q, acc, rfl, nq.1, nq.2, .inr upd_same, pair_imp r4 fun _ _ r => r.go (.same s5)⟩ ((S4.but s5).mono (by omega))
end
end K17

set_option Elab.async false
set_option linter.all false
set_option maxRecDepth 100000
set_option maxHeartbeats 4000000
/-! list(enumerate(xs)), xs a list: a new list of new pairs -/
namespace Own
open PySem PySem.Spec PyProof.Rows L2
theorem enum_no_len : typeLookup (.type "enumerate") "__len__" = pure none := by rw [typeLookup_type, builtinLookup_eq_fast]; kernel_rfl
theorem enum_no_hint : typeLookup (.type "enumerate") "__length_hint__" = pure none := by rw [typeLookup_type, builtinLookup_eq_fast]; kernel_rfl
/-- the walk before its i-th pair: none given out yet, or the first one held -/
structure EnSt (h : Heap) (e it l S : Addr) (i : Nat) : Prop where
  li : h.IsListIter it l i
  en : (∃ old, IsEnum h e it i old) ∨ ∃ old T f oT, IsEnumHeld h e it i old T f ∧ h.get? T = some oT ∧ T ≠ e ∧ T ≠ it ∧ T ≠ S
theorem EnSt.keep {h h' : Heap} {e it l S : Addr} {i : Nat} (x : EnSt h e it l S i) (k : ∀ b o, b ≠ S → h.get? b = some o → h'.get? b = some o) (n1 : e ≠ S) (n2 : it ≠ S) : EnSt h' e it l S i := by
  refine ⟨x.li.at fun o q => k it o n2 q, ?_⟩
  rcases x.en with ⟨old, he⟩ | ⟨old, T, f, oT, he, hT, r1, r2, r3⟩
  · exact .inl ⟨old, k _ _ n1 he⟩
  · exact .inr ⟨old, T, f, oT, k _ _ n1 he, k _ _ r3 hT, r1, r2, r3⟩
/-- the pairs that were given out, above lo, rising -/
structure EnG (items : Array Value) (lo : Addr) (h : Heap) (as : List Addr) : Prop where
  rise : as.Pairwise (· < ·)
  above : ∀ a ∈ as, lo < a
  pairs : ∀ (j : Nat) (a : Addr), as[j]? = some a → ∃ x t, items[j]? = some x ∧ h.get? a = some { cls := .type "tuple", data := .seq #[.int (j : Nat) t, x] }
theorem EnG.there {items : Array Value} {lo : Addr} {h : Heap} {as : List Addr} (g : EnG items lo h as) {a : Addr} (ha : a ∈ as) : a < h.objs.size := by
  obtain ⟨j, hj⟩ := List.mem_iff_getElem?.mp ha
  obtain ⟨_, _, _, e⟩ := g.pairs j a hj
  exact Heap.lt_size e
section
variable {prog : Program} {w : World} {A : Around} {E : Value → Shared → Prop} {s : Shared} {e it l S : Addr} {i : Nat} {items : Array Value}
theorem en_item {x : Value} {Q : Option Value → Shared → Prop} (st : EnSt s.heap e it l S i) (hl : s.heap.IsList l items) (hS : S < s.heap.objs.size) (hei : e ≠ it) (hle : l ≠ e) (hli : l ≠ it) (hx : items[i]? = some x)
    (hQ : ∀ h' tk t, EnSt h' e it l S (i + 1) → h'.IsList l items → h'.get? s.heap.objs.size = some { cls := .type "tuple", data := .seq #[.int (i : Nat) t, x] } → (∀ b o, b ≠ e → b ≠ it → s.heap.get? b = some o → h'.get? b = some o) →
      Q (some (.ref s.heap.objs.size)) { s with heap := h', toks := tk }) : wpAny (model prog w) A (pyNext (.ref e)) Q E s := by
  obtain ⟨hit, he⟩ := st
  have ec : ((i + 1 : Nat) : Int) = (i : Int) + 1 := by omega
  have nit : s.heap.objs.size ≠ it := let ⟨_, x, _⟩ := hit; Nat.ne_of_gt (Heap.lt_size x)
  rcases he with ⟨old, he⟩ | ⟨old, T, f, oT, he, hT, r1, r2, r3⟩
  · refine wpAny_pyNext_enum_item he hit hl hx hei fun h' ho hit' hT hsz hk => ?_
    exact hQ h' (s.toks + 1) _ ⟨hit', .inr ⟨_, s.heap.objs.size, false, _, (by rw [ec]; exact ho), hT, Nat.ne_of_gt (Heap.lt_size he), nit, Nat.ne_of_gt hS⟩⟩ (hl.at fun o x => hk l o hle hli x) hT hk
  · refine wpAny_pyNext_enum_item_held he hT r1 r2 hit hl hx hei fun h' ho hit' hT' hsz hk => ?_
    exact hQ h' (s.toks + 1) _ ⟨hit', .inr ⟨old, T, true, oT, (by rw [ec]; exact ho), hk _ _ r1 r2 hT, r1, r2, r3⟩⟩ (hl.at fun o x => hk l o hle hli x) hT' hk
theorem en_done {Q : Option Value → Shared → Prop} (hh : A.handled = none) (st : EnSt s.heap e it l S i) (hl : s.heap.IsList l items) (hx : items[i]? = none)
    (hQ : ∀ h', Heap.ExtBut it s.heap h' → Q none { s with heap := h' }) : wpAny (model prog w) A (pyNext (.ref e)) Q E s := by
  obtain ⟨hit, he⟩ := st
  rcases he with ⟨old, he⟩ | ⟨old, T, f, oT, he, hT, r1, r2, r3⟩
  · exact wpAny_pyNext_enum_end hh he hit hl hx hQ
  · exact wpAny_pyNext_enum_end_held hh he hit hl hx hQ
end
section
variable {prog : Program} {w : World} {A : Around} {s : Shared} {R : Result → Shared → Prop} {e it l : Addr} {items : Array Value}
theorem en_loop {S : Addr} (hh : A.handled = none) (heS : e < S) (hiS : it < S) (hlS : l < S) (hei : e ≠ it) (hle : l ≠ e) (hli : l ≠ it) (hn : items.size ≤ sizeLine) (res : Value) {h₁ : Heap}
    (hR : ∀ h' tk acc c as, (∀ b o, b ≠ S → b ≠ e → b ≠ it → h₁.get? b = some o → h'.get? b = some o) → h'.get? S = some { cls := .type "list", dict := none, data := .seq acc c, slots := #[] } → as.length = items.size → EnG items S h' as →
      acc.toList = as.map Value.ref → R (.ok (.ret res)) { s with heap := h', toks := tk }) :
    ∀ (k i : Nat) (h : Heap) (tk c : Nat) (acc : Array Value) (as : List Addr), items.size - i = k → i ≤ items.size → EnSt h e it l S i → h.IsList l items → (∀ b o, b ≠ S → b ≠ e → b ≠ it → h₁.get? b = some o → h.get? b = some o) →
      h.get? S = some { cls := .type "list", dict := none, data := .seq acc c, slots := #[] } → acc.toList = as.map Value.ref → as.length = i → EnG items S h as →
      codeAny (model prog w) A (.builtin "list.extend.loop" ⟨[.ref S, .ref e, res], []⟩) R { s with heap := h, toks := tk } := by
  have ne1 : S ≠ e := Nat.ne_of_gt heS
  have ne2 : S ≠ it := Nat.ne_of_gt hiS
  intro k
  induction k with
  | zero =>
    intro i h tk c acc as hk hi hst hL hkeep hS hacc hal hG
    have hin : i = items.size := by omega
    refine codeAny_builtin PySem.F.entry_extend_loop ?_
    rw [Around.under_plainId PySem.F.plain_extend_loop _]
    show wpAny _ A.in1 (pyNext (.ref e) >>= _) _ _ _
    refine wpAny_bind (en_done (s := { s with heap := h, toks := tk }) (A := A.in1) hh hst hL (Array.getElem?_eq_none (by omega)) fun h' he => ?_)
    refine wpAny_pure (hR h' tk acc c as (fun b o h1 h2 h3 q => he b o h3 (hkeep b o h1 h2 h3 q)) (he S _ ne2 hS) (by omega) ⟨hG.rise, hG.above, fun j a hj => ?_⟩ hacc)
    obtain ⟨x, t, e1, e3⟩ := hG.pairs j a hj
    exact ⟨x, t, e1, he a _ (Nat.ne_of_gt (Nat.lt_trans hiS (hG.above a (List.mem_of_getElem? hj)))) e3⟩
  | succ k ih =>
    intro i h tk c acc as hk hi hst hL hkeep hS hacc hal hG
    have hlt : i < items.size := by omega
    have hsz : acc.size = i := by rw [← Array.length_toList, hacc, List.length_map, hal]
    refine codeAny_builtin PySem.F.entry_extend_loop ?_
    rw [Around.under_plainId PySem.F.plain_extend_loop _]
    show wpAny _ A.in1 (pyNext (.ref e) >>= _) _ _ _
    refine wpAny_bind (en_item (s := { s with heap := h, toks := tk }) (S := S) hst hL (Heap.lt_size hS) hei hle hli (Array.getElem?_eq_getElem hlt) fun h' tk' t hst' hL' ht hkp => ?_)
    dsimp only at ht hkp ⊢
    have hS' := hkp S _ ne1 ne2 hS
    have up : ∀ b o, b ≠ S → h'.get? b = some o → (h'.update S (Obj.mapSeq (·.push (Value.ref h.objs.size)))).get? b = some o := fun b o hb q => (Heap.get?_update_other _ _ (Ne.symm hb)).trans q
    have hSl : S < h.objs.size := Heap.lt_size hS
    show wpAny _ A.in1 (updateSeq S (·.push (Value.ref h.objs.size)) >>= _) _ _ _
    refine wpAny_bind ?_
    refine wpAny_updateSeq hS' rfl (wpAny_pure ⟨plainId_quiet PySem.F.plain_extend_loop _, ih (i + 1) _ tk' _ (acc.push (Value.ref h.objs.size)) (as ++ [h.objs.size]) (by omega) hlt (hst'.keep up ne1.symm ne2.symm) (hL'.at fun o q => up l o (Nat.ne_of_lt hlS) q)
      (fun b o h1 h2 h3 q => up b o h1 (hkp b o h2 h3 (hkeep b o h1 h2 h3 q))) (Heap.get?_update_self _ hS' rfl) (by rw [Array.toList_push, hacc, List.map_append]; rfl) (by rw [List.length_append, hal]; rfl) ⟨?_, ?_, ?_⟩⟩) (by rw [hsz]; omega) (by show (acc.push (Value.ref h.objs.size)).size ≤ sizeLine + 1; rw [Array.size_push, hsz]; omega)
    · refine List.pairwise_append.mpr ⟨hG.rise, List.pairwise_singleton _ _, fun a ha b hb => ?_⟩
      rw [List.mem_singleton.mp hb]
      exact hG.there ha
    · intro a ha
      rcases List.mem_append.mp ha with ha | ha
      · exact hG.above a ha
      · rw [List.mem_singleton.mp ha]; exact hSl
    · intro j b hj
      rcases Nat.lt_trichotomy j as.length with h1 | h1 | h1
      · rw [List.getElem?_append_left h1] at hj
        obtain ⟨x, t2, e1, e3⟩ := hG.pairs j b hj
        have hb := hG.above b (List.mem_of_getElem? hj)
        exact ⟨x, t2, e1, up b _ (Nat.ne_of_gt hb) (hkp b _ (Nat.ne_of_gt (Nat.lt_trans heS hb)) (Nat.ne_of_gt (Nat.lt_trans hiS hb)) e3)⟩
      · subst h1
        have hb : h.objs.size = b := by simpa using hj
        subst hb
        exact ⟨_, t, Array.getElem?_eq_getElem (by omega), by subst hal; exact up _ _ (Nat.ne_of_gt hSl) ht⟩
      · have hnone : (as ++ [h.objs.size])[j]? = none := List.getElem?_eq_none (by rw [List.length_append, List.length_singleton]; omega)
        rw [hnone] at hj; cases hj
end
section
variable {prog : Program} {w : World} {A : Around} {E : Value → Shared → Prop} {s : Shared} {e it l : Addr} {items : Array Value}
theorem en_init {R : Result → Shared → Prop} {S : Addr} (hh : A.handled = none) (he : IsEnum s.heap e it 0 .none) (hit : s.heap.IsListIter it l 0) (hl : s.heap.IsList l items) (heS : e < S) (hiS : it < S) (hlS : l < S) (hei : e ≠ it) (hle : l ≠ e) (hli : l ≠ it)
    (hS : s.heap.get? S = some { cls := .type "list", data := .seq #[] }) (hn : items.size ≤ sizeLine)
    (hR : ∀ h' tk acc c as, (∀ b o, b ≠ S → b ≠ e → b ≠ it → s.heap.get? b = some o → h'.get? b = some o) → h'.get? S = some { cls := .type "list", dict := none, data := .seq acc c, slots := #[] } → as.length = items.size → EnG items S h' as →
      acc.toList = as.map Value.ref → R (.ok (.ret .none)) { s with heap := h', toks := tk }) :
    wpAny (model prog w) A.in1 (Builtin.«list.__init__» ⟨[.ref S, .ref e], []⟩)
      (fun fin s' => match fin with | .done f => R (.ok f) s' | .again c' => c'.quiet = true ∧ codeAny (model prog w) A c' R s') (fun e s' => R (.error e) s') s := by
  show wpAny _ _ (do let old ← Builtin.List.listItems (.ref S); Builtin.List.listUpdate (.ref S) (fun _ => #[]); letGo old.toList.reverse; Builtin.List.listExtendWith (.ref S) (.ref e) .none) _ _ s
  refine wpAny_bind ?_
  unfold Builtin.List.listItems
  refine wpAny_bind (wpAny_seqItems hS rfl (wpAny_pure ?_))
  show wpAny _ _ (updateSeq S (fun _ => #[]) >>= fun _ => letGo (#[] : Array Value).toList.reverse >>= fun _ => Builtin.List.listExtendWith (.ref S) (.ref e) .none) _ _ s
  refine wpAny_bind (wpAny_updateSeq hS rfl ?_)
  have hS₂ := Heap.get?_update_self (Obj.mapSeq (fun _ => (#[] : Array Value))) hS rfl
  have oth : ∀ b o, b ≠ S → s.heap.get? b = some o → (s.heap.update S (Obj.mapSeq (fun _ => (#[] : Array Value)))).get? b = some o :=
    fun b o hb q => (Heap.get?_update_other _ _ (Ne.symm hb)).trans q
  refine wpAny_bind (wpAny_letGo ?_)
  have he₂ : IsEnum (s.heap.update S (Obj.mapSeq (fun _ => (#[] : Array Value)))) e it 0 .none := oth e _ (Nat.ne_of_lt heS) he
  have hit₂ := hit.at (h' := s.heap.update S (Obj.mapSeq (fun _ => (#[] : Array Value)))) fun o q => oth it o (Nat.ne_of_lt hiS) q
  have hl₂ := hl.at (h' := s.heap.update S (Obj.mapSeq (fun _ => (#[] : Array Value)))) fun o q => oth l o (Nat.ne_of_lt hlS) q
  generalize s.heap.update S (Obj.mapSeq (fun _ => (#[] : Array Value))) = h2 at hS₂ oth he₂ hit₂ hl₂ ⊢
  replace hS₂ : h2.get? S = some { cls := .type "list", dict := none, data := .seq #[] 0, slots := #[] } := hS₂
  have key : ∀ (h : Heap) (c₁ tk : Nat), (∀ b o, b ≠ S → h2.get? b = some o → h.get? b = some o) → h.get? S = some { cls := .type "list", data := .seq #[] c₁ } →
      codeAny (model prog w) A (.builtin "list.extend.loop" ⟨[.ref S, .ref e, .none], []⟩) R { s with heap := h, toks := tk } := fun h c₁ tk hk hS₁ =>
    en_loop (s := s) (h₁ := s.heap) hh heS hiS hlS hei hle hli hn .none hR items.size 0 h tk c₁ #[] [] (Nat.sub_zero _) (Nat.zero_le _)
      ⟨hit₂.at fun o q => hk it o (Nat.ne_of_lt hiS) q, .inl ⟨.none, hk e _ (Nat.ne_of_lt heS) he₂⟩⟩ (hl₂.at fun o q => hk l o (Nat.ne_of_lt hlS) q) (fun b o h1 _ _ q => hk b o h1 (oth b o h1 q)) hS₁ rfl rfl
      ⟨List.Pairwise.nil, (fun _ ha => nomatch ha), (fun j a hj => by simp at hj)⟩
  have hT : ∀ {g d tk os}, (⟨h2, g, d, tk, os⟩ : Shared).TypeIs (.ref e) "enumerate" := fun {_ _ _ _} => ⟨_, he₂, rfl⟩
  unfold Builtin.List.listExtendWith
  refine wpAny_bind (wpAny_typeOf (T := "enumerate") hT ?_)
  have h1 : Builtin.List.listSameRef (.ref S) (.ref e) = false := by simp [Builtin.List.listSameRef, Nat.ne_of_gt heS]
  have h2' : (Value.type "enumerate" == Value.type "list") = false := by decide
  have h3 : (Value.type "enumerate" == Value.type "tuple") = false := by decide
  simp only [h1, h2', h3, Bool.or_false, Bool.false_eq_true, if_false]
  refine wpAny_bind (wpAny_pyIter_enum he₂ ?_)
  refine wpAny_bind (wpAny_holding ?_)
  unfold Builtin.List.listLengthHint
  refine wpAny_bind (wpAny_specialOf hT enum_no_len ?_)
  show wpAny _ A.in1 (specialOf (Value.ref e) (Str.ofString "__length_hint__") >>= _) _ _ _
  refine wpAny_bind (wpAny_specialOf hT enum_no_hint ?_)
  refine wpAny_pure ?_
  show wpAny _ A.in1 (rule "list.extend.makes-room" >>= fun _ => Builtin.List.listTouch (.ref S) >>= fun _ => again (.builtin "list.extend.loop" ⟨[.ref S, .ref e, .none], []⟩)) _ _ _
  refine wpAny_bind (wpAny_rule ?_)
  refine wpAny_bind ?_
  show wpAny _ _ (updateSeq S (·.push .none) >>= fun _ => updateSeq S (·.pop)) _ _ _
  refine wpAny_bind (wpAny_updateSeq hS₂ rfl ?_)
  have hS₃ := Heap.get?_update_self (Obj.mapSeq (·.push Value.none)) hS₂ rfl
  refine wpAny_updateSeq (hz := by seq_fits) hS₃ rfl ?_
  have hS₄ := Heap.get?_update_self (Obj.mapSeq (·.pop)) hS₃ rfl
  refine wpAny_pure ⟨plainId_quiet PySem.F.plain_extend_loop _, key _ _ _ (fun b o hb q => ?_) hS₄⟩
  exact (Heap.get?_update_other _ _ (Ne.symm hb)).trans ((Heap.get?_update_other _ _ (Ne.symm hb)).trans q)
theorem en_call {Q : Value → Shared → Prop} (hh : A.handled = none) (he : IsEnum s.heap e it 0 .none) (hit : s.heap.IsListIter it l 0) (hl : s.heap.IsList l items) (hei : e ≠ it) (hle : l ≠ e) (hli : l ≠ it) (hn : items.size ≤ sizeLine)
    (hQ : ∀ h' tk acc c as, (∀ b o, b ≠ e → b ≠ it → s.heap.get? b = some o → h'.get? b = some o) → h'.get? s.heap.objs.size = some { cls := .type "list", dict := none, data := .seq acc c, slots := #[] } → as.length = items.size → EnG items s.heap.objs.size h' as →
      acc.toList = as.map Value.ref → Q (.ref s.heap.objs.size) { s with heap := h', toks := tk }) :
    wpAny (model prog w) A (call (.type "list") [.ref e]) Q E s := by
  refine callType_codes (Q₁ := fun obj s₁ => obj = .ref s.heap.objs.size ∧ s₁ = { s with heap := s.heap.push { cls := .type "list", data := .seq #[] } }) PySem.F.called_list (PySem.F.typeCall_list_1 _) PySem.F.entry_list_init
    (code_list_new _ ⟨rfl, rfl⟩) fun obj s₁ h₁ => ?_
  obtain ⟨rfl, rfl⟩ := h₁
  have hS : (s.heap.push { cls := .type "list", data := .seq #[] }).get? s.heap.objs.size = some { cls := .type "list", data := .seq #[] } := Heap.get?_push_size _ rfl
  have l1 : e < s.heap.objs.size := Heap.lt_size he
  have l2 : it < s.heap.objs.size := let ⟨_, ho, _⟩ := hit; Heap.lt_size ho
  have l3 : l < s.heap.objs.size := let ⟨_, ho, _⟩ := hl; Heap.lt_size ho
  refine ⟨⟨_, hS, rfl⟩, PySem.F.args_list_init_2 _ _, en_init (A := A.in1) (items := items) (l := l) (it := it) hh (Heap.get?_push_of_some _ he) (hit.at fun o q => Heap.get?_push_of_some _ q) (hl.at fun o q => Heap.get?_push_of_some _ q) l1 l2 l3 hei hle hli hS hn (fun h' tk acc c as hk hS' hl' hG hacc => ?_)⟩
  exact ⟨rfl, hQ h' tk acc c as (fun b o n1 n2 q => hk b o (Nat.ne_of_lt (Heap.lt_size q)) n1 n2 (Heap.get?_push_of_some _ q)) hS' hl' hG hacc⟩
end
/-- the pairs as entries by their place -/
def enK : Nat → List V → List (Key × V)
  | _, [] => []
  | n, x :: r => (Sum.inl (n : Int), x) :: enK (n + 1) r
theorem enK_len : ∀ (n : Nat) (xs : List V), (enK n xs).length = xs.length
  | _, [] => rfl
  | n, x :: r => congrArg (· + 1) (enK_len (n + 1) r)
theorem enK_at : ∀ (n : Nat) (xs : List V) (j : Nat) (x : V), xs[j]? = some x → (enK n xs)[j]? = some (Sum.inl ((n + j : Nat) : Int), x)
  | n, y :: r, 0, x, h => by
    obtain rfl := Option.some.inj h
    rfl
  | n, y :: r, j + 1, x, h => by
    have z := enK_at (n + 1) r j x h
    rw [show n + 1 + j = n + (j + 1) by omega] at z
    exact z
def tListEnum (K : PySem.W.Frag) (ta : TA) : TE := fun σ H Q => ta σ H fun vs H1 => ∃ a xs, vs = [.ref a] ∧ SqL K H1 a xs ∧
  ∀ (H' : Hp) (p : Addr) (ts : List Addr), (∀ b o, H1 b = some o → H' b = some o) → H1 p = none → (∀ t ∈ ts, H1 t = none) → p ∉ ts → H' p = some (.lst (ts.map V.ref)) → ts.length = xs.length →
    (∀ (j : Nat) t x, ts[j]? = some t → xs[j]? = some x → H' t = some (.tup [.int (j : Nat), x])) → Q (.ref p) H'
section
variable {X : Cx} {e : Expr} {te : TA} {p p2 pos pos2 : Pos}
theorem enum_laid {pins : List (Addr × Obj)} {σ : L2.St} {H : Hp} {s : Shared} {h' : Heap} {tk : Nat} {xs : List V} {us : List Value} {acc : Array Value} {c : Nat} {as : List Addr} {S : Addr} (I : Inv X pins σ H s) (lS : s.heap.objs.size ≤ S) (hz : xs.length ≤ sizeLine) (rv : Vals xs us)
    (hk : ∀ b o, s.heap.get? b = some o → h'.get? b = some o) (hS : h'.get? S = some { cls := .type "list", dict := none, data := .seq acc c, slots := #[] }) (hl : as.length = us.length) (hG : EnG us.toArray S h' as) (hacc : acc.toList = as.map Value.ref) :
    ∃ H' : Hp, (∀ b o, H b = some o → H' b = some o) ∧ H S = none ∧ (∀ t ∈ as, H t = none) ∧ S ∉ as ∧ H' S = some (.lst (as.map V.ref)) ∧ (∀ (j : Nat) t x, as[j]? = some t → xs[j]? = some x → H' t = some (.tup [.int (j : Nat), x])) ∧ Inv X pins σ H' { s with heap := h', toks := tk } := by
  have lk : xs.length = us.length := rv.length
  have hSn : S ∉ as := fun z => Nat.lt_irrefl _ (hG.above _ z)
  have nd : as.Nodup := List.Pairwise.imp (fun {a b} (h : a < b) => Nat.ne_of_lt h) hG.rise
  have new : ∀ t ∈ as, H t = none := fun t ht => I.hok.fresh (Nat.le_trans lS (Nat.le_of_lt (hG.above t ht)))
  have newS : H S = none := I.hok.fresh lS
  have atP := LiI.putT_at as (enK 0 xs) (upd H S (.lst (as.map V.ref))) (by rw [enK_len]; omega) nd
  have off : ∀ b, b ∉ as → b ≠ S → LiI.putT (upd H S (.lst (as.map V.ref))) as (enK 0 xs) b = H b := fun b h1 h2 => by rw [LiI.putT_off as _ _ h1, upd_ne h2]
  have low : ∀ b o, s.heap.get? b = some o → b ∉ as ∧ b ≠ S := fun b o q => ⟨fun z => absurd (Heap.lt_size q) (Nat.not_lt.mpr (Nat.le_trans lS (Nat.le_of_lt (hG.above b z)))), Nat.ne_of_lt (Nat.lt_of_lt_of_le (Heap.lt_size q) lS)⟩
  have kp : ∀ b u, H b = some u → (LiI.putT (upd H S (.lst (as.map V.ref))) as (enK 0 xs)) b = some u := fun b u q => by
    rw [off b (fun z => by rw [new b z] at q; cases q) (fun z => by rw [z, newS] at q; cases q)]
    exact q
  have eS : LiI.putT (upd H S (.lst (as.map V.ref))) as (enK 0 xs) S = some (.lst (as.map V.ref)) := by rw [LiI.putT_off as _ _ hSn, upd_same]
  have at2 : ∀ (j : Nat) t x, as[j]? = some t → xs[j]? = some x → LiI.putT (upd H S (.lst (as.map V.ref))) as (enK 0 xs) t = some (.tup [.int (j : Nat), x]) := fun j t x e1 e2 => by
    obtain ⟨pk, f1, f2⟩ := LiI.paired_get atP e1
    have z := enK_at 0 xs j x e2
    rw [f1] at z
    rw [Option.some.inj z, Nat.zero_add] at f2
    exact f2
  refine ⟨LiI.putT (upd H S (.lst (as.map V.ref))) as (enK 0 xs), kp, newS, new, hSn, eS, at2, ?_⟩
  refine I.call' (ch := []) rfl ⟨fun b o q _ _ _ => hk b o q, fun b o q _ _ _ => ⟨o.slots, hk b o q⟩, fun b o q n _ => ?_, fun b o q _ => ⟨o, hk b o q⟩, fun b xs q => kp b _ q, fun b o u q => kp b _ q, fun b ps q => ⟨#[], by rw [kp b _ q]; simp⟩⟩ (fun b u q => ?_) I.bare fun b z => by simp at z
  · obtain ⟨z1, z2⟩ := low b o q
    rw [off b z1 z2]
    exact n
  · by_cases hb : b ∈ as
    · obtain ⟨j, e1⟩ := List.mem_iff_getElem?.mp hb
      obtain ⟨v, t, f1, f3⟩ := hG.pairs j b e1
      have f1' : us[j]? = some v := by simpa using f1
      obtain ⟨x, g1, g2⟩ : ∃ x, xs[j]? = some x ∧ RelV x v := by
        have hj : j < xs.length := by
          have := (List.getElem?_eq_some_iff.mp f1').1
          omega
        obtain ⟨u, hu, ru⟩ := rv.get (List.getElem?_eq_getElem hj)
        rw [f1'] at hu
        exact ⟨_, List.getElem?_eq_getElem hj, by rw [Option.some.inj hu]; exact ru⟩
      rw [at2 j b x e1 g1] at q
      cases q
      exact ⟨by show 2 ≤ sizeLine; decide, [.int (j : Nat) t, v], .cons ⟨_, rfl⟩ (.cons g2 .nil), ⟨_, f3, rfl, _, rfl⟩⟩
    · by_cases hb2 : b = S
      · rw [hb2] at q ⊢
        rw [eS] at q
        cases q
        refine ⟨by rw [List.length_map]; omega, acc.toList, c, by rw [hacc]; exact LiI.vals_refs as, ?_⟩
        rw [Array.toArray_toList]
        exact hS
      · rw [off b hb hb2] at q
        exact (I.hok b u q).stay (fun d v _ y => hk d v y) (fun d y => kp d _ y) fun d xs y => kp d _ y
/-- list(enumerate(e)) -/
theorem pe_listEnum (hc : X.calm = true) (he : PA X [e] te) (hg : Gl X "list") (hm : X.mg "list" = none) (hv : bootBuiltins "list" = some (.type "list")) (hg2 : Gl X "enumerate") (hm2 : X.mg "enumerate" = none) (hs : starEach [e] X.env = [(false, eval e X.env)] := by rfl)
    (ht : starEach [.Call (.Name "enumerate" p2) [e] [] pos2] X.env = (false, eval (.Call (.Name "enumerate" p2) [e] [] pos2) X.env) :: starEach [] X.env := by rfl) :
    PE X (.Call (.Name "list" p) [.Call (.Name "enumerate" p2) [e] [] pos2] [] pos) (tListEnum X.K te) := by
  refine ⟨fun pins s σ H Q I hq => ?_⟩
  refine wpAny_Call_Name_kw (ld_blt I hg hm hv ?_)
  refine PyProof.Rows.callWith_type1 ?_ ht rfl
  rw [ht]
  show wpAny _ _ (spliced ((false, eval (.Call (.Name "enumerate" p2) [e] [] pos2) X.env) :: backTo pos (starEach [] X.env))) _ _ s
  refine Calls.spliced_cons ?_
  refine Call_ (ld_blt I hg2 hm2 boot_enumerate (PyProof.Rows.callWith_type1 (thn (he.run pos2 pins s σ H _ I hq) fun us s1 ⟨vs, H1, I1, r1, q1⟩ => ?_) hs rfl))
  obtain ⟨a, xs, ex, hx, q⟩ := q1
  subst ex
  cases r1 with
  | cons r rr =>
    cases rr
    cases r
    obtain ⟨its, rv, p', hz⟩ := I1.list hx
    have la : a < s1.heap.objs.size := by
      obtain ⟨_, ho, _⟩ := p'.isList
      exact Heap.lt_size ho
    refine call_enumerate_list p'.isList fun h' hen hit hsz hk => ?_
    refine Calls.spliced_nil ?_
    have hl' : h'.IsList a its.toArray := p'.isList.at fun o q => hk _ o q
    refine en_call (s := { s1 with heap := h' }) (l := a) (I1.ok.hd hc) hen hit hl' (Nat.succ_ne_self _) (Nat.ne_of_lt (Nat.lt_succ_of_lt la)) (Nat.ne_of_lt la) (by have := rv.length; simp; omega) fun h2 tk acc c as hk2 hS hl hG hacc => ?_
    have ls : s1.heap.objs.size ≤ h'.objs.size := by omega
    obtain ⟨H', k1, k2, k3, k4, k5, k6, J⟩ := enum_laid (tk := tk) I1 ls hz rv (fun b o q => hk2 b o (Nat.ne_of_lt (Nat.lt_succ_of_lt (Heap.lt_size q))) (Nat.ne_of_lt (Heap.lt_size q)) (hk b o q)) hS (by rw [hl]; simp) hG hacc
    exact ⟨.ref _, H', J, rfl, q H' _ as k1 k2 k3 k4 k5 (by have := rv.length; rw [hl]; simp; omega) k6⟩
end
end Own

set_option Elab.async false
set_option linter.all false
set_option maxRecDepth 100000
set_option maxHeartbeats 4000000
namespace K17
open PySem PySem.Spec PyProof.Rows L2 Own
/-! ### houses as the law holds them -/
/-- good places, roads and doors -/
structure GoodT (n : Int) (rt dt : List (List V)) : Prop where
  n1 : 1 ≤ n
  r : ∀ j, j < (rt.map some).length → ¬ BadAt n (rt.map some) j
  d : ∀ j, j < (dt.map some).length → ¬ BadD n (dt.map some) j
  lr : rt.length ≤ 50
  ld : dt.length ≤ 50
theorem isIO_w {s : Str} (h : isIO (.str s) = true) : isW (.str s) = true := by
  have h' : inV (.str s) [.str "in", .str "out"] = true := h
  simp only [inV, List.any_cons, List.any_nil, Bool.or_false] at h'
  show (decide (s = "in") || decide (s = "out")) = true
  rcases Bool.or_eq_true_iff.mp h' with z | z
  · have e : s = "in" := (beq_iff_eq.mp (show (("in" : Str) == s) = true from z)).symm
    rw [e]; decide
  · have e : s = "out" := (beq_iff_eq.mp (show (("out" : Str) == s) = true from z)).symm
    rw [e]; decide
theorem GoodT.rows {n : Int} {rt dt : List (List V)} (g : GoodT n rt dt) : ∀ t ∈ rt, ∃ x y l r : Int, t = [.int x, .int y, .int l, .int r] := fun t ht => by
  obtain ⟨j, hj, e⟩ := List.mem_iff_getElem.mp ht
  have e2 : (rt.map some)[j]? = some (some t) := by rw [List.getElem?_map, List.getElem?_eq_getElem hj, e]; rfl
  have b := g.r j (by rw [List.length_map]; exact hj)
  cases q : isRoad n (some t) with
  | true =>
    obtain ⟨x, y, l, r, z, _⟩ := road_of q
    exact ⟨x, y, l, r, Option.some.inj z⟩
  | false => exact absurd ⟨_, e2, .inl q⟩ b
theorem GoodT.dors {n : Int} {rt dt : List (List V)} (g : GoodT n rt dt) : ∀ t ∈ dt, ∃ (z : Str) (x h : Int), t = [.str z, .int x, .int h] ∧ isW (.str z) = true := fun t ht => by
  obtain ⟨j, hj, e⟩ := List.mem_iff_getElem.mp ht
  have e2 : (dt.map some)[j]? = some (some t) := by rw [List.getElem?_map, List.getElem?_eq_getElem hj, e]; rfl
  have b := g.d j (by rw [List.length_map]; exact hj)
  cases q : isDoor n (some t) with
  | true =>
    obtain ⟨z, x, h, e3⟩ := door_of q
    have e4 := Option.some.inj e3
    subst e4
    have q' : (isIO (.str z) && (isP n (.int x) && isN (.int h))) = true := q
    exact ⟨z, x, h, rfl, isIO_w (Bool.and_eq_true_iff.mp q').1⟩
  | false => exact absurd ⟨_, e2, .inl q⟩ b
theorem GoodT.wr {n : Int} {rt dt : List (List V)} (g : GoodT n rt dt) : Ws rt := fun t ht v hv => by
  obtain ⟨x, y, l, r, rfl⟩ := g.rows t ht
  simp only [List.mem_cons, List.not_mem_nil, or_false] at hv
  rcases hv with rfl | rfl | rfl | rfl <;> rfl
theorem GoodT.wd {n : Int} {rt dt : List (List V)} (g : GoodT n rt dt) : Ws dt := fun t ht v hv => by
  obtain ⟨z, x, h, rfl, hz⟩ := g.dors t ht
  simp only [List.mem_cons, List.not_mem_nil, or_false] at hv
  rcases hv with rfl | rfl | rfl
  · exact hz
  · rfl
  · rfl
theorem GoodT.l4 {n : Int} {rt dt : List (List V)} (g : GoodT n rt dt) : ∀ t ∈ rt, t.length ≤ 20 := fun t ht => by
  obtain ⟨x, y, l, r, rfl⟩ := g.rows t ht
  show 4 ≤ 20
  decide
theorem GoodT.l3 {n : Int} {rt dt : List (List V)} (g : GoodT n rt dt) : ∀ t ∈ dt, t.length ≤ 20 := fun t ht => by
  obtain ⟨z, x, h, rfl, _⟩ := g.dors t ht
  show 3 ≤ 20
  decide
/-- a tuple of the places and the lists of roads and doors -/
structure HT (a l : Addr) (H : Hp) (t : Addr) (n : Int) (rt dt : List (List V)) : Prop where
  ex : ∃ p q xs ys, H t = some (.tup [.int n, .ref p, .ref q]) ∧ Ls a l H p xs ∧ Ls a l H q ys ∧ TT H xs rt ∧ TT H ys dt
theorem HT.go {a l t : Addr} {H H' : Hp} {n : Int} {rt dt : List (List V)} (h : HT a l H t n rt dt) (g : Go a l H H') : HT a l H' t n rt dt := by
  obtain ⟨p, q, xs, ys, h1, h2, h3, h4, h5⟩ := h.ex
  exact ⟨p, q, xs, ys, g.t _ _ h1, h2.go g, h3.go g, h4.tl g.t, h5.tl g.t⟩
theorem tup_na {N : Int} {a l p : Addr} {H : Hp} {t : List V} (S : Strm N H a l) (h : H p = some (.tup t)) : p ≠ a ∧ p ≠ l := by
  obtain ⟨xs, c, n, m, h1, h2, _⟩ := S.ex
  exact ⟨ne_of h h1 (fun z => by cases z), ne_of h h2 (fun z => by cases z)⟩
theorem TT.row {N : Int} {a l : Addr} {H : Hp} (S : Strm N H a l) : ∀ {xs : List V} {ts : List (List V)}, TT H xs ts → Paired (RowA a l H) xs ts
  | [], [], _ => .nil
  | [], _ :: _, h => by cases h
  | _ :: _, [], h => by cases h
  | v :: xs, t :: ts, h => by
    obtain ⟨h1, h2⟩ := List.cons.inj (show tupOf H v :: xs.map (tupOf H) = some t :: ts.map some from h)
    obtain ⟨p, rfl, hp⟩ := tupOf_ref h1
    obtain ⟨n1, n2⟩ := tup_na S hp
    exact .cons ⟨p, rfl, n1, n2, .inr hp⟩ (TT.row S (xs := xs) (ts := ts) h2)
theorem Ls.rows {N : Int} {a l p : Addr} {H : Hp} {xs : List V} {ts : List (List V)} (S : Strm N H a l) (h : Ls a l H p xs) (k : TT H xs ts) : RowsA a l H (.ref p) ts := ⟨p, xs, rfl, h.na, h.nl, .inl h.h, k.row S⟩
theorem rowa_items {a l : Addr} {H : Hp} {xs : List V} {ts : List (List V)} (h : Paired (RowA a l H) xs ts) (w : Ws ts) : Items H xs := fun v hv => by
  obtain ⟨i, hi, rfl⟩ := List.mem_iff_getElem.mp hv
  obtain ⟨t, ht, p, e, _, _, hp⟩ := pair_at h (List.getElem?_eq_getElem hi)
  rw [e]
  refine ⟨hp.shp, fun ys hy y hy2 => .inl (isW_atom ?_)⟩
  rw [hp.seq] at hy
  rw [← Option.some.inj hy] at hy2
  exact w t (List.mem_of_getElem? ht) y hy2
theorem paired_w {K : PySem.W.Frag} {C : Addr} {H : Hp} : ∀ {t : List V}, (∀ v ∈ t, isW v = true) → Paired (Eqt K C 0 H) t t
  | [], _ => .nil
  | v :: r, h => .cons (eqt_atom (isW_atom (h v List.mem_cons_self))) (paired_w fun u hu => h u (List.mem_cons_of_mem _ hu))
theorem TT.eqt {K : PySem.W.Frag} {C : Addr} {H : Hp} : ∀ {xs ys : List V} {ts : List (List V)}, TT H xs ts → TT H ys ts → Ws ts → (∀ t ∈ ts, t.length ≤ 20) → Paired (Eqt K C 1 H) xs ys
  | [], [], [], _, _, _, _ => .nil
  | _ :: _, _, [], h, _, _, _ => by cases h
  | [], _, _ :: _, h, _, _, _ => by cases h
  | _, _ :: _, [], _, h, _, _ => by cases h
  | _, [], _ :: _, _, h, _, _ => by cases h
  | v :: xs, u :: ys, t :: ts, h, k, w, l => by
    obtain ⟨h1, h2⟩ := List.cons.inj (show tupOf H v :: xs.map (tupOf H) = some t :: ts.map some from h)
    obtain ⟨k1, k2⟩ := List.cons.inj (show tupOf H u :: ys.map (tupOf H) = some t :: ts.map some from k)
    obtain ⟨p, rfl, hp⟩ := tupOf_ref h1
    obtain ⟨q, rfl, hq⟩ := tupOf_ref k1
    refine .cons (.inr (.inr (.inl ⟨p, q, t, t, rfl, rfl, hp, hq, paired_w (w t List.mem_cons_self), Nat.le_trans (l t List.mem_cons_self) (by decide)⟩))) ?_
    exact TT.eqt (xs := xs) (ys := ys) (ts := ts) h2 k2 (fun s hs => w s (List.mem_cons_of_mem _ hs)) fun s hs => l s (List.mem_cons_of_mem _ hs)
def spMade (C : Addr) : Sp := fun vs H Q _ => ∃ (a l t : Addr) (N n : Int) (rt dt : List (List V)), vs = [.ref a, .ref t] ∧ Strm N H a l ∧ 0 ≤ N ∧ N + 200 ≤ 1000000000 ∧ HT a l H t n rt dt ∧ GoodT n rt dt ∧
  ∀ H' x, Go a l H H' → HObj a l C H' x n rt dt → Strm (N + 200) H' a l → Q (.ref x) H'
theorem scMade : FnScope ["_law_stream_here", "_law_house_here"] ["_law_stream_here", "_law_house_here"] (defScope sMade) := ⟨rfl, rfl, rfl, by decide +kernel, rfl, by decide +kernel, by decide +kernel⟩
/-- a good house is made: what __init__ asks of it, and what it leaves -/
theorem init_good {K : PySem.W.Frag} {Cp Cr Cd C a l : Addr} (hC : HC K C) {N n : Int} {rt dt : List (List V)} {H1 : Hp} {u v : V} {R : Hp → Prop} {E : XK} (S : Strm N H1 a l) (g : GoodT n rt dt) (hu : RowsA a l H1 u rt) (hv : RowsA a l H1 v dt) {x dx : Addr} (hx : H1 x = none) (hdx : H1 dx = none) (nx : dx ≠ x)
    (k : ∀ H', Same H1 H' → HObj a l C H' x n rt dt → (∃ p q, H1 p = none ∧ H1 q = none ∧ H' x = some (.ins C dx [("_places", .int n), ("_roads", .ref p), ("_doors", .ref q)])) → R H') :
    spHInit K Cp Cr Cd [.ref x, .int n, u, v] (upd (upd H1 dx (.own x)) x (.ins C dx [])) (fun v H3 => v = .non ∧ R H3) E := by
  have s1 : Same H1 (upd (upd H1 dx (.own x)) x (.ins C dx [])) := (same_new hdx).trans (same_new (by rw [upd_ne (Ne.symm nx)]; exact hx))
  have hxx : upd (upd H1 dx (.own x)) x (.ins C dx []) x = some (.ins C dx []) := upd_same
  generalize upd (upd H1 dx (.own x)) x (.ins C dx []) = H2 at s1 hxx ⊢
  obtain ⟨p, xs, rfl, np1, np2, hp, hxs⟩ := hu.go (.same s1)
  obtain ⟨q, ys, rfl, nq1, nq2, hq, hys⟩ := hv.go (.same s1)
  have e1 : xs.map (seqOf H2) = rt.map some := rows_seq hxs
  have e2 : ys.map (seqOf H2) = dt.map some := rows_seq hys
  have lx := pair_len hxs
  have ly := pair_len hys
  have l1 := g.lr
  have l2 := g.ld
  have nxa := S.ne_new hx
  refine ⟨x, C, dx, .int n, .ref p, .ref q, rfl, hxx, hC, .inl rfl, .inr ⟨n, rfl, g.n1, hp.shp, .inr ⟨p, xs, rfl, hp, rowa_items hxs g.wr, by omega, fun j w => ?_, fun _ => ⟨hq.shp, .inr ⟨q, ys, rfl, hq, rowa_items hys g.wd, by omega, fun j w => ?_, fun _ => ?_⟩⟩⟩⟩⟩
  · rw [e1] at w
    exact absurd w (wres_good g.r j)
  · rw [e2] at w
    exact absurd w (dres_good g.d j)
  · intro H' p' q' rs ds kp hx' hp' hq' npq h1 h2 t1 t2
    have s3 : Same H1 H' := fun b o hb => kp b o (ne_of_none hb hx) (s1 _ _ hb)
    have fp : H1 p' = none := none_back s1 hp'
    have fq : H1 q' = none := none_back s1 hq'
    have np := S.ne_new fp
    have nq := S.ne_new fq
    exact ⟨rfl, k H' s3 ⟨nxa.1, nxa.2, dx, p', q', rs, ds, hx', ⟨np.1, np.2, h1⟩, ⟨nq.1, nq.2, h2⟩, tupd_tt t1 e1, tupd_tt t2 e2⟩ ⟨p', q', fp, fq, hx'⟩⟩
section
variable {P : Program} {w : World} {K : PySem.W.Frag} {mg : Str → Option Value} {base : Heap} {C fI Cp Cr Cd : Addr} {fdI : FuncData}
theorem ok_made {f fL : Addr} {fd fdL : FuncData} (F : Fun K "_law_made" "_law_made" sMade f fd) (M : Mk K C fI) (hC : HC K C) (GI : FnOk P w K mg base (L2.CX P w) 6 fI fdI ["self", "places", "roads", "doors"] (spHInit K Cp Cr Cd)) (gH : mg "House" = some (.ref C)) (bI : Binds K fdI ["self", "places", "roads", "doors"] [])
    (FL : Fun K "_law_loose" "_law_loose" sLoose fL fdL) (GL : FnOk P w K mg base CX0 4 fL fdL ["_law_stream_here", "_law_thing"] spLo2) (gL : mg "_law_loose" = some (.ref fL)) (bL : Binds K fdL ["_law_stream_here", "_law_thing"] []) :
    FnOk P w K mg base CX0 8 f fd ["_law_stream_here", "_law_house_here"] (spMade C) := by
  refine F.ok scMade (fun vs H Q E h => ?_) (fun cdv A outer s H vs Q E hr h => ?_)
  · obtain ⟨a, l, t, N, n, rt, dt, rfl, _⟩ := h
    rfl
  · obtain ⟨a, l, t, N, n, rt, dt, rfl, S, n0, n1, ⟨p, q, xs, ys, ht, hp, hq, t1, t2⟩, g, k⟩ := h
    refine ⟨_, (pss_one (ps_ret (pe_make M GI (hr.mono (by decide)) (by rfl) gH bI .nil passL (pa_cons (pe_ix ix_tup (pv 1) pe_int (fun _ _ => rfl)) (pa_cons (pe_call GL (hr.mono (by decide)) (by rfl) gL FL.kp bL .nil pass0 (pa_cons (pv 0) (pa_cons (pe_ix ix_tup (pv 1) pe_int (fun _ _ => rfl)) pa_nil))) (pa_cons (pe_call GL (hr.mono (by decide)) (by rfl) gL FL.kp bL .nil pass0 (pa_cons (pv 0) (pa_cons (pe_ix ix_tup (pv 1) pe_int (fun _ _ => rfl)) pa_nil))) pa_nil))) (by decide)))), ?_⟩
    have l1 := g.lr
    have l2 := g.ld
    refine ⟨_, rfl, t, [.int n, .ref p, .ref q], 0, _, rfl, rfl, SqT.of ht, rfl, ?_⟩
    refine ⟨_, rfl, _, rfl, t, [.int n, .ref p, .ref q], 1, _, rfl, rfl, SqT.of ht, rfl, ?_⟩
    refine ⟨a, l, N, .ref p, rt, rfl, S, n0, by omega, hp.rows S t1, g.wr, g.l4, l1, fun H1 u g1 r1 S1 => ?_⟩
    refine ⟨_, rfl, _, rfl, t, [.int n, .ref p, .ref q], 2, _, rfl, rfl, SqT.of (g1.t _ _ ht), rfl, ?_⟩
    refine ⟨a, l, _, .ref q, dt, rfl, S1, by omega, by omega, (hq.go g1).rows S1 (t2.tl g1.t), g.wd, g.l3, l2, fun H2 v g2 r2 S2 => ?_⟩
    intro x dx hx hdx nx
    refine init_good hC S2 g (r1.go g2) r2 hx hdx nx fun H' s3 ho _ => ?_
    exact k H' x ((g1.trans g2).trans (.same s3)) ho ((S2.but s3).mono (by omega))
end
end K17

set_option Elab.async false
set_option linter.all false
set_option maxRecDepth 100000
set_option maxHeartbeats 4000000
namespace K17
open PySem PySem.Spec PyProof.Rows L2 Own
/-- a road between places, of length 0 up the ranks alone -/
def RG (n : Int) (rk : Int → Nat) (t : List V) : Prop := ∃ x y d r : Int, t = [.int x, .int y, .int d, .int r] ∧ 0 ≤ x ∧ x < n ∧ 0 ≤ y ∧ y < n ∧ x ≠ y ∧ 0 ≤ d ∧ 1 ≤ r ∧ (d = 0 → rk x < rk y)
def DG (n : Int) (S : Int → Bool) (t : List V) : Prop := ∃ x h : Int, t = [.str (if S x = true then "in" else "out"), .int x, .int h] ∧ 0 ≤ x ∧ x < n ∧ 0 ≤ h
theorem quads {n : Int} {rk : Int → Nat} : ∀ {rt : List (List V)}, (∀ t ∈ rt, RG n rk t) → ∃ es : List Ed, rt = es.map qv ∧ ∀ e ∈ es, EdOk n e ∧ (e.2.2.1 = 0 → rk e.1 < rk e.2.1)
  | [], _ => ⟨[], rfl, fun _ h => by cases h⟩
  | t :: r, h => by
    obtain ⟨x, y, d, m, rfl, x0, x1, y0, y1, ne, d0, m1, up⟩ := h t List.mem_cons_self
    obtain ⟨es, rfl, k⟩ := quads fun u hu => h u (List.mem_cons_of_mem _ hu)
    refine ⟨(x, y, d, m) :: es, rfl, fun e he => ?_⟩
    rcases List.mem_cons.mp he with rfl | he
    · exact ⟨⟨x0, x1, y0, y1, ne, d0, m1⟩, up⟩
    · exact k e he
theorem good_of {n : Int} {rt dt : List (List V)} (n1 : 1 ≤ n) (r : ∃ rk, ∀ t ∈ rt, RG n rk t) (d : ∃ S, ∀ t ∈ dt, DG n S t) (lr : rt.length ≤ 50) (ld : dt.length ≤ 50) : GoodT n rt dt := by
  refine ⟨n1, fun j hj b => ?_, fun j hj b => ?_, lr, ld⟩
  · obtain ⟨rk, r⟩ := r
    obtain ⟨es, rfl, k⟩ := quads r
    rw [List.length_map, List.length_map] at hj
    refine no_bad (fun e he => (k e he).1) rk (fun e he => (k e he).2) hj ?_
    rw [List.map_map] at b
    exact b
  · obtain ⟨S, d⟩ := d
    rw [List.length_map] at hj
    obtain ⟨s, hs, b⟩ := b
    rw [List.getElem?_map, List.getElem?_eq_getElem hj] at hs
    obtain rfl := Option.some.inj hs
    obtain ⟨x, h, e, x0, x1, h0⟩ := d _ (List.getElem_mem hj)
    rcases b with b | ⟨z, p, h', i, z', h2, e1, hi, e2, ne⟩
    · rw [e] at b
      have io : isIO (.str (if S x = true then "in" else "out")) = true := by
        cases S x
        · show isIO (.str "out") = true
          decide
        · show isIO (.str "in") = true
          decide
      have q : (isIO (.str (if S x = true then "in" else "out")) && (isP n (.int x) && isN (.int h))) = false := b
      rw [io, isP_of x0 x1, isN_of h0] at q
      cases q
    · rw [e] at e1
      have f1 := List.cons.inj (Option.some.inj e1)
      have f2 := List.cons.inj f1.2
      have hil : i < dt.length := by omega
      rw [List.getElem?_map, List.getElem?_eq_getElem hil] at e2
      obtain ⟨y, g, e3, _⟩ := d _ (List.getElem_mem hil)
      have e2' := Option.some.inj (Option.some.inj e2)
      rw [e3] at e2'
      have g1 := List.cons.inj e2'
      have g2 := List.cons.inj g1.2
      have xy : y = x := (V.int.inj g2.1).trans (V.int.inj f2.1).symm
      refine ne ?_
      rw [← V.str.inj f1.1, ← V.str.inj g1.1, xy]
/-- a drawn house: places, roads, doors of both kinds -/
structure DHou (n : Int) (rt dt : List (List V)) : Prop where
  n2 : 2 ≤ n
  n20 : n ≤ 30
  r : ∃ rk, ∀ t ∈ rt, RG n rk t
  d : ∃ S, ∀ t ∈ dt, DG n S t
  lr : 0 < rt.length ∧ rt.length ≤ 40
  ld : 0 < dt.length ∧ dt.length ≤ 40
theorem DHou.good {n : Int} {rt dt : List (List V)} (h : DHou n rt dt) : GoodT n rt dt := good_of (by have := h.n2; omega) h.r h.d (by have := h.lr; omega) (by have := h.ld; omega)
theorem tt_of {H : Hp} {P : List V → Prop} : ∀ {xs : List V}, AllT H P xs → ∃ ts, TT H xs ts ∧ ∀ t ∈ ts, P t
  | [], _ => ⟨[], rfl, fun _ h => by cases h⟩
  | v :: r, h => by
    obtain ⟨p, t, rfl, hp, ht⟩ := h v List.mem_cons_self
    obtain ⟨ts, k1, k2⟩ := tt_of (xs := r) fun u hu => h u (List.mem_cons_of_mem _ hu)
    refine ⟨t :: ts, TT.app (TT.one hp) k1, fun u hu => ?_⟩
    rcases List.mem_cons.mp hu with rfl | hu
    · exact ht
    · exact k2 u hu
theorem hou_of {H : Hp} {many full doors : Int} {pr pd : Addr} {xs ys : List V} (h : HouseAt H many full doors pr pd xs ys) (f1 : 1 ≤ full) (f40 : full ≤ 40) (d40 : doors ≤ 40) : ∃ rt dt, TT H xs rt ∧ TT H ys dt ∧ DHou many rt dt ∧ 2 ≤ dt.length := by
  obtain ⟨ps, rk, S, hps, hr, hd⟩ := h.roads
  obtain ⟨rt, t1, k1⟩ := tt_of hr
  obtain ⟨dt, t2, k2⟩ := tt_of hd
  have l1 := t1.len
  have l2 := t2.len
  have a1 := h.lr
  have a2 := h.ld
  have a3 := h.ld2
  have a4 := h.lr1 f1
  have a5 := h.m20
  refine ⟨rt, dt, t1, t2, ⟨h.m2, by omega, ⟨rk, fun t ht => ?_⟩, ⟨S, fun t ht => ?_⟩, by omega, by omega⟩, by omega⟩
  · obtain ⟨x, y, d, r, e, hx, hy, ne, d0, _, r1, _, up⟩ := k1 t ht
    exact ⟨x, y, d, r, e, (hps x hx).1, (hps x hx).2, (hps y hy).1, (hps y hy).2, ne, d0, r1, up⟩
  · obtain ⟨x, g, e, hx, g0, _⟩ := k2 t ht
    exact ⟨x, g, e, (hps x hx).1, (hps x hx).2, g0⟩
end K17

set_option Elab.async false
set_option linter.all false
set_option maxRecDepth 100000
set_option maxHeartbeats 2000000
/-! lambdas that captured names, as tracked objects; cells that outlive their frame -/
namespace Own
open PySem PySem.Spec PyProof.Rows L2 LamX
/-- at f: a lambda's function object with its captured cells -/
def ClO (f c : Addr) (q : Str) (ps : Arguments) (bd : Expr) (sc : Scope) (cl : List (Str × Addr)) : HO :=
  .ext fun h => ∃ pm ctv, h.get? f = some (PySem.W.kla_obj "<lambda>" q ps bd sc cl pm c ctv)
/-- at c: a cell that nobody writes any more -/
def CelO (c : Addr) (v : V) : HO := .ext fun h => ∃ u, RelV v u ∧ h.IsCell c (some u)
def ClAt (H : Hp) (f : Addr) (q : Str) (ps : Arguments) (bd : Expr) (sc : Scope) (cl : List (Str × Addr)) : Prop :=
  ∃ c, H f = some (ClO f c q ps bd sc cl) ∧ H c = some (CodeO c q)
theorem clO_ok {P : Program} {w : World} {H : Hp} {h : Heap} {f c : Addr} {q : Str} {ps : Arguments} {bd : Expr} {sc : Scope} {cl : List (Str × Addr)} {pm ctv : Value}
    (e : h.get? f = some (PySem.W.kla_obj "<lambda>" q ps bd sc cl pm c ctv)) : ObjOk P w H h f (ClO f c q ps bd sc cl) :=
  ⟨⟨pm, ctv, e⟩, ⟨_, e⟩, fun _ _ ⟨p, t, z⟩ k => ⟨p, t, k _ z⟩⟩
theorem celO_ok {P : Program} {w : World} {H : Hp} {h : Heap} {c : Addr} {v : V} {u : Value} (r : RelV v u) (e : h.IsCell c (some u)) : ObjOk P w H h c (CelO c v) := by
  obtain ⟨o, e1, e2⟩ := e
  exact ⟨⟨u, r, o, e1, e2⟩, ⟨o, e1⟩, fun _ _ ⟨u', r', o', z1, z2⟩ k => ⟨u', r', o', k _ z1, z2⟩⟩
theorem clO_ne {f c : Addr} {q : Str} {ps : Arguments} {bd : Expr} {sc : Scope} {cl : List (Str × Addr)} (t : Array Value) : ClO f c q ps bd sc cl ≠ .tbl t := fun z => by
  unfold ClO at z
  cases z
theorem celO_ne {c : Addr} {v : V} (t : Array Value) : CelO c v ≠ .tbl t := fun z => by
  unfold CelO at z
  cases z
theorem ClAt.ext {H H' : Hp} {f : Addr} {q : Str} {ps : Arguments} {bd : Expr} {sc : Scope} {cl : List (Str × Addr)} (l : ClAt H f q ps bd sc cl) (e : ExtN H H') : ClAt H' f q ps bd sc cl := by
  obtain ⟨c, h1, h2⟩ := l
  exact ⟨c, e _ _ h1 clO_ne, e _ _ h2 codeO_ne⟩
/-- the heap without some cells -/
def cutC (H : Hp) (cs : List Addr) : Hp := fun b => if b ∈ cs then none else H b
/-- a heap with the cells that another one has -/
def putC (G H : Hp) (cs : List Addr) : Hp := fun b => if b ∈ cs then G b else H b
theorem cutC_in {H : Hp} {cs : List Addr} {b : Addr} (h : b ∈ cs) : cutC H cs b = none := if_pos h
theorem cutC_no {H : Hp} {cs : List Addr} {b : Addr} (h : b ∉ cs) : cutC H cs b = H b := if_neg h
theorem putC_in {G H : Hp} {cs : List Addr} {b : Addr} (h : b ∈ cs) : putC G H cs b = G b := if_pos h
theorem putC_no {G H : Hp} {cs : List Addr} {b : Addr} (h : b ∉ cs) : putC G H cs b = H b := if_neg h
theorem cutC_none {H : Hp} {cs : List Addr} {b : Addr} (h : H b = none) : cutC H cs b = none := by
  unfold cutC
  split
  · rfl
  · exact h
/-- at c: a cell that nobody writes, with v in it -/
def CelF (H : Hp) (c : Addr) (v : V) : Prop := ∃ o : Obj, H c = some (.frz o (CelO c v))
theorem CelF.ext {H H' : Hp} {c : Addr} {v : V} (z : CelF H c v) (e : ExtN H H') : CelF H' c v := z.imp fun _ h => e _ _ h fun _ y => by cases y
def AreC (H : Hp) (cs : List Addr) : Prop := ∀ c ∈ cs, ∃ v, CelF H c v
theorem AreC.ne {H : Hp} {cs : List Addr} (a : AreC H cs) {b : Addr} {o : HO} (h : H b = some o) (n : ∀ x u, o ≠ .frz x u) : b ∉ cs := fun z => by
  obtain ⟨v, x, e⟩ := a b z
  rw [h] at e
  exact n x _ (Option.some.inj e)
theorem AreC.ext {H H' : Hp} {cs : List Addr} (a : AreC H cs) (e : ExtN H H') : AreC H' cs := fun c hc => (a c hc).imp fun v z => z.ext e
theorem ne_tup {xs : List V} (x : Obj) (u : HO) : HO.tup xs ≠ .frz x u := fun z => by cases z
theorem ne_tbl {ps : Array Value} (x : Obj) (u : HO) : HO.tbl ps ≠ .frz x u := fun z => by cases z
theorem ne_own {y : Addr} (x : Obj) (u : HO) : HO.own y ≠ .frz x u := fun z => by cases z
theorem cutC_hok {P : Program} {w : World} {H : Hp} {h : Heap} {cs : List Addr} (a : AreC H cs) (k : HOk P w H h) : HOk P w (cutC H cs) h := fun b o e => by
  by_cases hb : b ∈ cs
  · rw [cutC_in hb] at e
    cases e
  · rw [cutC_no hb] at e
    exact (k b o e).stay (fun _ _ _ z => z) (fun d z => by rw [cutC_no (a.ne z ne_own)]; exact z) fun d xs z => by rw [cutC_no (a.ne z ne_tup)]; exact z
theorem putC_un {fs : List Addr} {G H' : Hp} {h h' : Heap} {cs : List Addr} (a : AreC G cs) (u : Un fs [] (cutC G cs) H' h h') : Un fs [] G (putC G H' cs) h h' where
  keep := fun b o e n hb hx => u.keep b o e (cutC_none n) hb hx
  slot := fun b o e n hb hx => u.slot b o e (cutC_none n) hb hx
  free := fun b o e n hx => by
    have hb : b ∉ cs := fun z => by
      obtain ⟨v, x, y⟩ := a b z
      rw [n] at y
      cases y
    rw [putC_no hb]
    exact u.free b o e (by rw [cutC_no hb]; exact n) hx
  there := u.there
  tups := fun b xs e => by
    have hb := a.ne e ne_tup
    rw [putC_no hb]
    exact u.tups b xs (by rw [cutC_no hb]; exact e)
  frzs := fun b o x e => by
    by_cases hb : b ∈ cs
    · rw [putC_in hb]
      exact e
    · rw [putC_no hb]
      exact u.frzs b o x (by rw [cutC_no hb]; exact e)
  tbls := fun b ps e => by
    have hb := a.ne e ne_tbl
    obtain ⟨more, z⟩ := u.tbls b ps (by rw [cutC_no hb]; exact e)
    exact ⟨more, by rw [putC_no hb]; exact z⟩
theorem putC_ub {fs : List Addr} {G H' : Hp} {h B h' : Heap} {cs : List Addr} (a : AreC G cs) (u : UB fs (cutC G cs) H' h B h') : UB fs G (putC G H' cs) h B h' where
  keep := fun b o e n hb => u.keep b o e (cutC_none n) hb
  slot := u.slot
  free := fun b o e n => by
    have hb : b ∉ cs := fun z => by
      obtain ⟨v, x, y⟩ := a b z
      rw [n] at y
      cases y
    rw [putC_no hb]
    exact u.free b o e (by rw [cutC_no hb]; exact n)
  there := u.there
  tups := fun b xs e => by
    have hb := a.ne e ne_tup
    rw [putC_no hb]
    exact u.tups b xs (by rw [cutC_no hb]; exact e)
  frzs := fun b o x e => by
    by_cases hb : b ∈ cs
    · rw [putC_in hb]
      exact e
    · rw [putC_no hb]
      exact u.frzs b o x (by rw [cutC_no hb]; exact e)
  tbls := fun b ps e => by
    have hb := a.ne e ne_tbl
    obtain ⟨more, z⟩ := u.tbls b ps (by rw [cutC_no hb]; exact e)
    exact ⟨more, by rw [putC_no hb]; exact z⟩
/-- the cells are as they were, so they may be known again -/
theorem putC_hok {P : Program} {w : World} {G H' : Hp} {h h' : Heap} {cs : List Addr} (a : AreC G cs) (k : HOk P w G h) (k' : HOk P w H' h') (st : ∀ c ∈ cs, ∀ o, h.get? c = some o → h'.get? c = some o) (n : ∀ c ∈ cs, H' c = none) : HOk P w (putC G H' cs) h' := fun b o e => by
  by_cases hb : b ∈ cs
  · rw [putC_in hb] at e
    obtain ⟨v, x, z⟩ := a b hb
    rw [z] at e
    cases e
    obtain ⟨e0, ⟨u, r, ob, e1, e2⟩, _, _⟩ := k b _ z
    exact ⟨st b hb _ e0, celO_ok r ⟨ob, st b hb _ e1, e2⟩⟩
  · rw [putC_no hb] at e
    have off : ∀ {d x}, H' d = some x → d ∉ cs := fun {d x} z y => by
      rw [n d y] at z
      cases z
    exact (k' b o e).stay (fun _ _ _ z => z) (fun d z => by rw [putC_no (off z)]; exact z) fun d xs z => by rw [putC_no (off z)]; exact z
/-- the names of a lambda's text: captured ones and globals -/
structure ClS (scope : Scope) (cl : List (Str × Addr)) : Prop where
  kind : scope.kind = .function
  co : scope.isCoroutine = false
  gen : scope.isGenerator = false
  own : ∀ y ∈ scope.names, y.2 ≠ .local ∧ y.2 ≠ .cell
  free : ∀ y ∈ scope.names, y.2 = .free → ∃ c, cl.lookup y.1 = some c
  inj : ∀ x y c, cl.lookup x = some c → cl.lookup y = some c → x = y
abbrev clEnv (q : Str) (scope : Scope) (L f c : Addr) (cl : List (Str × Addr)) : Env := PySem.W.envX q scope L f (.ref c) cl
/-- the context of the text of a lambda that is called -/
def clCx (P : Program) (w : World) (K : PySem.W.Frag) (mg : Str → Option Value) (base : Heap) (N : List Str) (q : Str) (scope : Scope) (f c : Addr) (cl : List (Str × Addr)) (A : Around) (outer : List Env) (s : Shared) (H : Hp) (E : XK) : Cx where
  prog := P
  w := w
  K := K
  mg := mg
  base := base
  A := A.deeper (clEnv q scope s.heap.objs.size f c cl)
  N := N
  s_0 := s
  H_0 := H
  env := clEnv q scope s.heap.objs.size f c cl
  outer := outer
  stack := clEnv q scope s.heap.objs.size f c cl :: outer
  ex := []
  fn := fun _ => false
  calm := true
  pn := []
  xe := fun e s' => wpAny (model P w) (A.deeper (clEnv q scope s.heap.objs.size f c cl)) (leaving (clEnv q scope s.heap.objs.size f c cl) e) (fun _ s'' => L2.CX P w outer H s E e s'') (fun e' s'' => L2.CX P w outer H s E e' s'') s'
/-- the text of a lambda has the reading tb, wherever it is called -/
def ClCode (P : Program) (w : World) (K : PySem.W.Frag) (mg : Str → Option Value) (base : Heap) (k : Nat) (N : List Str) (q : Str) (bd : Expr) (sc : Scope) (cl : List (Str × Addr)) (tb : XK → TE) : Prop :=
  ∀ (f c : Addr) (A : Around) (outer : List Env) (s : Shared) (H : Hp) (E : XK), Room k (A.deeper (clEnv q sc s.heap.objs.size f c cl)) → PE (clCx P w K mg base N q sc f c cl A outer s H E) bd (tb E)
/-- the values of the captured names -/
def ValC (H : Hp) (cl : List (Str × Addr)) (N : List Str) (ws : List V) : Prop := ws.length = N.length ∧ ∀ (i : Nat) (x : Str) (v : V), N[i]? = some x → ws[i]? = some v → ∃ c, cl.lookup x = some c ∧ CelF H c v
abbrev csOf (cl : List (Str × Addr)) : List Addr := cl.map (·.2)
section
variable {P : Program} {w : World} {K : PySem.W.Frag} {mg : Str → Option Value} {base : Heap} {k : Nat} {N : List Str} {q : Str} {ps : Arguments} {bd : Expr} {sc : Scope} {cl : List (Str × Addr)} {tb : XK → TE}
theorem lookup_in {x : Str} {c : Addr} (h : cl.lookup x = some c) : c ∈ csOf cl := List.mem_map.mpr ⟨(x, c), PySem.mem_of_lookup h, rfl⟩
theorem cl_start {A : Around} {outer : List Env} {s : Shared} {H : Hp} {E : XK} {f c : Addr} {ws : List V} {h₁ : Heap} {tk : Nat} (S : ClS sc cl) (e0 : Env0 P w K mg base A outer s H) (hd : A.handled = none) (a : AreC H (csOf cl)) (vc : ValC H cl N ws)
    (hns : h₁.Ns s.heap.objs.size fun y => ([] : List (Str × Value)).reverse.lookup y) (kp : ∀ b o, s.heap.get? b = some o → h₁.get? b = some o) :
    Inv (clCx P w K mg base N q sc f c cl A outer s (cutC H (csOf cl)) E) [] (ws.map some) (cutC H (csOf cl)) { s with heap := h₁, toks := tk } := by
  have noA : ∀ b : Addr, b ∉ (clCx P w K mg base N q sc f c cl A outer s (cutC H (csOf cl)) E).ex := fun b z => absurd (show b ∈ ([] : List Addr) from z) (by simp)
  have cell : ∀ {d : Addr} {v : V}, CelF H d v → ∃ u, RelV v u ∧ h₁.IsCell d (some u) := fun {d v} ⟨x, e⟩ => by
    obtain ⟨_, ⟨u, r, o, e1, e2⟩, _, _⟩ := e0.hok d _ e
    exact ⟨u, r, o, kp _ _ e1, e2⟩
  have none_cut : ∀ {b}, H b = none → cutC H (csOf cl) b = none := fun {b} n => by
    by_cases z : b ∈ csOf cl
    · exact cutC_in z
    · rw [cutC_no z]
      exact n
  refine ⟨⟨e0.mod, S.kind, rfl, rfl, Nat.le_refl _, S.inj, fun y hy => ?_, fun y d z _ => ?_, fun _ => hd, Around.frames_deeper e0.frames, .inr ⟨rfl, rfl⟩, fun b z => absurd z (noA b), fun b o e => ⟨(e0.bs b o e).1, none_cut (e0.bs b o e).2⟩, e0.bsz, fun b _ _ => noA b,
      fun b z => absurd z (noA b), e0.funs, fun b hb => none_cut (e0.frf b hb)⟩,
    rfl, e0.bare, Un.kept kp, ⟨_, hns, fun i y v e1 e2 e3 => ?_⟩, fun y d e => ?_, none_cut (e0.hok.fresh (Nat.le_refl _)), fun y d e => cutC_in (lookup_in e), fun p hp => absurd (show p ∈ ([] : List (Addr × Obj)) ++ [] from hp) (by simp), (cutC_hok a e0.hok).kept kp, by rw [List.length_map]; exact vc.1⟩
  · have hy : sc.names.lookup y = some .cell ∨ sc.names.lookup y = some .free := hy
    rcases hy with hy | hy
    · exact absurd rfl (S.own _ (PySem.mem_of_lookup hy)).2
    · exact S.free _ (PySem.mem_of_lookup hy) rfl
  · have z : false = true := z
    cases z
  · have e3 : Vis sc y := e3
    rcases e3 with z | z | z
    · exact absurd rfl (S.own _ (PySem.mem_of_lookup z)).1
    · exact absurd rfl (S.own _ (PySem.mem_of_lookup z)).2
    · have e2' : ws[i]? = some v := by
        rw [List.getElem?_map] at e2
        cases e : ws[i]? with
        | none =>
          rw [e] at e2
          cases e2
        | some x =>
          rw [e] at e2
          cases e2
          rfl
      obtain ⟨d, hl, hc⟩ := vc.2 i y v e1 e2'
      obtain ⟨u, r, z2⟩ := cell hc
      exact ⟨u, r, .inr ⟨.inr z, d, hl, z2⟩⟩
  · obtain ⟨v, hv⟩ := a d (lookup_in e)
    obtain ⟨u, _, z⟩ := cell hv
    exact ⟨some u, z⟩
/-- a lambda with captured names is called -/
theorem run_clo (C : ClCode P w K mg base k N q bd sc cl tb) (S : ClS sc cl) (hbind : ∀ (pm cv ctv : Value), bindArgs (PySem.W.kla_fn "<lambda>" q ps bd sc cl pm cv ctv) ⟨[], []⟩ = pure [])
    {A : Around} {outer : List Env} {s : Shared} {H : Hp} {f : Addr} {ws : List V} {Q : VK} {E : XK} (la : ClAt H f q ps bd sc cl) (a : AreC H (csOf cl)) (vc : ValC H cl N ws) (e0 : Env0 P w K mg base A outer s H) (hr : Room (k + 1) A)
    (h : tb (fun cls d H' => (∀ c ∈ csOf cl, H' c = none) → E cls d (putC H H' (csOf cl))) (ws.map some) (cutC H (csOf cl)) fun v H' => (∀ c ∈ csOf cl, H' c = none) → Q v (putC H H' (csOf cl))) :
    codeAny (model P w) A (.call (.ref f) ⟨[], []⟩) (CR (L2.CX P w) outer P w H s Q E) s := by
  obtain ⟨c, hf, hc⟩ := la
  have lim : s.heap.NoLimit := e0.mod.nolimit.keeps fun b o e => (e0.bs b o e).1
  obtain ⟨⟨pm, ctv, ho⟩, _, _⟩ := e0.hok f _ hf
  obtain ⟨⟨oc, vs', t', e1, e2, e3⟩, _, _⟩ := e0.hok c _ hc
  have nfr : ∀ d ∈ csOf cl, d ∉ frs outer := fun d hd z => by
    obtain ⟨v, x, y⟩ := a d hd
    rw [e0.frf d z] at y
    cases y
  refine PySem.W.kla_callFunE hr.depth ho rfl S.co S.gen rfl ⟨c, oc, vs', t', rfl, e1, e2, e3⟩ ?_
  rw [hbind]
  refine wpAny_pure (wpAny_newFunctionEnv (fun y hy => (S.own y hy).2) (fun y hy => absurd hy (by simp)) (fun h₁ hns hsb => ⟨lim.fresh _ hsb, ?_⟩) S.kind)
  show codeAny _ _ (.expr bd (clEnv q sc s.heap.objs.size f c cl)) _ _
  have kp : ∀ b o, s.heap.get? b = some o → h₁.get? b = some o := fun b o e => hsb.extBut b o (Nat.ne_of_lt (Heap.lt_size e)) (Heap.get?_push_of_some _ e)
  have I : Inv (clCx P w K mg base N q sc f c cl A outer s (cutC H (csOf cl)) (fun cls d H' => (∀ c ∈ csOf cl, H' c = none) → E cls d (putC H H' (csOf cl)))) [] (ws.map some) (cutC H (csOf cl)) { s with heap := h₁, toks := s.toks + ([] : List (Str × Value)).length } := cl_start S e0 hr.hd a vc hns kp
  have up : ∀ e s'', L2.CX P w outer (cutC H (csOf cl)) s (fun cls d H' => (∀ c ∈ csOf cl, H' c = none) → E cls d (putC H H' (csOf cl))) e s'' → L2.CX P w outer H s E e s'' := fun e s'' z => by
    obtain ⟨x, B, H', cls, d, rfl, fl, hok, ub, na, os, ag, hE⟩ := z
    have kc : ∀ d ∈ csOf cl, ∀ o, s.heap.get? d = some o → B.get? d = some o := fun d hd o e => ub.keep d o e (cutC_in hd) (nfr d hd)
    have nc : ∀ d ∈ csOf cl, H' d = none := fun d hd => by
      obtain ⟨v, x, y⟩ := a d hd
      obtain ⟨z1, _⟩ := e0.hok d _ y
      exact ub.free d _ z1 (cutC_in hd)
    have nx : x ∉ csOf cl := fun hx => by
      obtain ⟨v, x', y⟩ := a x hx
      obtain ⟨z1, _⟩ := e0.hok x _ y
      have z2 := kc x hx _ z1
      rw [fl.2.1] at z2
      cases z2
    exact ⟨x, B, putC H H' (csOf cl), cls, d, rfl, fl, putC_hok a e0.hok hok kc nc, putC_ub a ub, by rw [putC_no nx]; exact na, os, ag, hE nc⟩
  refine PySem.W.kla_codeExpr (wpAny_mono ((C f c A outer s (cutC H (csOf cl)) _ (hr.deeper _)).run [] _ (ws.map some) (cutC H (csOf cl)) _ I h) (fun v s' hs => ?_) fun e s' hs => ?_)
  · obtain ⟨w', H', J, rv, z⟩ := hs
    have nc : ∀ d ∈ csOf cl, H' d = none := fun d hd => by
      obtain ⟨v, x, y⟩ := a d hd
      obtain ⟨z1, _⟩ := e0.hok d _ y
      exact J.base.free d _ z1 (cutC_in hd) (by exact List.not_mem_nil)
    exact ⟨w', putC H H' (csOf cl), J.os, J.bare, putC_un a J.base, putC_hok a e0.hok J.hok (fun d hd o e => J.base.keep d o e (cutC_in hd) (nfr d hd) (by exact List.not_mem_nil)) nc, rv, z nc⟩
  · exact wpAny_mono (show wpAny (model P w) (A.deeper (clEnv q sc s.heap.objs.size f c cl)) (leaving (clEnv q sc s.heap.objs.size f c cl) e) _ _ s' from hs) (fun _ s'' z => up _ s'' z) fun e' s'' z => up _ s'' z
end
end Own

set_option Elab.async false
set_option linter.all false
set_option maxRecDepth 100000
set_option maxHeartbeats 2000000
namespace Own
open PySem PySem.Spec PyProof.Rows L2 LamX
section
variable {X : Cx} {pins : List (Addr × Obj)} {σ : L2.St} {H : Hp} {s : Shared}
/-- a lambda that captures names is made; its object is known from now on -/
theorem clo_new {T : List (Addr × Str)} {c P : Addr} {ps : Arguments} {bd : Expr} {sc : Scope} {pos : Pos} {E Q : Value → Shared → Prop} (I : Inv X pins σ H s) (TB : TabB X.base X.mg c P)
    (hcode : X.env.code = .ref c) (hm : (P, X.env.qual ++ "<lambda>") ∈ T) (hu : ∀ p ∈ T, p.1 = P → p.2 = X.env.qual ++ "<lambda>") (hT : Tabs T H) (hdef : defaultsOf ps X.env = ([], []))
    (hfree : ∀ y ∈ sc.names, y.2 = .free → ∃ c, X.env.cells.lookup y.1 = some c)
    (k : ∀ (f : Addr) (H2 : Hp) (s' : Shared), Inv X pins σ H2 s' → ExtN H H2 → Tabs T H2 → H f = none → ClAt H2 f (X.env.qual ++ "<lambda>") ps bd sc (cloFrom X.env.cells sc.names []) → Q (.ref f) s') :
    wpAny (model X.prog X.w) X.A (eval (.Lambda ps bd sc pos) X.env) Q E s := by
  obtain ⟨tb, tP, tt, tc⟩ := hT _ hm
  have bP := TB.bm.keeps I.bk
  have gP : s.heap.get? P = some { cls := .none, data := .fields tb } := I.hok P _ tP
  have clo : closureFor sc X.env = pure (cloFrom X.env.cells sc.names []) := closure_ok (env := X.env) (scope := sc) hfree
  refine PySem.W.kla_eval hdef ?_
  rcases among : codeAmong pos tb.toList with _ | cv
  · refine PySem.W.kla_makeFunction clo I.ok.glob (I.mod.glob.keeps I.bk) hcode (TB.code.keeps I.bk) gP tt among TB.gP bP (fun c1 ctv h1 tk e1 ge lt rc ta => ?_)
    obtain ⟨c2, oc, vs, t, ec, goc, doc, vq⟩ := rc
    obtain rfl : c1 = c2 := Value.ref.inj ec
    have nC : H c1 = none := I.hok.fresh ge
    have le1 : s.heap.objs.size ≤ h1.objs.size := Nat.le_of_lt (Nat.lt_of_le_of_lt ge lt)
    have I1 := inv_table (t' := tk) (q := X.env.qual ++ "<lambda>") (more := #[rawInt pos.line, rawInt pos.col, .ref c1]) I tP e1 ta ge ⟨oc, vs, t, goc, doc, vq⟩
    have I2 := I1.laid (t' := tk) (o := ClO h1.objs.size c1 (X.env.qual ++ "<lambda>") ps bd sc (cloFrom X.env.cells sc.names [])) (h' := h1.push (PySem.W.kla_obj "<lambda>" (X.env.qual ++ "<lambda>") ps bd sc (cloFrom X.env.cells sc.names []) ((X.mg "__name__").getD .none) c1 ctv))
      (fun b o e => Heap.get?_push_of_some _ e) (Nat.le_refl _) (clO_ok (Heap.get?_push_size _ rfl))
    have hF : upd (upd H P (.tbl (tb ++ #[rawInt pos.line, rawInt pos.col, .ref c1]))) c1 (CodeO c1 (X.env.qual ++ "<lambda>")) h1.objs.size = none := I1.hok.fresh (Nat.le_refl _)
    have hf : H h1.objs.size = none := I.hok.fresh le1
    have e12 : ExtN H (upd (upd H P (.tbl (tb ++ #[rawInt pos.line, rawInt pos.col, .ref c1]))) c1 (CodeO c1 (X.env.qual ++ "<lambda>"))) := fun b o e n => by
      have nb : b ≠ P := fun z => by
        rw [z, tP] at e
        exact n tb (Option.some.inj e).symm
      rw [upd_ne (ne_of_none e nC), upd_ne nb]
      exact e
    have e2 : ∀ b o, upd (upd H P (.tbl (tb ++ #[rawInt pos.line, rawInt pos.col, .ref c1]))) c1 (CodeO c1 (X.env.qual ++ "<lambda>")) b = some o → upd (upd (upd H P (.tbl (tb ++ #[rawInt pos.line, rawInt pos.col, .ref c1]))) c1 (CodeO c1 (X.env.qual ++ "<lambda>"))) h1.objs.size (ClO h1.objs.size c1 (X.env.qual ++ "<lambda>") ps bd sc (cloFrom X.env.cells sc.names [])) b = some o := fun b o e => by
      rw [upd_ne (ne_of_none e hF)]
      exact e
    have eL : (tb ++ #[rawInt pos.line, rawInt pos.col, .ref c1]).toList = tb.toList ++ [rawInt pos.line, rawInt pos.col, .ref c1] := by simp
    have T1 : Tabs T (upd (upd H P (.tbl (tb ++ #[rawInt pos.line, rawInt pos.col, .ref c1]))) c1 (CodeO c1 (X.env.qual ++ "<lambda>"))) := fun p hp => by
      by_cases hb : p.1 = P
      · refine ⟨tb ++ #[rawInt pos.line, rawInt pos.col, .ref c1], ?_, ?_, fun p2 cv hcv => ?_⟩
        · rw [hb, upd_ne (ne_of_none tP nC)]
          exact upd_same
        · rw [eL]
          exact PySem.TriplesOk_snoc _ _ _ _ tt
        · rw [eL] at hcv
          rw [hu p hp hb]
          rcases among_app _ tt hcv with z | z
          · obtain ⟨c0, y1, y2⟩ := tc p2 cv z
            exact ⟨c0, y1, e12 _ _ y2 codeO_ne⟩
          · exact ⟨c1, z, upd_same⟩
      · obtain ⟨t2, a1, a2, a3⟩ := hT p hp
        refine ⟨t2, ?_, a2, fun p2 cv hcv => ?_⟩
        · rw [upd_ne (ne_of_none a1 nC), upd_ne hb]
          exact a1
        · obtain ⟨c0, y1, y2⟩ := a3 p2 cv hcv
          exact ⟨c0, y1, e12 _ _ y2 codeO_ne⟩
    exact k _ _ _ I2 (e12.trans (ExtN.of e2)) (T1.ext e2) hf ⟨c1, upd_same, e2 _ _ upd_same⟩
  · obtain ⟨c1, rfl, hco⟩ := tc pos cv among
    refine PySem.W.kla_makeFunctionHit clo I.ok.glob (I.mod.glob.keeps I.bk) hcode (TB.code.keeps I.bk) gP tt among bP (fun ctv h1 tk kp le1 => ?_)
    have hf : H h1.objs.size = none := I.hok.fresh le1
    have I2 := I.laid (t' := tk) (o := ClO h1.objs.size c1 (X.env.qual ++ "<lambda>") ps bd sc (cloFrom X.env.cells sc.names [])) (h' := h1.push (PySem.W.kla_obj "<lambda>" (X.env.qual ++ "<lambda>") ps bd sc (cloFrom X.env.cells sc.names []) ((X.mg "__name__").getD .none) c1 ctv))
      (fun b o e => Heap.get?_push_of_some _ (kp b o e)) le1 (clO_ok (Heap.get?_push_size _ rfl))
    have e2 : ∀ b o, H b = some o → upd H h1.objs.size (ClO h1.objs.size c1 (X.env.qual ++ "<lambda>") ps bd sc (cloFrom X.env.cells sc.names [])) b = some o := fun b o e => by
      rw [upd_ne (ne_of_none e hf)]
      exact e
    exact k _ _ _ I2 (ExtN.of e2) (hT.ext e2) hf ⟨c1, upd_same, e2 _ _ hco⟩
end
/-- the cells of a lambda's names are those of the maker -/
theorem clo_look {cells : List (Str × Addr)} {sc : Scope} (hfree : ∀ y ∈ sc.names, y.2 = .free → ∃ c, cells.lookup y.1 = some c) {y : Str} {c : Addr} (e : (cloFrom cells sc.names []).lookup y = some c) : cells.lookup y = some c ∧ (y, NameKind.free) ∈ sc.names := by
  rcases cloFrom_mem (PySem.mem_of_lookup e) with hm | ⟨h1, h2⟩
  · cases hm
  · obtain ⟨c1, hc⟩ := hfree _ h1 rfl
    have hc : cells.lookup y = some c1 := hc
    have e2 : c = c1 := by
      rw [h2, hc] <;> rfl
    rw [e2]
    exact ⟨hc, h1⟩
theorem clo_has {cells : List (Str × Addr)} {sc : Scope} (hfree : ∀ y ∈ sc.names, y.2 = .free → ∃ c, cells.lookup y.1 = some c) {y : Str} (hy : (y, NameKind.free) ∈ sc.names) : ∃ c, cells.lookup y = some c ∧ (cloFrom cells sc.names []).lookup y = some c := by
  obtain ⟨c, hc⟩ := mem_lookup (cloFrom_has (cells := cells) (acc := []) hy)
  exact ⟨c, (clo_look hfree hc).1, hc⟩
/-- the making of a lambda with captured names, as an expression -/
def tCloNew (T : List (Addr × Str)) (q : Str) (ps : Arguments) (bd : Expr) (sc : Scope) (cells : List (Str × Addr)) : TE := fun σ H Q =>
  Tabs T H ∧ ∀ (f : Addr) (H2 : Hp), ExtN H H2 → Tabs T H2 → H f = none → ClAt H2 f q ps bd sc (cloFrom cells sc.names []) → ClS sc (cloFrom cells sc.names []) → Q (.ref f) H2
theorem lamS_cls {X : Cx} {scope : Scope} (L : LamS X.env.scope scope) (ok : X.Ok) : ClS scope (cloFrom X.env.cells scope.names []) where
  kind := L.kind
  co := L.co
  gen := L.gen
  own := L.own
  free := fun y hy e => by
    obtain ⟨y1, y2⟩ := y
    cases e
    obtain ⟨c, _, h⟩ := clo_has (L.has ok) hy
    exact ⟨c, h⟩
  inj := fun x y c h1 h2 => ok.inj x y c (clo_look (L.has ok) h1).1 (clo_look (L.has ok) h2).1
section
variable {X : Cx} {pos : Pos}
theorem pe_clo {T : List (Addr × Str)} {c P : Addr} {ps : Arguments} {bd : Expr} {sc : Scope} (TB : TabB X.base X.mg c P)
    (hcode : X.env.code = .ref c) (hm : (P, X.env.qual ++ "<lambda>") ∈ T) (hu : ∀ p ∈ T, p.1 = P → p.2 = X.env.qual ++ "<lambda>") (L : LamS X.env.scope sc)
    (hdef : defaultsOf ps X.env = ([], []) := by rfl) :
    PE X (.Lambda ps bd sc pos) (tCloNew T (X.env.qual ++ "<lambda>") ps bd sc X.env.cells) := by
  refine ⟨fun pins s σ H Q I h => ?_⟩
  exact clo_new I TB hcode hm hu h.1 hdef (L.has I.ok) fun f H2 s' I2 e2 T2 nf la => ⟨.ref f, H2, I2, rfl, h.2 f H2 e2 T2 nf la (lamS_cls L I.ok)⟩
end
/-! ### a lambda that may be called -/
/-- f is a lambda; a call of it, at a heap that keeps H, has the reading tl -/
def Asks (P : Program) (w : World) (K : PySem.W.Frag) (mg : Str → Option Value) (base : Heap) (k : Nat) (H : Hp) (f : Addr) (tl : XK → Hp → VK → Prop) : Prop :=
  ∃ (q : Str) (ps : Arguments) (bd : Expr) (sc : Scope) (cl : List (Str × Addr)) (N : List Str) (ws : List V) (tb : XK → TE), ClAt H f q ps bd sc cl ∧ AreC H (csOf cl) ∧ ValC H cl N ws ∧ ClS sc cl ∧
    (∀ (pm cv ctv : Value), bindArgs (PySem.W.kla_fn "<lambda>" q ps bd sc cl pm cv ctv) ⟨[], []⟩ = pure []) ∧ ClCode P w K mg base k N q bd sc cl tb ∧
    ∀ H1 E Q, ExtN H H1 → tl E H1 Q → tb (fun cls d H' => (∀ c ∈ csOf cl, H' c = none) → E cls d (putC H1 H' (csOf cl))) (ws.map some) (cutC H1 (csOf cl)) fun v H' => (∀ c ∈ csOf cl, H' c = none) → Q v (putC H1 H' (csOf cl))
theorem ValC.ext {H H' : Hp} {cl : List (Str × Addr)} {N : List Str} {ws : List V} (v : ValC H cl N ws) (e : ExtN H H') : ValC H' cl N ws := ⟨v.1, fun i x u h1 h2 => by
  obtain ⟨c, z1, z2⟩ := v.2 i x u h1 h2
  exact ⟨c, z1, z2.ext e⟩⟩
section
variable {P : Program} {w : World} {K : PySem.W.Frag} {mg : Str → Option Value} {base : Heap} {k : Nat} {tl : XK → Hp → VK → Prop}
theorem Asks.ext {H H' : Hp} {f : Addr} (a : Asks P w K mg base k H f tl) (e : ExtN H H') : Asks P w K mg base k H' f tl := by
  obtain ⟨q, ps, bd, sc, cl, N, ws, tb, h1, h2, h3, h4, h5, h6, h7⟩ := a
  exact ⟨q, ps, bd, sc, cl, N, ws, tb, h1.ext e, h2.ext e, h3.ext e, h4, h5, h6, fun H1 E Q e1 => h7 H1 E Q (e.trans e1)⟩
theorem Asks.imp {H : Hp} {f : Addr} {tl' : XK → Hp → VK → Prop} (a : Asks P w K mg base k H f tl) (h : ∀ H1 E Q, ExtN H H1 → tl' E H1 Q → tl E H1 Q) : Asks P w K mg base k H f tl' := by
  obtain ⟨q, ps, bd, sc, cl, N, ws, tb, h1, h2, h3, h4, h5, h6, h7⟩ := a
  exact ⟨q, ps, bd, sc, cl, N, ws, tb, h1, h2, h3, h4, h5, h6, fun H1 E Q e1 t => h7 H1 E Q e1 (h H1 E Q e1 t)⟩
/-- x() in a def that got such a lambda -/
theorem pe_ask {CXg : CXT} {Eg : XK} {Ng : List Str} {qg : Str} {sg : Scope} {g : Addr} {cdg : Value} {A : Around} {outer : List Env} {s : Shared} {H : Hp} {i : Nat} {a : Str} {pn : List (Addr × Obj)} {xe : Value → Shared → Prop} {W : WX} {E : XK} {p1 p2 : Pos}
    (tk : Takes ((cxOf CXg P w K mg base Ng qg sg g cdg A outer s H Eg).tr pn xe) W) (hW : ∀ cls d σ' H', E cls d H' → W cls d σ' H') (hr : Room (k + 1) (A.deeper (envOfC qg sg s.heap.objs.size g cdg)))
    (hN : Ng[i]? = some a) (hv : Vis sg a) (hd : (a == ("__debug__" : Str)) = false := by decide) (hcd : (a == ("__classdict__" : Str)) = false := by decide) :
    PE ((cxOf CXg P w K mg base Ng qg sg g cdg A outer s H Eg).tr pn xe) (.Call (.Name a p1) [] [] p2)
      (fun σZ HZ Q => ∃ f tl, σZ[i]? = some (some (.ref f)) ∧ Asks P w K mg base k HZ f tl ∧ tl E HZ Q) := by
  refine ⟨fun pinsZ sZ σZ HZ Q IZ h => ?_⟩
  obtain ⟨f, tl, hs, ⟨q, ps, bd, sc, cl, N, ws, tb, h1, h2, h3, h4, h5, h6, h7⟩, ht⟩ := h
  refine wpAny_Call_Name_kw (thn ((pe_var (pos := p1) (i := i) hN hv hd hcd).run pinsZ sZ σZ HZ (fun v H1 => v = .ref f ∧ H1 = HZ) IZ ⟨.ref f, hs, rfl, rfl⟩) fun u s1 ⟨v, H1, I1, r1, q1⟩ => ?_)
  obtain ⟨rfl, rfl⟩ := q1
  obtain rfl : u = Value.ref f := r1
  obtain ⟨c, hf, hc⟩ := h1
  obtain ⟨⟨pm, ctv, of1⟩, _, _⟩ := I1.hok f _ hf
  refine PySem.W.callWith_F0 ⟨_, _, _, _, of1⟩ ?_
  have rc : codeAny (model P w) (A.deeper (envOfC qg sg s.heap.objs.size g cdg)) (.call (.ref f) ⟨[], []⟩) (CR (L2.CX P w) (envOfC qg sg s.heap.objs.size g cdg :: outer) P w H1 s1 Q E) s1 :=
    run_clo h6 h4 h5 ⟨c, hf, hc⟩ h2 h3 I1.env0 hr (h7 _ _ _ (ExtN.refl _) ht)
  have hx : Passes (L2.CX P w) ((cxOf CXg P w K mg base Ng qg sg g cdg A outer s H Eg).tr pn xe) E := passes_call tk hW
  refine wpAny_call (codeAny_mono rc fun r s' hq => ?_)
  cases r with
  | error e => exact hx pinsZ σZ _ s1 e s' I1 hq
  | ok fl =>
    cases fl with
    | ret u => exact I1.after hq
    | next => exact False.elim hq
    | brk => exact False.elim hq
    | cont => exact False.elim hq
/-- a lambda made here, once the cells that it captured are known -/
theorem asks_of {H2 : Hp} {f : Addr} {q : Str} {ps : Arguments} {bd : Expr} {sc : Scope} {cells : List (Str × Addr)} {N : List Str} {ws : List V} {tb : XK → TE} (la : ClAt H2 f q ps bd sc (cloFrom cells sc.names [])) (S : ClS sc (cloFrom cells sc.names []))
    (hl : ws.length = N.length) (hN : ∀ y ∈ sc.names, y.2 = .free → ∃ i : Nat, N[i]? = some y.1) (hM : ∀ (i : Nat) (x : Str), N[i]? = some x → (x, NameKind.free) ∈ sc.names) (hc : ∀ (i : Nat) (x : Str) (v : V), N[i]? = some x → ws[i]? = some v → ∃ c, cells.lookup x = some c ∧ CelF H2 c v)
    (hbind : ∀ (pm cv ctv : Value), bindArgs (PySem.W.kla_fn "<lambda>" q ps bd sc (cloFrom cells sc.names []) pm cv ctv) ⟨[], []⟩ = pure []) (C : ClCode P w K mg base k N q bd sc (cloFrom cells sc.names []) tb)
    (h : ∀ H1 E Q, ExtN H2 H1 → AreC H1 (csOf (cloFrom cells sc.names [])) → tl E H1 Q → tb (fun cls d H' => (∀ c ∈ csOf (cloFrom cells sc.names []), H' c = none) → E cls d (putC H1 H' (csOf (cloFrom cells sc.names [])))) (ws.map some) (cutC H1 (csOf (cloFrom cells sc.names []))) fun v H' => (∀ c ∈ csOf (cloFrom cells sc.names []), H' c = none) → Q v (putC H1 H' (csOf (cloFrom cells sc.names [])))) :
    Asks P w K mg base k H2 f tl := by
  have val : ∀ (i : Nat) (x : Str), N[i]? = some x → ∃ v c, ws[i]? = some v ∧ cells.lookup x = some c ∧ CelF H2 c v := fun i x e => by
    have hi : i < ws.length := by rw [hl]; exact (List.getElem?_eq_some_iff.mp e).1
    obtain ⟨c, h1, h2⟩ := hc i x ws[i] e (List.getElem?_eq_getElem hi)
    exact ⟨ws[i], c, List.getElem?_eq_getElem hi, h1, h2⟩
  have hfree : ∀ y ∈ sc.names, y.2 = .free → ∃ c, cells.lookup y.1 = some c := fun y hy e => by
    obtain ⟨i, hi⟩ := hN y hy e
    obtain ⟨v, c, _, h1, _⟩ := val i _ hi
    exact ⟨c, h1⟩
  have ar : AreC H2 (csOf (cloFrom cells sc.names [])) := fun c hm => by
    obtain ⟨⟨y, c'⟩, hp, rfl⟩ := List.mem_map.mp hm
    rcases cloFrom_mem hp with z | ⟨h1, h2⟩
    · cases z
    · obtain ⟨i, hi⟩ := hN _ h1 rfl
      obtain ⟨v, c, _, g1, g2⟩ := val i _ hi
      have g1 : cells.lookup y = some c := g1
      have e : c' = c := by
        rw [h2, g1] <;> rfl
      exact ⟨v, by show CelF H2 c' v; rw [e]; exact g2⟩
  refine ⟨q, ps, bd, sc, cloFrom cells sc.names [], N, ws, tb, la, ar, ⟨hl, fun i x v h1 h2 => ?_⟩, S, hbind, C, fun H1 E Q e t => h H1 E Q e (ar.ext e) t⟩
  obtain ⟨c, g1, g2⟩ := clo_has hfree (hM i x h1)
  obtain ⟨c2, g3, g4⟩ := hc i x v h1 h2
  rw [g1] at g3
  cases g3
  exact ⟨c, g2, g4⟩
end
end Own

set_option Elab.async false
set_option linter.all false
set_option maxRecDepth 100000
set_option maxHeartbeats 2000000
namespace Own
open PySem PySem.Spec PyProof.Rows L2 LamX
/-! ### a def whose cells are known behind its end -/
structure PSsC (X : Cx) (b : List Stmt) (t : (V → L2.St → Hp → Prop) → L2.St → Hp → Prop) : Prop where
  run : ∀ (pins : List (Addr × Obj)) (s : Shared) (σ : L2.St) (H : Hp) (R : V → L2.St → Hp → Prop), Inv X pins σ H s → t R σ H → wpAny (model X.prog X.w) X.A (execs b X.env) (fun fl s' => ∃ u v σ' H', fl = .ret u ∧ Inv X pins σ' H' s' ∧ RelV v u ∧ R v σ' H') X.xe s
section
variable {X : Cx} {st : Stmt} {rest : List Stmt} {t : TS} {u : (V → L2.St → Hp → Prop) → L2.St → Hp → Prop} {e : Expr} {te : TE} {pos : Pos}
theorem pssC_ret (he : PE X e te) : PSsC X [.Return (some e) pos] (fun R σ H => te σ H fun v H' => R v σ H') := by
  refine ⟨fun pins s σ H R I h => ?_⟩
  refine wpAny_execs_cons (wpAny_Return_some (thn (he.run pins s σ H _ I h) fun v s1 ⟨x, H1, I1, r1, q1⟩ => ?_))
  exact ⟨v, x, σ, H1, rfl, I1, r1, q1⟩
theorem pssC_cons (h1 : PS X st t) (h2 : PSsC X rest u) : PSsC X (st :: rest) (fun R σ H => t { nx := u R, rt := fun _ _ => False } σ H) := by
  refine ⟨fun pins s σ H R I h => ?_⟩
  refine wpAny_execs_cons (thn (h1.run pins s σ H { nx := u R, rt := fun _ _ => False } I h) fun f s1 q => ?_)
  cases f with
  | next =>
    obtain ⟨σ', H', I', q⟩ := q
    exact h2.run pins s1 σ' H' R I' q
  | ret v =>
    obtain ⟨_, _, _, _, _, q⟩ := q
    exact q.elim
  | brk =>
    obtain ⟨_, _, _, q⟩ := q
    exact q.elim
  | cont =>
    obtain ⟨_, _, _, q⟩ := q
    exact q.elim
theorem PSsC.nox {b : List Stmt} (h : PSsC X.nox b u) : PSsC X b u := ⟨fun pins s σ H R I hw =>
  wpAny_mono (h.run pins s σ H R (I.wish _) hw) (fun _ _ ⟨x, v, σ', H', e, J, r⟩ => ⟨x, v, σ', H', e, J.unwish, r⟩) fun _ _ z => False.elim z⟩
end
/-- behind the end: all stays, and each cell of the def is known -/
structure Kno (cells : List (Str × Addr)) (sc : Scope) (N : List Str) (σ : L2.St) (H H2 : Hp) : Prop where
  same : ∀ b o, H b = some o → H2 b = some o
  cell : ∀ (i : Nat) (x : Str) (v : V), N[i]? = some x → sc.names.lookup x = some .cell → σ[i]? = some (some v) → ∃ c, cells.lookup x = some c ∧ CelF H2 c v
def IsK (cells : List (Str × Addr)) (sc : Scope) (N : List Str) (σ : L2.St) (h : Heap) (b : Addr) (v : V) (o : Obj) : Prop := ∃ (i : Nat) (x : Str), N[i]? = some x ∧ sc.names.lookup x = some .cell ∧ σ[i]? = some (some v) ∧ cells.lookup x = some b ∧ h.get? b = some o
open Classical in
noncomputable def knoH (cells : List (Str × Addr)) (sc : Scope) (N : List Str) (σ : L2.St) (h : Heap) (H : Hp) : Hp := fun b =>
  if z : ∃ p : V × Obj, IsK cells sc N σ h b p.1 p.2 then some (.frz (choose z).2 (CelO b (choose z).1)) else H b
theorem knoH_in {cells : List (Str × Addr)} {sc : Scope} {N : List Str} {σ : L2.St} {h : Heap} {H : Hp} {b : Addr} {v : V} {o : Obj} (z : IsK cells sc N σ h b v o) : ∃ v' o', IsK cells sc N σ h b v' o' ∧ knoH cells sc N σ h H b = some (.frz o' (CelO b v')) := by
  have z2 : ∃ p : V × Obj, IsK cells sc N σ h b p.1 p.2 := ⟨(v, o), z⟩
  exact ⟨_, _, Classical.choose_spec z2, dif_pos z2⟩
theorem knoH_no {cells : List (Str × Addr)} {sc : Scope} {N : List Str} {σ : L2.St} {h : Heap} {H : Hp} {b : Addr} (z : ∀ v o, ¬ IsK cells sc N σ h b v o) : knoH cells sc N σ h H b = H b := dif_neg fun ⟨p, q⟩ => z _ _ q
theorem fnokC {P : Program} {w : World} {K : PySem.W.Frag} {mg : Str → Option Value} {base : Heap} {k : Nat} {f : Addr} {name qual : Str} {params : Arguments} {body : List Stmt} {scope : Scope} {dV kV doc pm cdv ct oc : Value} {an od : Option Addr}
    {osl : Array (Option Value)} {N ps : List Str} {sp : Sp} (lk : K.lookup f = some ⟨oc, od, .func (PySem.W.fnOf name qual params body scope dV kV doc pm an cdv ct), osl⟩) (hcd : PySem.W.codeIn K cdv qual = true) (S : FnScope N ps scope) (len : ∀ vs H Q E, sp vs H Q E → vs.length = ps.length)
    (hbody : ∀ (A : Around) (outer : List Env) (s : Shared) (H : Hp) (vs : List V) (Q : VK) (E : XK), Room k (A.deeper (envOfC qual scope s.heap.objs.size f cdv)) → sp vs H Q E →
      ∃ t, PSsC (cxOf CX0 P w K mg base N qual scope f cdv A outer s H E).nox body t ∧ t (fun v σ' H' => ∀ H2, Kno (cellsFrom (s.heap.objs.size + 1) scope.names []) scope N σ' H' H2 → Q v H2) (L2.start N vs) H) :
    FnOk P w K mg base CX0 (k + 1) f (PySem.W.fnOf name qual params body scope dV kV doc pm an cdv ct) ps sp := by
  refine ⟨len, fun A outer s H args us vs Q E hr e0 hb r hsp => ?_⟩
  have hl := len _ _ _ _ hsp
  have KX : K.In s.heap := e0.mod.kin.keeps fun b o e => (e0.bs b o e).1
  have lim : s.heap.NoLimit := e0.mod.nolimit.keeps fun b o e => (e0.bs b o e).1
  have hkind : ∀ y ∈ ps.zip us, scope.names.lookup y.1 = some .local ∨ (scope.names.lookup y.1 = some .cell ∧ ((cellsFrom (s.heap.objs.size + 1) scope.names []).lookup y.1).isSome = true) := fun ⟨n, v⟩ hy => by
    rcases S.par n (List.of_mem_zip hy).1 with q | q
    · exact .inl q
    · exact .inr ⟨q, PySem.W.cellsFrom_some _ _ _ (.inl q)⟩
  refine codeAny_call_function hr.depth (KX _ _ lk) rfl S.co S.gen rfl (PySem.W.codeRec_of KX hcd) (hb _ _ _ _ ?_)
  refine wpAny_newFunctionEnv_cells S.kind hkind fun env he s1 x => ?_
  subst he
  refine ⟨lim.keeps x.toInCall.keep, codeAny_func ?_⟩
  obtain ⟨t, ht, hq⟩ := hbody A outer s H vs Q E (hr.deeper _) hsp
  have I : Inv (cxOf CX0 P w K mg base N qual scope f cdv A outer s H E) [] (L2.start N vs) H s1 := inv_start S hr.hd e0 hl r x
  refine wpAny_mono (ht.nox.run [] s1 (L2.start N vs) H _ I hq) (fun fl s' hs => ?_) fun e s' hs => hs
  obtain ⟨u, v, σ', H', rfl, J, rv, q⟩ := hs
  have isk : ∀ {b v o}, IsK (cellsFrom (s.heap.objs.size + 1) scope.names []) scope N σ' s'.heap b v o → (∃ x, (cellsFrom (s.heap.objs.size + 1) scope.names []).lookup x = some b) ∧ ∃ w, RelV v w ∧ s'.heap.IsCell b (some w) := fun {b v o} ⟨i, x, h1, h2, h3, h4, h5⟩ => by
    refine ⟨⟨x, h4⟩, ?_⟩
    obtain ⟨m, _, hl'⟩ := J.loc
    obtain ⟨w', r', q'⟩ := hl' i x v h1 h3 (.inr (.inl h2))
    rcases q' with ⟨k', _⟩ | ⟨_, c, e', z⟩
    · have k' : scope.names.lookup x = some .local := k'
      rw [h2] at k'
      cases k'
    · have e' : (cellsFrom (s.heap.objs.size + 1) scope.names []).lookup x = some c := e'
      rw [h4] at e'
      cases e'
      exact ⟨w', r', z⟩
  have nH : ∀ {b x}, (cellsFrom (s.heap.objs.size + 1) scope.names []).lookup x = some b → H' b = none := fun {b x} e => J.freeC x b e
  have nS : ∀ {b x}, (cellsFrom (s.heap.objs.size + 1) scope.names []).lookup x = some b → s.heap.get? b = none := fun {b x} e => by
    have z := J.ok.cab x b rfl e
    cases g : s.heap.get? b with
    | none => rfl
    | some o => exact absurd (Nat.lt_of_lt_of_le (Heap.lt_size g) z) (Nat.lt_irrefl _)
  have off : ∀ {b : Addr} {o : HO}, H' b = some o → knoH (cellsFrom (s.heap.objs.size + 1) scope.names []) scope N σ' s'.heap H' b = some o := fun {b o} e => by
    rw [knoH_no fun v ob z => by
      obtain ⟨⟨x, hx⟩, _⟩ := isk z
      rw [nH hx] at e
      cases e]
    exact e
  refine ⟨v, knoH (cellsFrom (s.heap.objs.size + 1) scope.names []) scope N σ' s'.heap H', J.os, J.bare, ?_, fun b o e => ?_, rv, q _ ⟨fun b o e => off e, fun i x v h1 h2 h3 => ?_⟩⟩
  · have un : Un (frs outer) [] H H' s.heap s'.heap := J.base
    refine ⟨un.keep, un.slot, fun b o e n hx => ?_, un.there, fun b xs e => off (un.tups b xs e), fun b o z e => off (un.frzs b o z e), fun b p e => ?_⟩
    · rw [knoH_no fun v ob z => by
        obtain ⟨⟨x, hx⟩, _⟩ := isk z
        rw [nS hx] at e
        cases e]
      exact un.free b o e n hx
    · obtain ⟨more, z⟩ := un.tbls b p e
      exact ⟨more, off z⟩
  · by_cases z : ∃ p : V × Obj, IsK (cellsFrom (s.heap.objs.size + 1) scope.names []) scope N σ' s'.heap b p.1 p.2
    · obtain ⟨⟨v1, o1⟩, z⟩ := z
      obtain ⟨v', o', z', e'⟩ := knoH_in (H := H') z
      rw [e'] at e
      cases e
      obtain ⟨_, w', r', y'⟩ := isk z'
      obtain ⟨_, _, _, _, _, _, g⟩ := z'
      exact ⟨g, celO_ok r' y'⟩
    · rw [knoH_no fun v o y => z ⟨(v, o), y⟩] at e
      exact (J.hok b o e).stay (fun _ _ _ y => y) (fun d y => off y) fun d xs y => off y
  · obtain ⟨c, hc⟩ := J.ok.has x (.inl h2)
    have hc : (cellsFrom (s.heap.objs.size + 1) scope.names []).lookup x = some c := hc
    obtain ⟨vv, oc', g1, g2⟩ := J.cell x c hc
    obtain ⟨v', o', ⟨i', x', a1, a2, a3, a4, a5⟩, e'⟩ := knoH_in (H := H') (⟨i, x, h1, h2, h3, hc, g1⟩ : IsK (cellsFrom (s.heap.objs.size + 1) scope.names []) scope N σ' s'.heap c v oc')
    have ex : x' = x := J.ok.inj x' x c a4 hc
    subst ex
    have ei : i' = i := nodup_ix S.nd a1 h1
    subst ei
    rw [h3] at a3
    cases a3
    exact ⟨c, hc, o', e'⟩
/-! ### a call while a cell of this very frame is known -/
def tCallT (cells : List (Str × Addr)) (y : Str) (i : Nat) (sp : Sp) (ta : TA) : TE := fun σ H Q => ta σ H fun vs H1 => ∃ v, σ[i]? = some (some v) ∧
  ∀ (c : Addr) (o : Obj), cells.lookup y = some c → H1 c = none → sp vs (upd H1 c (.frz o (CelO c v))) (fun u H' => Q u (cutC H' [c])) (fun _ _ _ => False)
section
variable {X : Cx} {k i : Nat} {f : Addr} {fd : FuncData} {ps : List Str} {sp : Sp} {x y : Str} {p pos : Pos} {e : Expr} {es : List Expr} {ta : TA}
theorem pe_callT (F : FnOk X.prog X.w X.K X.mg X.base CX0 k f fd ps sp) (hr : Room k X.A) (hg : Gl X x) (hm : X.mg x = some (.ref f)) (hk : PySem.W.keepIn X.K (.ref f) = true) (hb : L2.Binds X.K fd ps [])
    {cells : List (Str × Addr)} (hcl : X.env.cells = cells) (hN : X.N[i]? = some y) (hy : X.env.scope.names.lookup y = some .cell) (hfn : X.fn y = true)
    (ha : PA X (e :: es) ta) (hdb : (x == ("__debug__" : Str)) = false := by decide) (he : starEach (e :: es) X.env = (false, eval e X.env) :: starEach es X.env := by rfl) (hpl : (backTo pos (starEach es X.env)).any (·.1) = false := by rfl) :
    PE X (.Call (.Name x p) (e :: es) [] pos) (tCallT cells y i sp ta) := by
  subst hcl
  refine ⟨fun pins s σ H Q I h => ?_⟩
  refine wpAny_Call_Name_kw (ld_glob I hg hm ?_ hdb)
  refine PySem.W.callWith_K (h₀ := X.base) I.ok.mod.kin hk (thn (ha.run pos pins s σ H _ I h) fun us s1 ⟨vs, H1, I1, r, v, hv, q⟩ => ⟨I1.kIn, ?_⟩) he hpl
  obtain ⟨c, hc⟩ := I1.ok.has y (.inl hy)
  obtain ⟨m, hns, hl⟩ := I1.loc
  obtain ⟨w', r', q'⟩ := hl i y v hN hv (.inr (.inl hy))
  have hcell : s1.heap.IsCell c (some w') := by
    rcases q' with ⟨k', _⟩ | ⟨_, c2, e', z⟩
    · have k' : X.env.scope.names.lookup y = some .local := k'
      rw [hy] at k'
      cases k'
    · rw [hc] at e'
      cases e'
      exact z
  obtain ⟨o, ho, hd⟩ := hcell
  have n1 : H1 c = none := I1.freeC y c hc
  have big : X.s_0.heap.objs.size ≤ c := I1.ok.cab y c hfn hc
  have q := q c o hc n1
  have off : ∀ {b : Addr} {u : HO}, H1 b = some u → upd H1 c (.frz o (CelO c v)) b = some u := fun {b u} z => by
    rw [upd_ne (ne_of_none z n1)]
    exact z
  have nfs : ∀ b ∈ frs X.stack, b ≠ c := fun b hb z => by
    rcases List.mem_cons.mp (I1.stkSub b hb) with e1 | e1
    · exact I1.cne y c hc (by rw [← z]; exact e1)
    · obtain ⟨_, ob, hob, _⟩ := I1.ok.funs.mem e1
      rw [z] at hob
      exact absurd (Nat.lt_of_lt_of_le (Heap.lt_size hob) big) (Nat.lt_irrefl _)
  have hokT : HOk X.prog X.w (upd H1 c (.frz o (CelO c v))) s1.heap := fun b u z => by
    by_cases hb : b = c
    · rw [hb, upd_same] at z
      cases z
      rw [hb]
      exact ⟨ho, celO_ok r' ⟨o, ho, hd⟩⟩
    · rw [upd_ne hb] at z
      exact (I1.hok b u z).stay (fun _ _ _ a => a) (fun _ a => off a) fun _ _ a => off a
  have E0' : Env0 X.prog X.w X.K X.mg X.base X.A X.stack s1 (upd H1 c (.frz o (CelO c v))) := by
    have E1 := I1.env0
    refine ⟨E1.frames, E1.mod, fun b ob z => ⟨(E1.bs b ob z).1, ?_⟩, E1.bsz, E1.funs, fun b hb => ?_, hokT, E1.bare⟩
    · have nb : b ≠ c := fun y => by
        rw [y] at z
        exact absurd (Nat.lt_of_lt_of_le (Heap.lt_size z) (Nat.le_trans I1.ok.bsz big)) (Nat.lt_irrefl _)
      rw [upd_ne nb]
      exact (E1.bs b ob z).2
    · rw [upd_ne (nfs b hb)]
      exact E1.frf b hb
  have hlen : us.length = ps.length := by rw [← r.length]; exact F.len _ _ _ _ q
  refine wpAny_call (codeAny_mono (F.run X.A X.stack s1 _ ⟨us, []⟩ us vs _ _ hr E0' (by have z := hb s1 us I1.kIn (by rw [List.append_nil]; exact hlen); rw [List.append_nil] at z; exact z) r q) fun r s' hq => ?_)
  cases r with
  | error e => exact (show False from hq).elim
  | ok fl =>
    cases fl with
    | next => exact False.elim hq
    | brk => exact False.elim hq
    | cont => exact False.elim hq
    | ret u =>
      obtain ⟨v', H', os, bare, un, hok', rv, q2⟩ := hq
      have fz : H' c = some (.frz o (CelO c v)) := un.frzs c o _ upd_same
      have ar : AreC H' [c] := fun d hd => by
        rw [List.mem_singleton.mp hd]
        exact ⟨v, o, fz⟩
      refine I1.after ⟨v', cutC H' [c], os, bare, ⟨fun b ob z n hb hx => ?_, fun b ob z n hb hx => ?_, fun b ob z n hx => ?_, un.there, fun b xs z => ?_, fun b ob u z => ?_, fun b qs z => ?_⟩, cutC_hok ar hok', rv, q2⟩
      · by_cases hbc : b = c
        · rw [hbc, ho] at z
          cases z
          rw [hbc]
          exact (hok' c _ fz).1
        · exact un.keep b ob z (by rw [upd_ne hbc]; exact n) hb hx
      · exact un.slot b ob z (by rw [upd_ne (nfs b hb)]; exact n) hb hx
      · by_cases hbc : b = c
        · rw [hbc]
          exact cutC_in List.mem_cons_self
        · exact cutC_none (un.free b ob z (by rw [upd_ne hbc]; exact n) hx)
      · have nb : b ∉ [c] := fun y => ne_of_none z n1 (List.mem_singleton.mp y)
        rw [cutC_no nb]
        exact un.tups b xs (off z)
      · have nb : b ∉ [c] := fun y => ne_of_none z n1 (List.mem_singleton.mp y)
        rw [cutC_no nb]
        exact un.frzs b ob u (off z)
      · have nb : b ∉ [c] := fun y => ne_of_none z n1 (List.mem_singleton.mp y)
        obtain ⟨more, y⟩ := un.tbls b qs (off z)
        exact ⟨more, by rw [cutC_no nb]; exact y⟩
end
end Own

set_option Elab.async false
set_option linter.all false
set_option maxRecDepth 100000
set_option maxHeartbeats 4000000
namespace K17
open PySem PySem.Spec PyProof.Rows L2 Own
/-! what is refused, at a heap of which some cells are not told -/
section
variable {K : PySem.W.Frag} {C : Addr} {H : Hp} {cs : List Addr}
theorem cut_o (a : AreC H cs) {b : Addr} {o : HO} (h : H b = some o) (n : ∀ x u, o ≠ .frz x u) : cutC H cs b = some o := by
  rw [cutC_no (a.ne h n)]
  exact h
theorem cut_back {b : Addr} {o : HO} (h : cutC H cs b = some o) : H b = some o := by
  unfold cutC at h
  split at h
  · cases h
  · exact h
theorem nz_lst {xs : List V} (x : Obj) (u : HO) : HO.lst xs ≠ .frz x u := fun z => by cases z
theorem nz_dK {xs : List (Key × V)} (x : Obj) (u : HO) : HO.dK xs ≠ .frz x u := fun z => by cases z
theorem nz_ins {c d : Addr} {xs : List (Str × V)} (x : Obj) (u : HO) : HO.ins c d xs ≠ .frz x u := fun z => by cases z
theorem shp_cut (a : AreC H cs) {v : V} (h : Shp H v) : Shp (cutC H cs) v := by
  rcases h with h | ⟨b, xs, e, h⟩ | ⟨b, xs, e, h⟩ | ⟨b, xs, e, h⟩
  · exact .inl h
  · exact .inr (.inl ⟨b, xs, e, cut_o a h nz_lst⟩)
  · exact .inr (.inr (.inl ⟨b, xs, e, cut_o a h ne_tup⟩))
  · exact .inr (.inr (.inr ⟨b, xs, e, cut_o a h nz_dK⟩))
theorem seq_cut (a : AreC H cs) (v : V) : seqOf (cutC H cs) v = seqOf H v := by
  cases v with
  | ref b =>
    show (match cutC H cs b with | some (.lst xs) => some xs | some (.tup xs) => some xs | _ => none) = (match H b with | some (.lst xs) => some xs | some (.tup xs) => some xs | _ => none)
    by_cases hb : b ∈ cs
    · obtain ⟨v, x, e⟩ := a b hb
      rw [cutC_in hb, e]
    · rw [cutC_no hb]
  | _ => rfl
theorem tup_cut (a : AreC H cs) (v : V) : tupOf (cutC H cs) v = tupOf H v := by
  cases v with
  | ref b =>
    show (match cutC H cs b with | some (.tup xs) => some xs | _ => none) = (match H b with | some (.tup xs) => some xs | _ => none)
    by_cases hb : b ∈ cs
    · obtain ⟨v, x, e⟩ := a b hb
      rw [cutC_in hb, e]
    · rw [cutC_no hb]
  | _ => rfl
theorem tt_cut (a : AreC H cs) {xs : List V} {ts : List (List V)} (h : TT H xs ts) : TT (cutC H cs) xs ts := by
  unfold TT at h ⊢
  rw [← h]
  exact List.map_congr_left fun v _ => tup_cut a v
theorem ls_cut (c : AreC H cs) {a l p : Addr} {xs : List V} (h : Ls a l H p xs) : Ls a l (cutC H cs) p xs := ⟨h.na, h.nl, cut_o c h.h nz_lst⟩
theorem hobj_cut (c : AreC H cs) {a l x : Addr} {n : Int} {rt dt : List (List V)} (h : HObj a l C H x n rt dt) : HObj a l C (cutC H cs) x n rt dt := by
  obtain ⟨dx, p, q, rs, ds, h1, h2, h3, h4, h5⟩ := h.ex
  exact ⟨h.na, h.nl, dx, p, q, rs, ds, cut_o c h1 nz_ins, ls_cut c h2, ls_cut c h3, tt_cut c h4, tt_cut c h5⟩
theorem lotty_cut (c : AreC H cs) {v : V} (h : Lotty H v) : Lotty (cutC H cs) v := ⟨shp_cut c h.1, fun xs e => by
  rw [seq_cut c] at e
  exact ⟨fun y hy => shp_cut c ((h.2 xs e).1 y hy), (h.2 xs e).2⟩⟩
theorem sqs_cut (c : AreC H cs) {b : Addr} {xs : List V} (h : Sqs H b xs) : Sqs (cutC H cs) b xs := h.imp (fun h => cut_o c h nz_lst) fun h => cut_o c h ne_tup
theorem out_cut (c : AreC H cs) {E : XK} {Cx : Addr} {f : Str} {v : V} (o : Out H E Cx f v) : Out (cutC H cs) (fun cls d H' => (∀ c ∈ cs, H' c = none) → E cls d (putC H H' cs)) Cx f v := fun d H' nd sm hd nc => by
  have hdc : d ∉ cs := fun z => by
    rw [nc d z] at hd
    cases hd
  have nd : H d = none := by
    rw [cutC_no hdc] at nd
    exact nd
  refine o d (putC H H' cs) nd (fun b u e => ?_) (by rw [putC_no hdc]; exact hd)
  by_cases hb : b ∈ cs
  · rw [putC_in hb]
    exact e
  · rw [putC_no hb]
    exact sm _ _ (by rw [cutC_no hb]; exact e)
/-- no house: an atom, a list, a tuple, a dict, a function of the law -/
def NoH (K : PySem.W.Frag) (H : Hp) (v : V) : Prop := Shp H v ∨ ∃ (f : Addr) (o : Obj), v = .ref f ∧ K.lookup f = some o ∧ o.cls = .type "function"
theorem noH_cut (a : AreC H cs) {v : V} (h : NoH K H v) : NoH K (cutC H cs) v := h.imp (shp_cut a) id
/-- the types of such things are none below the class -/
def NoT (K : PySem.W.Frag) (C : Addr) : Prop := ∀ T : String, T ∈ ["NoneType", "bool", "int", "str", "list", "tuple", "dict", "function"] → PySem.W.kitOne K (.type T) (.ref C) = some false
theorem NoH.isC (nt : NoT K C) {v : V} (h : NoH K H v) : IsC K H C v false := by
  rcases h with (h | ⟨a, xs, rfl, h⟩ | ⟨a, xs, rfl, h⟩ | ⟨a, xs, rfl, h⟩) | ⟨f, o, rfl, h1, h2⟩
  · cases v with
    | non => exact ⟨_, .inl (.base .non), nt "NoneType" (by decide)⟩
    | bl b => exact ⟨_, .inl (.base (.bl b)), nt "bool" (by decide)⟩
    | int i => exact ⟨_, .inl (.base (.int i)), nt "int" (by decide)⟩
    | str z => exact ⟨_, .inl (.base (.str z)), nt "str" (by decide)⟩
    | _ => cases h
  · exact ⟨_, .inl (.base (.lst h)), nt "list" (by decide)⟩
  · exact ⟨_, .inl (.base (.tup h)), nt "tuple" (by decide)⟩
  · exact ⟨_, .inl (.base (.dK h)), nt "dict" (by decide)⟩
  · exact ⟨_, .inr ⟨f, o, rfl, h1, h2, rfl⟩, nt "function" (by decide)⟩
theorem hobj_isC (k0 : HK K C) (kc : PySem.W.kitOne K (.ref C) (.ref C) = some true) {a l x : Addr} {n : Int} {rt dt : List (List V)} (h : HObj a l C H x n rt dt) : IsC K H C (.ref x) true := ⟨_, .inl (k0.ty h), kc⟩
def Rf2 (K : PySem.W.Frag) (C Ch Cl : Addr) (v lo : V) (H : Hp) (E : XK) : Prop := (NoH K H v ∧ Out H E Ch "thing" v) ∨
  ∃ (a l x : Addr) (n : Int) (rt dt : List (List V)), v = .ref x ∧ HObj a l C H x n rt dt ∧ Lotty H lo ∧ isLot dt.length (seqOf H lo) = false ∧ Out H E Cl "lot" lo
def Rf3 (K : PySem.W.Frag) (C Ch Cl Cb : Addr) (fb : Str) (v lo be : V) (H : Hp) (E : XK) : Prop := Rf2 K C Ch Cl v lo H E ∨
  ∃ (a l x b : Addr) (n : Int) (rt dt : List (List V)) (ns : List Int), v = .ref x ∧ HObj a l C H x n rt dt ∧ Lotty H lo ∧ isLot dt.length (seqOf H lo) = true ∧ lo = .ref b ∧ Sqs H b (ns.map V.int) ∧ ns.length < 64 ∧ Shp H be ∧ isN be = false ∧ Out H E Cb fb be
def RfW (K : PySem.W.Frag) (C Ch Cm : Addr) (v m : V) (H : Hp) (E : XK) : Prop := (NoH K H v ∧ Out H E Ch "thing" v) ∨
  ∃ (a l x b : Addr) (n : Int) (rt dt : List (List V)) (xs : List V), v = .ref x ∧ HObj a l C H x n rt dt ∧ m = .ref b ∧ Sqs H b xs ∧ (xs.length : Int) ≠ n ∧ Out H E Cm "moments" m
variable {Ch Cl Cb Cm : Addr} {fb : Str} {v lo be m : V} {E : XK}
theorem Rf2.cut (a : AreC H cs) (nt : NoT K C) (k0 : HK K C) (kc : PySem.W.kitOne K (.ref C) (.ref C) = some true) (h : Rf2 K C Ch Cl v lo H E) : Ref2 K C Ch Cl v lo (cutC H cs) (fun cls d H' => (∀ c ∈ cs, H' c = none) → E cls d (putC H H' cs)) := by
  rcases h with ⟨h, o⟩ | ⟨a', l, x, n, rt, dt, rfl, h1, h2, h3, o⟩
  · exact .inl ⟨(noH_cut a h).isC nt, out_cut a o⟩
  · exact .inr ⟨a', l, x, n, rt, dt, rfl, hobj_isC k0 kc (hobj_cut a h1), hobj_cut a h1, lotty_cut a h2, by rw [seq_cut a]; exact h3, out_cut a o⟩
theorem Rf3.cut (a : AreC H cs) (nt : NoT K C) (k0 : HK K C) (kc : PySem.W.kitOne K (.ref C) (.ref C) = some true) (h : Rf3 K C Ch Cl Cb fb v lo be H E) : Ref3 K C Ch Cl Cb fb v lo be (cutC H cs) (fun cls d H' => (∀ c ∈ cs, H' c = none) → E cls d (putC H H' cs)) := by
  rcases h with h | ⟨a', l, x, b, n, rt, dt, ns, rfl, h1, h2, h3, rfl, h4, h5, h6, h7, o⟩
  · exact .inl (h.cut a nt k0 kc)
  · exact .inr ⟨a', l, x, b, n, rt, dt, ns, rfl, hobj_isC k0 kc (hobj_cut a h1), hobj_cut a h1, lotty_cut a h2, by rw [seq_cut a]; exact h3, rfl, sqs_cut a h4, h5, shp_cut a h6, h7, out_cut a o⟩
theorem RfW.cut (a : AreC H cs) (nt : NoT K C) (k0 : HK K C) (kc : PySem.W.kitOne K (.ref C) (.ref C) = some true) (h : RfW K C Ch Cm v m H E) : spWorth K C Ch Cm [v, m] (cutC H cs) Q (fun cls d H' => (∀ c ∈ cs, H' c = none) → E cls d (putC H H' cs)) := by
  rcases h with ⟨h, o⟩ | ⟨a', l, x, b, n, rt, dt, xs, rfl, h1, rfl, h2, h3, o⟩
  · exact ⟨_, _, rfl, .inl ⟨(noH_cut a h).isC nt, out_cut a o⟩⟩
  · exact ⟨_, _, rfl, .inr ⟨a', l, x, b, n, rt, dt, xs, rfl, hobj_isC k0 kc (hobj_cut a h1), hobj_cut a h1, rfl, sqs_cut a h2, h3, out_cut a o⟩⟩
end
end K17

set_option Elab.async false
set_option linter.all false
set_option maxRecDepth 100000
set_option maxHeartbeats 8000000
namespace K17
open PySem PySem.Spec PyProof.Rows L2 Own LamX
/-! _law_met -/
/-- a def of the text whose code object stands at c -/
structure FunC (K : PySem.W.Frag) (x qual : Str) (st : Stmt) (f : Addr) (fd : FuncData) (c : Addr) : Prop where
  ex : ∃ (oc : Value) (od : Option Addr) (kV doc pm : Value) (an : Option Addr) (ct : Value) (osl : Array (Option Value)),
    fd = PySem.W.fnOf x qual (defArgs st) (defBody st) (defScope st) .none kV doc pm an (.ref c) ct ∧ K.lookup f = some ⟨oc, od, .func fd, osl⟩ ∧ PySem.W.codeIn K (.ref c) qual = true
  kp : PySem.W.keepIn K (.ref f) = true
theorem FunC.ok {P : Program} {w : World} {K : PySem.W.Frag} {mg : Str → Option Value} {base : Heap} {x qual : Str} {st : Stmt} {f c : Addr} {fd : FuncData} {N ps : List Str} {k : Nat} {sp : Sp} (F : FunC K x qual st f fd c) (S : FnScope N ps (defScope st)) (len : ∀ vs H Q E, sp vs H Q E → vs.length = ps.length)
    (hbody : ∀ (A : Around) (outer : List Env) (s : Shared) (H : Hp) (vs : List V) (Q : VK) (E : XK), Room k (A.deeper (envOfC qual (defScope st) s.heap.objs.size f (.ref c))) → sp vs H Q E →
      ∃ t, PSs (cxOf CX0 P w K mg base N qual (defScope st) f (.ref c) A outer s H E).nox (defBody st) t ∧ t { nx := fun _ H' => Q .non H', rt := Q } (L2.start N vs) H) : FnOk P w K mg base CX0 (k + 1) f fd ps sp := by
  obtain ⟨oc, od, kV, doc, pm, an, ct, osl, rfl, lk, hcd⟩ := F.ex
  refine fn_of lk hcd S len fun A outer s H vs Q E hr hsp => ?_
  obtain ⟨t, h, q⟩ := hbody A outer s H vs Q E hr hsp
  exact ⟨t, h.nox, q⟩
theorem FunC.binds {K : PySem.W.Frag} {x qual : Str} {st : Stmt} {f c : Addr} {fd : FuncData} {ps : List Str} (F : FunC K x qual st f fd c)
    (h : ∀ (kV doc pm : Value) (an : Option Addr) (cdv ct : Value) (us : List Value), us.length = ps.length → bindArgs (PySem.W.fnOf x qual (defArgs st) (defBody st) (defScope st) .none kV doc pm an cdv ct) ⟨us, []⟩ = pure (ps.zip us)) : Binds K fd ps [] := by
  obtain ⟨oc, od, kV, doc, pm, an, ct, osl, rfl, lk, hcd⟩ := F.ex
  exact .all (h kV doc pm an (.ref c) ct)
/-- the error classes, as the law's clauses ask for them -/
structure Cau (K : PySem.W.Frag) (mg : Str → Option Value) (Ch Cl Cb Ca Cm : Addr) : Prop where
  gh : mg "BadHouse" = some (.ref Ch)
  gl : mg "BadLot" = some (.ref Cl)
  gb : mg "BadBell" = some (.ref Cb)
  ga : mg "BadAmount" = some (.ref Ca)
  gm : mg "BadMoments" = some (.ref Cm)
  xh : XfC K Ch
  xl : XfC K Cl
  xb : XfC K Cb
  xa : XfC K Ca
  xm : XfC K Cm
  nh : PySem.W.findIn K (.ref Ch) "thing" = some none
  nl : PySem.W.findIn K (.ref Cl) "lot" = some none
  nb : PySem.W.findIn K (.ref Cb) "bell" = some none
  na : PySem.W.findIn K (.ref Ca) "amount" = some none
  nm : PySem.W.findIn K (.ref Cm) "moments" = some none
  hh : PySem.W.exmOne K (.ref Ch) (.ref Ch) = some true
  lh : PySem.W.exmOne K (.ref Cl) (.ref Ch) = some false
  ll : PySem.W.exmOne K (.ref Cl) (.ref Cl) = some true
  bh : PySem.W.exmOne K (.ref Cb) (.ref Ch) = some false
  bl : PySem.W.exmOne K (.ref Cb) (.ref Cl) = some false
  bb : PySem.W.exmOne K (.ref Cb) (.ref Cb) = some true
  ah : PySem.W.exmOne K (.ref Ca) (.ref Ch) = some false
  al : PySem.W.exmOne K (.ref Ca) (.ref Cl) = some false
  ab : PySem.W.exmOne K (.ref Ca) (.ref Cb) = some false
  aa : PySem.W.exmOne K (.ref Ca) (.ref Ca) = some true
  mh : PySem.W.exmOne K (.ref Cm) (.ref Ch) = some false
  ml : PySem.W.exmOne K (.ref Cm) (.ref Cl) = some false
  mb : PySem.W.exmOne K (.ref Cm) (.ref Cb) = some false
  ma : PySem.W.exmOne K (.ref Cm) (.ref Ca) = some false
  mm : PySem.W.exmOne K (.ref Cm) (.ref Cm) = some true
/-- a new pair is told -/
def PrT (Q : VK) (H : Hp) (s : Str) (v : V) : Prop := [V.str s, v].length ≤ sizeLine ∧ ∀ t, H t = none → Q (.ref t) (upd H t (.tup [.str s, v]))
def EMet (Ch Cl Cb Ca Cm : Addr) (Q : VK) : XK := fun cls d H =>
  (cls = .ref Ch ∧ ∃ x v, d = some x ∧ H x = some (.xd [("thing", v)]) ∧ PrT Q H "house" v) ∨ (cls = .ref Cl ∧ ∃ x v, d = some x ∧ H x = some (.xd [("lot", v)]) ∧ PrT Q H "lot" v) ∨
  (cls = .ref Cb ∧ ∃ x v, d = some x ∧ H x = some (.xd [("bell", v)]) ∧ PrT Q H "bell" v) ∨ (cls = .ref Ca ∧ ∃ x v, d = some x ∧ H x = some (.xd [("amount", v)]) ∧ PrT Q H "amount" v) ∨
  (cls = .ref Cm ∧ ∃ x v, d = some x ∧ H x = some (.xd [("moments", v)]) ∧ PrT Q H "moments" v)
def TMet (Ch Cl Cb Ca Cm : Addr) : (XK → Hp → VK → Prop) → Hp → VK → Prop := fun tl H Q => tl (EMet Ch Cl Cb Ca Cm Q) H fun v H' => PrT Q H' "told" v
abbrev NMet : List Str := ["_law_ask", "e"]
theorem scMet : FnScope NMet ["_law_ask"] (defScope sMet) := ⟨rfl, rfl, rfl, by decide +kernel, rfl, by decide +kernel, by decide +kernel⟩
theorem met_body {P : Program} {w : World} {K : PySem.W.Frag} {mg : Str → Option Value} {base : Heap} {A : Around} {outer : List Env} {Ch Cl Cb Ca Cm g f : Addr} {cdg : Value} {s : Shared} {H : Hp} {Q : VK} {E0 : XK} (C : Cau K mg Ch Cl Cb Ca Cm) {R : Hp → XK → VK → Prop}
    (act : ∀ (W : WX) (pn : List (Addr × Obj)) (xe : Value → Shared → Prop) (E : XK) (p1 p2 : Pos), Takes ((cxOf C8.CX0 P w K mg base NMet "_law_met" (defScope sMet) g cdg A outer s H E0).nox.tr pn xe) W → (∀ cls d σ' H', E cls d H' → W cls d σ' H') →
      PE ((cxOf C8.CX0 P w K mg base NMet "_law_met" (defScope sMet) g cdg A outer s H E0).nox.tr pn xe) (.Call (.Name "_law_ask" p1) [] [] p2) (fun σZ HZ Q => σZ[0]? = some (some (.ref f)) ∧ R HZ E Q))
    (h : R H (EMet Ch Cl Cb Ca Cm Q) fun v H' => PrT Q H' "told" v) :
    ∃ t, PSs (cxOf C8.CX0 P w K mg base NMet "_law_met" (defScope sMet) g cdg A outer s H E0).nox (defBody sMet) t ∧ t { nx := fun _ H' => Q .non H', rt := Q } (L2.start NMet [.ref f]) H := by
  refine ⟨_, pss_one (ps_tryAll (X := (cxOf C8.CX0 P w K mg base NMet "_law_met" (defScope sMet) g cdg A outer s H E0).nox)
      (tb := fun W D σ H => ∃ Ech : XK, (∀ cls d σ' H', Ech cls d H' → W cls d σ' H') ∧ σ[0]? = some (some (.ref f)) ∧ R H Ech fun v H' => PrT D.rt H' "told" v)
      rfl rfl scMet.nd L2.takes0 (fun W pn xe tk _ => ?_)
      (.cons (i := 1) ⟨by rfl, by decide, .inl C.gh⟩ rfl rfl (fun a o k d pn hz hf => pss_one (ps_ret (pe_tup (pa_cons pe_str (pa_cons (pe_xf C.xh C.nh hz hf (pv 1)) pa_nil)))))
      (.cons (i := 1) ⟨by rfl, by decide, .inl C.gl⟩ rfl rfl (fun a o k d pn hz hf => pss_one (ps_ret (pe_tup (pa_cons pe_str (pa_cons (pe_xf C.xl C.nl hz hf (pv 1)) pa_nil)))))
      (.cons (i := 1) ⟨by rfl, by decide, .inl C.gb⟩ rfl rfl (fun a o k d pn hz hf => pss_one (ps_ret (pe_tup (pa_cons pe_str (pa_cons (pe_xf C.xb C.nb hz hf (pv 1)) pa_nil)))))
      (.cons (i := 1) ⟨by rfl, by decide, .inl C.ga⟩ rfl rfl (fun a o k d pn hz hf => pss_one (ps_ret (pe_tup (pa_cons pe_str (pa_cons (pe_xf C.xa C.na hz hf (pv 1)) pa_nil)))))
      (.cons (i := 1) ⟨by rfl, by decide, .inl C.gm⟩ rfl rfl (fun a o k d pn hz hf => pss_one (ps_ret (pe_tup (pa_cons pe_str (pa_cons (pe_xf C.xm C.nm hz hf (pv 1)) pa_nil))))) .nil)))))), ?_⟩
  · refine ⟨fun pins s' σ H' D I h' => ?_⟩
    obtain ⟨Ech, hW, h1, h3⟩ := h'
    have hp := fun p1 p2 => act W pn xe Ech p1 p2 tk hW
    exact PSs.run (pss_one (ps_ret (pe_tup (pa_cons pe_str (pa_cons (hp _ _) pa_nil))))) pins s' σ H' D I ⟨h1, h3⟩
  · refine ⟨EMet Ch Cl Cb Ca Cm Q, fun cls d σ' H' he => ?_, rfl, h⟩
    have lk : ∀ (n : Str) (v : V), List.lookup n [(n, v)] = some v := fun n v => by simp [List.lookup]
    intro hlen
    have hlen : σ'.length = 2 := hlen
    have hs : ∀ a, (σ'.set 1 (some (V.ref a)))[1]? = some (some (V.ref a)) := fun a => by
      match σ', hlen with
      | [_, _], _ => rfl
    have no : ∀ {P : Prop}, (false = true → P) := fun {P} z => by cases z
    have no' : ∀ {P : Prop}, (true = false → P) := fun {P} z => by cases z
    rcases he with ⟨rfl, x, v, rfl, hx, k⟩ | ⟨rfl, x, v, rfl, hx, k⟩ | ⟨rfl, x, v, rfl, hx, k⟩ | ⟨rfl, x, v, rfl, hx, k⟩ | ⟨rfl, x, v, rfl, hx, k⟩
    · exact ⟨true, C.hh, fun _ a ha => ⟨_, hs a, rfl, rfl, x, _, v, rfl, hx, lk _ v, k⟩, no'⟩
    · exact ⟨false, C.lh, no, fun _ => ⟨true, C.ll, fun _ a ha => ⟨_, hs a, rfl, rfl, x, _, v, rfl, hx, lk _ v, k⟩, no'⟩⟩
    · exact ⟨false, C.bh, no, fun _ => ⟨false, C.bl, no, fun _ => ⟨true, C.bb, fun _ a ha => ⟨_, hs a, rfl, rfl, x, _, v, rfl, hx, lk _ v, k⟩, no'⟩⟩⟩
    · exact ⟨false, C.ah, no, fun _ => ⟨false, C.al, no, fun _ => ⟨false, C.ab, no, fun _ => ⟨true, C.aa, fun _ a ha => ⟨_, hs a, rfl, rfl, x, _, v, rfl, hx, lk _ v, k⟩, no'⟩⟩⟩⟩
    · exact ⟨false, C.mh, no, fun _ => ⟨false, C.ml, no, fun _ => ⟨false, C.mb, no, fun _ => ⟨false, C.ma, no, fun _ => ⟨true, C.mm, fun _ a ha => ⟨_, hs a, rfl, rfl, x, _, v, rfl, hx, lk _ v, k⟩, no'⟩⟩⟩⟩⟩
/-- _law_met of a lambda that may be called -/
def spMet (P : Program) (w : World) (K : PySem.W.Frag) (mg : Str → Option Value) (base : Heap) (Ch Cl Cb Ca Cm : Addr) : Sp := fun vs H Q _ => ∃ (f : Addr) (tl : XK → Hp → VK → Prop), vs = [.ref f] ∧ Asks P w K mg base 7 H f tl ∧ tl (EMet Ch Cl Cb Ca Cm Q) H fun v H' => PrT Q H' "told" v
section
variable {P : Program} {w : World} {K : PySem.W.Frag} {mg : Str → Option Value} {base : Heap}
theorem ok_met {g Ch Cl Cb Ca Cm : Addr} {fd : FuncData} (F : Fun K "_law_met" "_law_met" sMet g fd) (C : Cau K mg Ch Cl Cb Ca Cm) : FnOk P w K mg base CX0 10 g fd ["_law_ask"] (spMet P w K mg base Ch Cl Cb Ca Cm) := by
  refine F.ok scMet (fun vs H Q E h => ?_) (fun cdv A outer s H vs Q E hr h => ?_)
  · obtain ⟨f, tl, rfl, _⟩ := h
    rfl
  · obtain ⟨f, tl, rfl, as, ht⟩ := h
    refine met_body C (R := fun HZ E Q => ∃ f' tl, V.ref f = V.ref f' ∧ Asks P w K mg base 7 HZ f' tl ∧ tl E HZ Q) (fun W pn xe E1 p1 p2 tk hW => ⟨fun pins s' σ H' Q I h => ?_⟩) ⟨f, tl, rfl, as, ht⟩
    obtain ⟨h1, f', tl', e, h2, h3⟩ := h
    cases e
    have z := pe_ask (P := P) (w := w) (K := K) (mg := mg) (base := base) (k := 7) (CXg := C8.CX0) (Eg := E) (Ng := NMet) (qg := "_law_met") (sg := defScope sMet) (g := g) (cdg := cdv) (A := A) (outer := outer) (s := s) (H := H) (i := 0) (a := "_law_ask") (pn := pn) (xe := xe) (W := W) (E := E1) (p1 := p1) (p2 := p2) tk hW (hr.mono (by decide)) rfl (.inl rfl)
    exact z.run pins s' σ H' Q I ⟨_, tl', h1, h2, h3⟩
end
end K17

set_option Elab.async false
set_option linter.all false
set_option maxRecDepth 100000
set_option maxHeartbeats 8000000
namespace K17
open PySem PySem.Spec PyProof.Rows L2 Own LamX
/-! _law_asks, _law_less -/
abbrev NAs : List Str := ["_law_house_here", "_law_lot_here", "_law_bell", "_law_found"]
abbrev NLe : List Str := ["_law_house_here", "_law_lot_here", "_law_found"]
theorem scAs : FnScope NAs ["_law_house_here", "_law_lot_here", "_law_bell"] (defScope sAsks) := ⟨rfl, rfl, rfl, by decide +kernel, rfl, by decide +kernel, by decide +kernel⟩
theorem scLe : FnScope NLe ["_law_house_here", "_law_lot_here"] (defScope sLess) := ⟨rfl, rfl, rfl, by decide +kernel, rfl, by decide +kernel, by decide +kernel⟩
abbrev qAs : Str := ("_law_asks" : Str) ++ ".<locals>." ++ "<lambda>"
abbrev qLe : Str := ("_law_less" : Str) ++ ".<locals>." ++ "<lambda>"
/-- the free names are just these -/
def frB (N : List Str) (sc : Scope) : Bool := (sc.names.all fun y => !decide (y.2 = .free) || decide (y.1 ∈ N)) && N.all fun x => sc.names.any fun y => decide (y.1 = x) && decide (y.2 = .free)
theorem frB_n {N : List Str} {sc : Scope} (h : frB N sc = true) : ∀ y ∈ sc.names, y.2 = .free → ∃ i : Nat, N[i]? = some y.1 := fun y hy e => by
  have z := List.all_eq_true.mp (Bool.and_eq_true_iff.mp h).1 y hy
  simp only [e, decide_true, Bool.not_true, Bool.false_or, decide_eq_true_eq] at z
  obtain ⟨i, hi, e⟩ := List.mem_iff_getElem.mp z
  exact ⟨i, by rw [List.getElem?_eq_getElem hi, e]⟩
theorem frB_m {N : List Str} {sc : Scope} (h : frB N sc = true) : ∀ (i : Nat) (x : Str), N[i]? = some x → (x, NameKind.free) ∈ sc.names := fun i x e => by
  have z := List.all_eq_true.mp (Bool.and_eq_true_iff.mp h).2 x (List.mem_of_getElem? e)
  obtain ⟨⟨y1, y2⟩, hy, q⟩ := List.any_eq_true.mp z
  obtain ⟨q1, q2⟩ := Bool.and_eq_true_iff.mp q
  have e1 : y1 = x := of_decide_eq_true q1
  have e2 : y2 = .free := of_decide_eq_true q2
  rw [← e1, ← e2]
  exact hy
section
variable {P : Program} {w : World} {K : PySem.W.Frag} {mg : Str → Option Value} {base : Heap} {C Ch Cl Cb Ca : Addr}
/-- most, most_plan, is_moments, moments_for, asked by a lambda -/
abbrev A3 (P : Program) (w : World) (K : PySem.W.Frag) (mg : Str → Option Value) (base : Heap) (C Ch Cl Cb : Addr) (fb : Str) (v lo be : V) (H : Hp) (f : Addr) : Prop := Asks P w K mg base 7 H f (fun E H _ => Rf3 K C Ch Cl Cb fb v lo be H E)
abbrev A2 (P : Program) (w : World) (K : PySem.W.Frag) (mg : Str → Option Value) (base : Heap) (C Ch Cl : Addr) (v lo : V) (H : Hp) (f : Addr) : Prop := Asks P w K mg base 7 H f (fun E H _ => Rf2 K C Ch Cl v lo H E)
def spAsks (P : Program) (w : World) (K : PySem.W.Frag) (mg : Str → Option Value) (base : Heap) (C Ch Cl Cb : Addr) (T0 : List (Addr × Str)) : Sp := fun vs H Q _ => ∃ v lo be, vs = [v, lo, be] ∧ Tabs T0 H ∧
  ∀ H' D f1 f2 f3 f4, Ext H H' → Tabs T0 H' → H' D = some (.lst [.ref f1, .ref f2, .ref f3, .ref f4]) → (∀ f ∈ [f1, f2, f3, f4], A3 P w K mg base C Ch Cl Cb "bell" v lo be H' f) → Q (.ref D) H'
def spLess (P : Program) (w : World) (K : PySem.W.Frag) (mg : Str → Option Value) (base : Heap) (C Ch Cl Ca : Addr) (T0 : List (Addr × Str)) : Sp := fun vs H Q _ => ∃ v lo, vs = [v, lo] ∧ Tabs T0 H ∧
  ∀ H' D f1 f2 f3, Ext H H' → Tabs T0 H' → H' D = some (.lst [.ref f1, .ref f2, .ref f3]) → (∀ f ∈ [f1, f2], A2 P w K mg base C Ch Cl v lo H' f) → A3 P w K mg base C Ch Cl Ca "amount" v lo .non H' f3 → Q (.ref D) H'
theorem nt_lst {xs : List V} (t : Array Value) : HO.lst xs ≠ .tbl t := fun z => by cases z
theorem ext_upd {H H' : Hp} {D : Addr} {o : HO} (e : Ext H H') (h : H D = none) : Ext H (upd H' D o) := fun b u z n => by
  rw [upd_ne (ne_of_none z h)]
  exact e b u z n
theorem cl_upd {H : Hp} {D f : Addr} {xs ys : List V} {q : Str} {ps : Arguments} {bd : Expr} {sc : Scope} {cl : List (Str × Addr)} (l : ClAt H f q ps bd sc cl) (h : H D = some (.lst xs)) : ClAt (upd H D (.lst ys)) f q ps bd sc cl := by
  obtain ⟨c, h1, h2⟩ := l
  refine ⟨c, ?_, ?_⟩
  · rw [upd_ne (ne_of h1 h fun z => by unfold ClO at z; cases z)]
    exact h1
  · rw [upd_ne (ne_of h2 h fun z => by unfold CodeO at z; cases z)]
    exact h2
theorem tabs_lst {T : List (Addr × Str)} {H : Hp} {D : Addr} {xs ys : List V} (t : Tabs T H) (h : H D = some (.lst xs)) : Tabs T (upd H D (.lst ys)) := fun p hp => by
  obtain ⟨tb, t1, t2, t3⟩ := t p hp
  refine ⟨tb, ?_, t2, fun pos cv z => ?_⟩
  · rw [upd_ne (ne_of t1 h fun z => by cases z)]
    exact t1
  · obtain ⟨c, e1, e2⟩ := t3 pos cv z
    refine ⟨c, e1, ?_⟩
    rw [upd_ne (ne_of e2 h fun z => by unfold CodeO at z; cases z)]
    exact e2
theorem ok_asks {T0 : List (Addr × Str)} {f fM fMP fIM fMF c Pt : Addr} {fd fdM fdMP fdIM fdMF : FuncData} (F : FunC K "_law_asks" "_law_asks" sAsks f fd c) (nt : NoT K C) (k0 : HK K C) (kc : PySem.W.kitOne K (.ref C) (.ref C) = some true)
    (FM : Fun K "most" "most" sMost fM fdM) (gM : mg "most" = some (.ref fM)) (bM : Binds K fdM ["house", "lot", "bell"] []) (GM : FnOk P w K mg base (L2.CX P w) 5 fM fdM ["house", "lot", "bell"] (spRef3 K C Ch Cl Cb "bell"))
    (FMP : Fun K "most_plan" "most_plan" sMostPlan fMP fdMP) (gMP : mg "most_plan" = some (.ref fMP)) (bMP : Binds K fdMP ["house", "lot", "bell"] []) (GMP : FnOk P w K mg base (L2.CX P w) 5 fMP fdMP ["house", "lot", "bell"] (spRef3 K C Ch Cl Cb "bell"))
    (FIM : Fun K "is_moments" "is_moments" sIsMom fIM fdIM) (gIM : mg "is_moments" = some (.ref fIM)) (bIM : Binds K fdIM ["house", "lot", "bell", "thing"] []) (GIM : FnOk P w K mg base (L2.CX P w) 5 fIM fdIM ["house", "lot", "bell", "thing"] (spRef4 K C Ch Cl Cb))
    (FMF : Fun K "moments_for" "moments_for" sMomFor fMF fdMF) (gMF : mg "moments_for" = some (.ref fMF)) (bMF : Binds K fdMF ["house", "lot", "bell"] []) (GMF : FnOk P w K mg base (L2.CX P w) 5 fMF fdMF ["house", "lot", "bell"] (spRef3 K C Ch Cl Cb "bell"))
    (TB : TabB base mg c Pt) (hmT : (Pt, qAs) ∈ T0) (hu : ∀ q ∈ T0, q.1 = Pt → q.2 = qAs) :
    FnOk P w K mg base CX0 2 f fd ["_law_house_here", "_law_lot_here", "_law_bell"] (spAsks P w K mg base C Ch Cl Cb T0) := by
  obtain ⟨oc, od, kV, doc, pm, an, ct, osl, rfl, lk, hcd⟩ := F.ex
  refine fnokC lk hcd scAs (fun vs H Q E h => ?_) (fun A outer s H vs Q E hr h => ?_)
  · obtain ⟨v, lo, be, rfl, _⟩ := h
    rfl
  · obtain ⟨v, lo, be, rfl, hT, fin⟩ := h
    refine ⟨_, (pssC_cons (ps_set (i := 3) scAs.nd rfl (Or.inl rfl) (pe_lst (pa_cons (pe_clo TB rfl hmT hu (lamS_by (by show lamSB (defScope sAsks) _ = true; decide +kernel))) pa_nil)))
      (pssC_cons (ps_expr (pe_bm PySem.F.plainAttrs_list PySem.F.slot_list_append PySem.F.type_list_append mt_append (pv 3) (pa_cons (pe_clo TB rfl hmT hu (lamS_by (by show lamSB (defScope sAsks) _ = true; decide +kernel))) pa_nil)))
      (pssC_cons (ps_expr (pe_bm PySem.F.plainAttrs_list PySem.F.slot_list_append PySem.F.type_list_append mt_append (pv 3) (pa_cons (pe_clo TB rfl hmT hu (lamS_by (by show lamSB (defScope sAsks) _ = true; decide +kernel))) pa_nil)))
      (pssC_cons (ps_expr (pe_bm PySem.F.plainAttrs_list PySem.F.slot_list_append PySem.F.type_list_append mt_append (pv 3) (pa_cons (pe_clo TB rfl hmT hu (lamS_by (by show lamSB (defScope sAsks) _ = true; decide +kernel))) pa_nil)))
      (pssC_ret (pv 3)))))), ?_⟩
    refine ⟨hT, fun f1 H1 e1 T1 n1 a1 S1 => ⟨by show 1 ≤ sizeLine; decide, fun D hD => ?_⟩⟩
    have x1 : Ext H1 (upd H1 D (.lst [.ref f1])) := ext_upd (LamX.ExtN.refl _) hD
    have b1 := a1.ext x1
    have t1 : Tabs T0 (upd H1 D (.lst [.ref f1])) := T1.ext (same_new hD)
    have d1 : upd H1 D (.lst [.ref f1]) D = some (.lst [.ref f1]) := upd_same
    generalize upd H1 D (.lst [.ref f1]) = G1 at x1 b1 t1 d1 ⊢
    refine ⟨_, rfl, .inl ⟨rfl, _, SqL.of d1⟩, t1, fun f2 H2 e2 T2 n2 a2 S2 => ?_⟩
    have d2' := e2 _ _ d1 nt_lst
    refine ⟨D, _, .ref f2, rfl, rfl, d2', by show 1 < sizeLine; decide, ?_⟩
    have x2 : Ext H1 (upd H2 D (.lst ([.ref f1] ++ [.ref f2]))) := ext_upd (x1.trans e2) hD
    have b1' := cl_upd (ys := [.ref f1] ++ [.ref f2]) (b1.ext e2) d2'
    have b2 := cl_upd (ys := [.ref f1] ++ [.ref f2]) a2 d2'
    have t2 := tabs_lst (ys := [.ref f1] ++ [.ref f2]) T2 d2'
    have d2 : upd H2 D (.lst ([.ref f1] ++ [.ref f2])) D = some (.lst ([.ref f1] ++ [.ref f2])) := upd_same
    clear b1 x1 t1 d1 d2'
    generalize upd H2 D (.lst ([.ref f1] ++ [.ref f2])) = G2 at x2 b1' b2 t2 d2 ⊢
    have b1 := b1'
    clear b1'
    refine ⟨_, rfl, .inl ⟨rfl, _, SqL.of d2⟩, t2, fun f3 H3 e3 T3 n3 a3 S3 => ?_⟩
    have d3' := e3 _ _ d2 nt_lst
    refine ⟨D, _, .ref f3, rfl, rfl, d3', by show 2 < sizeLine; decide, ?_⟩
    have x3 : Ext H1 (upd H3 D (.lst ([.ref f1] ++ [.ref f2] ++ [.ref f3]))) := ext_upd (x2.trans e3) hD
    have b1' := cl_upd (ys := [.ref f1] ++ [.ref f2] ++ [.ref f3]) (b1.ext e3) d3'
    have b2' := cl_upd (ys := [.ref f1] ++ [.ref f2] ++ [.ref f3]) (b2.ext e3) d3'
    have b3 := cl_upd (ys := [.ref f1] ++ [.ref f2] ++ [.ref f3]) a3 d3'
    have t3 := tabs_lst (ys := [.ref f1] ++ [.ref f2] ++ [.ref f3]) T3 d3'
    have d3 : upd H3 D (.lst ([.ref f1] ++ [.ref f2] ++ [.ref f3])) D = some (.lst ([.ref f1] ++ [.ref f2] ++ [.ref f3])) := upd_same
    clear b1 b2 x2 t2 d2 d3'
    generalize upd H3 D (.lst ([.ref f1] ++ [.ref f2] ++ [.ref f3])) = G3 at x3 b1' b2' b3 t3 d3 ⊢
    have b1 := b1'
    clear b1'
    have b2 := b2'
    clear b2'
    refine ⟨_, rfl, .inl ⟨rfl, _, SqL.of d3⟩, t3, fun f4 H4 e4 T4 n4 a4 S4 => ?_⟩
    have d4' := e4 _ _ d3 nt_lst
    refine ⟨D, _, .ref f4, rfl, rfl, d4', by show 3 < sizeLine; decide, ?_⟩
    have x4 : Ext H1 (upd H4 D (.lst ([.ref f1] ++ [.ref f2] ++ [.ref f3] ++ [.ref f4]))) := ext_upd (x3.trans e4) hD
    have b1' := cl_upd (ys := [.ref f1] ++ [.ref f2] ++ [.ref f3] ++ [.ref f4]) (b1.ext e4) d4'
    have b2' := cl_upd (ys := [.ref f1] ++ [.ref f2] ++ [.ref f3] ++ [.ref f4]) (b2.ext e4) d4'
    have b3' := cl_upd (ys := [.ref f1] ++ [.ref f2] ++ [.ref f3] ++ [.ref f4]) (b3.ext e4) d4'
    have b4 := cl_upd (ys := [.ref f1] ++ [.ref f2] ++ [.ref f3] ++ [.ref f4]) a4 d4'
    have t4 := tabs_lst (ys := [.ref f1] ++ [.ref f2] ++ [.ref f3] ++ [.ref f4]) T4 d4'
    have d4 : upd H4 D (.lst ([.ref f1] ++ [.ref f2] ++ [.ref f3] ++ [.ref f4])) D = some (.lst ([.ref f1] ++ [.ref f2] ++ [.ref f3] ++ [.ref f4])) := upd_same
    clear b1 b2 b3 x3 t3 d3 d4'
    generalize upd H4 D (.lst ([.ref f1] ++ [.ref f2] ++ [.ref f3] ++ [.ref f4])) = G4 at x4 b1' b2' b3' b4 t4 d4 ⊢
    have b1 := b1'
    clear b1'
    have b2 := b2'
    clear b2'
    have b3 := b3'
    clear b3'
    refine ⟨_, rfl, fun H9 kn => ?_⟩
    have k9 : Ext G4 H9 := LamX.ExtN.of kn.same
    have t9 : Tabs T0 H9 := t4.ext kn.same
    have hc : ∀ (i : Nat) (x : Str) (u : V), (["_law_house_here", "_law_lot_here", "_law_bell"] : List Str)[i]? = some x → [v, lo, be][i]? = some u → ∃ c, (cellsFrom (s.heap.objs.size + 1) (defScope sAsks).names []).lookup x = some c ∧ CelF H9 c u := fun i x u h1 h2 => by
      match i with
      | 0 =>
        cases h1; cases h2
        exact kn.cell 0 _ _ rfl (by decide +kernel) rfl
      | 1 =>
        cases h1; cases h2
        exact kn.cell 1 _ _ rfl (by decide +kernel) rfl
      | 2 =>
        cases h1; cases h2
        exact kn.cell 2 _ _ rfl (by decide +kernel) rfl
      | i + 3 => cases h1
    refine fin H9 D f1 f2 f3 f4 ((e1.trans x4).trans k9) t9 (kn.same _ _ d4) fun f hf => ?_
    simp only [List.mem_cons, List.not_mem_nil, or_false] at hf
    rcases hf with rfl | rfl | rfl | rfl
    · exact asks_of (N := ["_law_house_here", "_law_lot_here", "_law_bell"]) (ws := [v, lo, be]) (b1.ext k9) S1 rfl (frB_n (by decide +kernel)) (frB_m (by decide +kernel)) hc (fun _ _ _ => rfl)
        (tb := fun E => tCall (spRef3 K C Ch Cl Cb "bell") [] E (tCons (tVar 0) (tCons (tVar 1) (tCons (tVar 2) tNil)))) (fun f' c' A' o' s' H' E' hr' => pe_call GM (hr'.mono (by decide)) (by rfl) gM FM.kp bM .nil (passes_call (takes_of rfl rfl rfl rfl) fun _ _ _ _ h => h) (pa_cons (pv 0) (pa_cons (pv 1) (pa_cons (pv 2) pa_nil))))
        fun H1 E Q e a t => ⟨_, rfl, _, rfl, _, rfl, _, _, _, rfl, t.cut a nt k0 kc⟩
    · exact asks_of (N := ["_law_house_here", "_law_lot_here", "_law_bell"]) (ws := [v, lo, be]) (b2.ext k9) S2 rfl (frB_n (by decide +kernel)) (frB_m (by decide +kernel)) hc (fun _ _ _ => rfl)
        (tb := fun E => tCall (spRef3 K C Ch Cl Cb "bell") [] E (tCons (tVar 0) (tCons (tVar 1) (tCons (tVar 2) tNil)))) (fun f' c' A' o' s' H' E' hr' => pe_call GMP (hr'.mono (by decide)) (by rfl) gMP FMP.kp bMP .nil (passes_call (takes_of rfl rfl rfl rfl) fun _ _ _ _ h => h) (pa_cons (pv 0) (pa_cons (pv 1) (pa_cons (pv 2) pa_nil))))
        fun H1 E Q e a t => ⟨_, rfl, _, rfl, _, rfl, _, _, _, rfl, t.cut a nt k0 kc⟩
    · exact asks_of (N := ["_law_house_here", "_law_lot_here", "_law_bell"]) (ws := [v, lo, be]) (b3.ext k9) S3 rfl (frB_n (by decide +kernel)) (frB_m (by decide +kernel)) hc (fun _ _ _ => rfl)
        (tb := fun E => tCall (spRef4 K C Ch Cl Cb) [] E (tCons (tVar 0) (tCons (tVar 1) (tCons (tVar 2) (tCons (tC .non) tNil))))) (fun f' c' A' o' s' H' E' hr' => pe_call GIM (hr'.mono (by decide)) (by rfl) gIM FIM.kp bIM .nil (passes_call (takes_of rfl rfl rfl rfl) fun _ _ _ _ h => h) (pa_cons (pv 0) (pa_cons (pv 1) (pa_cons (pv 2) (pa_cons pe_non pa_nil)))))
        fun H1 E Q e a t => ⟨_, rfl, _, rfl, _, rfl, _, _, _, _, rfl, t.cut a nt k0 kc⟩
    · exact asks_of (N := ["_law_house_here", "_law_lot_here", "_law_bell"]) (ws := [v, lo, be]) (b4.ext k9) S4 rfl (frB_n (by decide +kernel)) (frB_m (by decide +kernel)) hc (fun _ _ _ => rfl)
        (tb := fun E => tCall (spRef3 K C Ch Cl Cb "bell") [] E (tCons (tVar 0) (tCons (tVar 1) (tCons (tVar 2) tNil)))) (fun f' c' A' o' s' H' E' hr' => pe_call GMF (hr'.mono (by decide)) (by rfl) gMF FMF.kp bMF .nil (passes_call (takes_of rfl rfl rfl rfl) fun _ _ _ _ h => h) (pa_cons (pv 0) (pa_cons (pv 1) (pa_cons (pv 2) pa_nil))))
        fun H1 E Q e a t => ⟨_, rfl, _, rfl, _, rfl, _, _, _, rfl, t.cut a nt k0 kc⟩
theorem ok_less {T0 : List (Addr × Str)} {f fLv fSt fLB c Pt : Addr} {fd fdLv fdSt fdLB : FuncData} (F : FunC K "_law_less" "_law_less" sLess f fd c) (nt : NoT K C) (k0 : HK K C) (kc : PySem.W.kitOne K (.ref C) (.ref C) = some true)
    (FLv : Fun K "levels" "levels" sLevels fLv fdLv) (gLv : mg "levels" = some (.ref fLv)) (bLv : Binds K fdLv ["house", "lot"] []) (GLv : FnOk P w K mg base (L2.CX P w) 5 fLv fdLv ["house", "lot"] (spRef2 K C Ch Cl))
    (FSt : Fun K "steady" "steady" sSteady fSt fdSt) (gSt : mg "steady" = some (.ref fSt)) (bSt : Binds K fdSt ["house", "lot"] []) (GSt : FnOk P w K mg base (L2.CX P w) 6 fSt fdSt ["house", "lot"] (spRef2 K C Ch Cl))
    (FLB : Fun K "lot_bell" "lot_bell" sLotBell fLB fdLB) (gLB : mg "lot_bell" = some (.ref fLB)) (bLB : Binds K fdLB ["house", "lot", "amount"] []) (GLB : FnOk P w K mg base (L2.CX P w) 5 fLB fdLB ["house", "lot", "amount"] (spRef3 K C Ch Cl Ca "amount"))
    (TB : TabB base mg c Pt) (hmT : (Pt, qLe) ∈ T0) (hu : ∀ q ∈ T0, q.1 = Pt → q.2 = qLe) :
    FnOk P w K mg base CX0 2 f fd ["_law_house_here", "_law_lot_here"] (spLess P w K mg base C Ch Cl Ca T0) := by
  obtain ⟨oc, od, kV, doc, pm, an, ct, osl, rfl, lk, hcd⟩ := F.ex
  refine fnokC lk hcd scLe (fun vs H Q E h => ?_) (fun A outer s H vs Q E hr h => ?_)
  · obtain ⟨v, lo, rfl, _⟩ := h
    rfl
  · obtain ⟨v, lo, rfl, hT, fin⟩ := h
    refine ⟨_, (pssC_cons (ps_set (i := 2) scLe.nd rfl (Or.inl rfl) (pe_lst (pa_cons (pe_clo TB rfl hmT hu (lamS_by (by show lamSB (defScope sLess) _ = true; decide +kernel))) pa_nil)))
      (pssC_cons (ps_expr (pe_bm PySem.F.plainAttrs_list PySem.F.slot_list_append PySem.F.type_list_append mt_append (pv 2) (pa_cons (pe_clo TB rfl hmT hu (lamS_by (by show lamSB (defScope sLess) _ = true; decide +kernel))) pa_nil)))
      (pssC_cons (ps_expr (pe_bm PySem.F.plainAttrs_list PySem.F.slot_list_append PySem.F.type_list_append mt_append (pv 2) (pa_cons (pe_clo TB rfl hmT hu (lamS_by (by show lamSB (defScope sLess) _ = true; decide +kernel))) pa_nil)))
      (pssC_ret (pv 2))))), ?_⟩
    refine ⟨hT, fun f1 H1 e1 T1 n1 a1 S1 => ⟨by show 1 ≤ sizeLine; decide, fun D hD => ?_⟩⟩
    have x1 : Ext H1 (upd H1 D (.lst [.ref f1])) := ext_upd (LamX.ExtN.refl _) hD
    have b1 := a1.ext x1
    have t1 : Tabs T0 (upd H1 D (.lst [.ref f1])) := T1.ext (same_new hD)
    have d1 : upd H1 D (.lst [.ref f1]) D = some (.lst [.ref f1]) := upd_same
    generalize upd H1 D (.lst [.ref f1]) = G1 at x1 b1 t1 d1 ⊢
    refine ⟨_, rfl, .inl ⟨rfl, _, SqL.of d1⟩, t1, fun f2 H2 e2 T2 n2 a2 S2 => ?_⟩
    have d2' := e2 _ _ d1 nt_lst
    refine ⟨D, _, .ref f2, rfl, rfl, d2', by show 1 < sizeLine; decide, ?_⟩
    have x2 : Ext H1 (upd H2 D (.lst ([.ref f1] ++ [.ref f2]))) := ext_upd (x1.trans e2) hD
    have b1' := cl_upd (ys := [.ref f1] ++ [.ref f2]) (b1.ext e2) d2'
    have b2 := cl_upd (ys := [.ref f1] ++ [.ref f2]) a2 d2'
    have t2 := tabs_lst (ys := [.ref f1] ++ [.ref f2]) T2 d2'
    have d2 : upd H2 D (.lst ([.ref f1] ++ [.ref f2])) D = some (.lst ([.ref f1] ++ [.ref f2])) := upd_same
    clear b1 x1 t1 d1 d2'
    generalize upd H2 D (.lst ([.ref f1] ++ [.ref f2])) = G2 at x2 b1' b2 t2 d2 ⊢
    have b1 := b1'
    clear b1'
    refine ⟨_, rfl, .inl ⟨rfl, _, SqL.of d2⟩, t2, fun f3 H3 e3 T3 n3 a3 S3 => ?_⟩
    have d3' := e3 _ _ d2 nt_lst
    refine ⟨D, _, .ref f3, rfl, rfl, d3', by show 2 < sizeLine; decide, ?_⟩
    have x3 : Ext H1 (upd H3 D (.lst ([.ref f1] ++ [.ref f2] ++ [.ref f3]))) := ext_upd (x2.trans e3) hD
    have b1' := cl_upd (ys := [.ref f1] ++ [.ref f2] ++ [.ref f3]) (b1.ext e3) d3'
    have b2' := cl_upd (ys := [.ref f1] ++ [.ref f2] ++ [.ref f3]) (b2.ext e3) d3'
    have b3 := cl_upd (ys := [.ref f1] ++ [.ref f2] ++ [.ref f3]) a3 d3'
    have t3 := tabs_lst (ys := [.ref f1] ++ [.ref f2] ++ [.ref f3]) T3 d3'
    have d3 : upd H3 D (.lst ([.ref f1] ++ [.ref f2] ++ [.ref f3])) D = some (.lst ([.ref f1] ++ [.ref f2] ++ [.ref f3])) := upd_same
    clear b1 b2 x2 t2 d2 d3'
    generalize upd H3 D (.lst ([.ref f1] ++ [.ref f2] ++ [.ref f3])) = G3 at x3 b1' b2' b3 t3 d3 ⊢
    have b1 := b1'
    clear b1'
    have b2 := b2'
    clear b2'
    refine ⟨_, rfl, fun H9 kn => ?_⟩
    have k9 : Ext G3 H9 := LamX.ExtN.of kn.same
    have t9 : Tabs T0 H9 := t3.ext kn.same
    have hc : ∀ (i : Nat) (x : Str) (u : V), (["_law_house_here", "_law_lot_here"] : List Str)[i]? = some x → [v, lo][i]? = some u → ∃ c, (cellsFrom (s.heap.objs.size + 1) (defScope sLess).names []).lookup x = some c ∧ CelF H9 c u := fun i x u h1 h2 => by
      match i with
      | 0 =>
        cases h1; cases h2
        exact kn.cell 0 _ _ rfl (by decide +kernel) rfl
      | 1 =>
        cases h1; cases h2
        exact kn.cell 1 _ _ rfl (by decide +kernel) rfl
      | i + 2 => cases h1
    refine fin H9 D f1 f2 f3 ((e1.trans x3).trans k9) t9 (kn.same _ _ d3) (fun f hf => ?_) ?_
    · simp only [List.mem_cons, List.not_mem_nil, or_false] at hf
      rcases hf with rfl | rfl
      · exact asks_of (N := ["_law_house_here", "_law_lot_here"]) (ws := [v, lo]) (b1.ext k9) S1 rfl (frB_n (by decide +kernel)) (frB_m (by decide +kernel)) hc (fun _ _ _ => rfl)
          (tb := fun E => tCall (spRef2 K C Ch Cl) [] E (tCons (tVar 0) (tCons (tVar 1) tNil))) (fun f' c' A' o' s' H' E' hr' => pe_call GLv (hr'.mono (by decide)) (by rfl) gLv FLv.kp bLv .nil (passes_call (takes_of rfl rfl rfl rfl) fun _ _ _ _ h => h) (pa_cons (pv 0) (pa_cons (pv 1) pa_nil)))
          fun H1 E Q e a t => ⟨_, rfl, _, rfl, _, _, rfl, t.cut a nt k0 kc⟩
      · exact asks_of (N := ["_law_house_here", "_law_lot_here"]) (ws := [v, lo]) (b2.ext k9) S2 rfl (frB_n (by decide +kernel)) (frB_m (by decide +kernel)) hc (fun _ _ _ => rfl)
          (tb := fun E => tCall (spRef2 K C Ch Cl) [] E (tCons (tVar 0) (tCons (tVar 1) tNil))) (fun f' c' A' o' s' H' E' hr' => pe_call GSt (hr'.mono (by decide)) (by rfl) gSt FSt.kp bSt .nil (passes_call (takes_of rfl rfl rfl rfl) fun _ _ _ _ h => h) (pa_cons (pv 0) (pa_cons (pv 1) pa_nil)))
          fun H1 E Q e a t => ⟨_, rfl, _, rfl, _, _, rfl, t.cut a nt k0 kc⟩
    · exact asks_of (N := ["_law_house_here", "_law_lot_here"]) (ws := [v, lo]) (b3.ext k9) S3 rfl (frB_n (by decide +kernel)) (frB_m (by decide +kernel)) hc (fun _ _ _ => rfl)
          (tb := fun E => tCall (spRef3 K C Ch Cl Ca "amount") [] E (tCons (tVar 0) (tCons (tVar 1) (tCons (tC .non) tNil)))) (fun f' c' A' o' s' H' E' hr' => pe_call GLB (hr'.mono (by decide)) (by rfl) gLB FLB.kp bLB .nil (passes_call (takes_of rfl rfl rfl rfl) fun _ _ _ _ h => h) (pa_cons (pv 0) (pa_cons (pv 1) (pa_cons pe_non pa_nil))))
          fun H1 E Q e a t => ⟨_, rfl, _, rfl, _, _, _, rfl, t.cut a nt k0 kc⟩
end
end K17

set_option Elab.async false
set_option linter.all false
set_option maxRecDepth 100000
set_option maxHeartbeats 2000000
/-! a comprehension whose item is told what the def around it holds; within it, a call that is told a cell of that def -/
namespace Own
open PySem PySem.Spec PyProof.Rows L2 LamX
abbrev compE (X : Cx) (sc : Scope) (cl : List (Str × Addr)) (L : Addr) : Env := compEnvC sc cl L X.env
abbrev blkX (X : Cx) (s : Shared) (H : Hp) (sc : Scope) (L : Addr) (cl : List (Str × Addr)) (fp : List Addr) : Cx := X.blk s H sc (compE X sc cl L) fp
section
variable {X : Cx}
/-- behind the block, in the def again -/
theorem blk_back {pins : List (Addr × Obj)} {σ σ' : L2.St} {H0 H1 : Hp} {s0 s1 : Shared} {sc : Scope} {L : Addr} {cl : List (Str × Addr)} {fp : List Addr} (J : Inv X pins σ H0 s0) (hf : ∀ b ∈ fp, FpOk X pins H0 b) (B : Inv (blkX X s0 H0 sc L cl fp) [] σ' H1 s1) : Inv X pins σ H1 s1 := by
  refine J.call' (ch := fp) B.os B.base B.hok B.bare fun b hb => ?_
  obtain ⟨_, z1, _, z3, z4, z5⟩ := hf b hb
  exact ⟨z3, z1, z4, z5⟩
theorem pe_lcI {elt tg iter : Expr} {ifs : List Expr} {sc : Scope} {own : List (Str × Nat)} {pos : Pos} {wi : TI} {g : TG} {tt : TT} {te : L2.St → TE} (calm : X.calm = true) (nd : X.N.Nodup) (it : PI X tg iter wi) (bo : BlkOk X.N X.env.scope sc own)
    (pg : ∀ s H L cl fp, PG (blkX X s H sc L cl fp) tg g) (pt : ∀ s H L cl fp, PTs (blkX X s H sc L cl fp) ifs tt)
    (pe : ∀ pins σ s H L cl fp, Inv X pins σ H s → (∀ b ∈ fp, FpOk X pins H b) → PE (blkX X s H sc L cl fp) elt (te σ)) (fold : ∀ x, foldedSetIterable iter X.env x = pure x := by intro _; rfl) :
    PE X (.ListComp elt [⟨tg, iter, ifs, 0⟩] sc pos) (fun σ H Q => tLc wi g tt (te σ) (own.map (·.2)) σ H Q) := by
  constructor
  intro pins s σ H Q I read
  have caught : ∀ y ∈ sc.names, y.2 = .free → ∃ c, X.env.cells.lookup y.1 = some c := fun y hy e => (bo.free y hy e).elim (fun z => I.ok.has _ (.inl z)) fun z => I.ok.has _ (.inr z)
  rw [eval_ListComp]
  refine wpAny_comprehension_free (use := none) rfl fold (closure_ok caught) bo.kind (fun y hy e => by rw [bo.uniq y hy, e]) ?_
  refine thn (it.run pins s σ H _ I read) fun xv sa ha => ?_
  refine thn ha fun iv sb hv => ?_
  obtain ⟨i0, fp, tn, J, Hb, rfl, Ib, T, tb, fb, rd⟩ := hv
  refine wpAny_newObj_type (newEnv_comp ?_) (by show 0 ≤ sizeLine; decide)
  have nD : Hb sb.heap.objs.size = none := Ib.hok.fresh (Nat.le_refl _)
  obtain ⟨W, ⟨m0, w0⟩, turn⟩ := rd _ nD
  -- the list is there
  let sc0 : Shared := { sb with heap := sb.heap.push { cls := .type "list", data := .seq ([] : List Value).toArray } }
  have kc : ∀ b o, sb.heap.get? b = some o → sc0.heap.get? b = some o := fun b o e => Heap.get?_push_of_some _ e
  have Ic : Inv X pins σ (upd Hb sb.heap.objs.size (.lst [])) sc0 := Ib.laid (t' := sb.toks) kc (Nat.le_refl _) ⟨Nat.zero_le _, [], 0, .nil, Heap.get?_push_size _ rfl⟩
  have low : ∀ b ∈ fp, b < sb.heap.objs.size := fun b hb => (T.obj _ _ tb b hb).elim fun o z => Heap.lt_size z.1
  have fc : ∀ b ∈ fp, FpOk X pins (upd Hb sb.heap.objs.size (.lst [])) b := fun b hb => ⟨by rw [upd_ne (Nat.ne_of_lt (low b hb))]; exact (fb b hb).1, (fb b hb).2⟩
  have fl : ∀ b ∈ fp, FpOk X pins (upd Hb sb.heap.objs.size (.lst [])) b ∧ b < sc0.heap.objs.size := fun b hb => ⟨fc b hb, Nat.lt_of_lt_of_le (low b hb) (by show _ ≤ (sb.heap.push _).objs.size; rw [Heap.size_push]; exact Nat.le_succ _)⟩
  have tc : tn 0 sc0.heap := T.keep _ _ _ tb fun b _ o e => kc b o e
  -- the block begins
  have Id := block_start Ic bo nd fl
  show codeAny _ _ (.compStart (.ListComp elt [⟨tg, iter, ifs, 0⟩] sc pos) 0 (.ref i0) (.ref sb.heap.objs.size) (compE X sc (cellsFrom (sc0.heap.objs.size + 1) sc.names (cloFrom X.env.cells sc.names [])) sc0.heap.objs.size)) _ { sc0 with heap := pushCells (sc0.heap.push { cls := .type "dict", data := .dict #[] }) sc.names }
  have td : tn 0 (pushCells (sc0.heap.push { cls := .type "dict", data := .dict #[] }) sc.names) := T.keep _ _ _ tc fun b _ o e => pushCells_keeps _ _ _ _ (Heap.get?_push_of_some _ e)
  have hL : ∃ L, L = sc0.heap.objs.size := ⟨_, rfl⟩
  have hcl : ∃ cl, cl = cellsFrom (sc0.heap.objs.size + 1) sc.names (cloFrom X.env.cells sc.names []) := ⟨_, rfl⟩
  obtain ⟨L, eL⟩ := hL
  obtain ⟨cl, ecl⟩ := hcl
  have nL : (upd Hb sb.heap.objs.size (.lst [])) L = none := Ic.hok.fresh (by rw [eL]; exact Nat.le_refl _)
  rw [← ecl, ← eL] at Id ⊢
  generalize hsd : ({ sc0 with heap := pushCells (sc0.heap.push { cls := .type "dict", data := .dict #[] }) sc.names } : Shared) = sd at Id ⊢
  have td2 : tn 0 sd.heap := by
    rw [← hsd]
    exact td
  generalize hH0 : upd Hb sb.heap.objs.size (.lst []) = H0 at Ic fc w0 Id nL
  have gg := pg sc0 H0 L cl fp
  have gt := pt sc0 H0 L cl fp
  have ge := pe pins σ sc0 H0 L cl fp Ic fc
  have stat : ∀ {σ' : L2.St} {H' : Hp} {s' : Shared}, Inv (blkX X sc0 H0 sc L cl fp) [] σ' H' s' → (∀ b ∈ fp, H' b = none) → ∀ b ∈ fp, FpOk (blkX X sc0 H0 sc L cl fp) [] H' b := fun {σ' H' s'} B n b hb =>
    ⟨n b hb, (B.ok.exf b hb).1, B.ok.exfs b hb, .inl hb, (B.ok.exf b hb).2, fun p hp => by cases hp⟩
  have whole : codeAny (model X.prog X.w) X.A (.compLoop (.ListComp elt [⟨tg, iter, ifs, 0⟩] sc pos) 0 (.ref i0) (.ref sb.heap.objs.size) (compE X sc cl L)) (compPost (model X.prog X.w) X.A X.xe none (EP X pins σ Q) (.ref sb.heap.objs.size) L) sd := by
    refine compLoop_any (fun m s' => ∃ (i : Nat) (H' : Hp), W i m H' ∧ tn i s'.heap ∧ (∀ b ∈ fp, H' b = none) ∧ Inv (blkX X sc0 H0 sc L cl fp) [] (wipe σ (own.map (·.2))) H' s') (fun m s5 h5 => ?_) m0 ⟨0, H0, w0, ?_, fun b hb => (fc b hb).1, Id⟩
    · obtain ⟨i, H5, w5, t5, n5, B5⟩ := h5
      rcases turn i m H5 w5 with ⟨halt, q⟩ | ⟨more, Nx, less, goes⟩
      · refine thnF (T.done (blkX X sc0 H0 sc L cl fp) rfl rfl rfl calm i [] s5 _ H5 (fun _ _ => False) B5 (stat B5 n5) t5 halt) fun r s6 ⟨er, B6⟩ => ?_
        rw [er]
        obtain ⟨mm, ns, _⟩ := B6.loc
        have I6 := blk_back Ic fc B6
        refine ⟨mm, ns, fun h'' same => ?_⟩
        have nL6 : H5 L = none := B6.free
        obtain ⟨f0, f1, f2, f3, f4, f5⟩ := Ic.fpOk (H' := H5) (b := L) (by rw [eL]; exact Nat.le_refl _) nL6
        exact ⟨.ref sb.heap.objs.size, H5, I6.turned (t' := s6.toks) (fun b o hb e => (same.2 b hb).trans e) f0 f1 f3 f4 f5, rfl, q⟩
      · refine thnF (T.item (blkX X sc0 H0 sc L cl fp) rfl rfl rfl calm i [] s5 _ H5 (fun _ _ => False) B5 (stat B5 n5) t5 more) fun r s6 ⟨u, er, h6⟩ => ?_
        rw [er]
        refine thnF h6 fun _ s7 ⟨x, H7, B7, r7, y7, t7, n7⟩ => ?_
        have P7 := B7.pinned (stat B7 n7) (T.obj _ _ t7)
        have pinned : ∀ {σ' : L2.St} {H' : Hp} {s' : Shared}, Inv (blkX X sc0 H0 sc L cl fp) ([] ++ pinsAt fp s7.heap) σ' H' s' → ∀ b ∈ fp, ∀ o, s7.heap.get? b = some o → s'.heap.get? b = some o ∧ H' b = none := fun {σ' H' s'} B b hb o e => by
          obtain ⟨z1, z2, _⟩ := B.pin (b, o) (List.mem_append_right _ (List.mem_append_right _ (mem_pinsAt hb e)))
          exact ⟨z1, z2⟩
        have next : ∀ {σ' : L2.St} {H' : Hp} {s' : Shared}, Inv (blkX X sc0 H0 sc L cl fp) ([] ++ pinsAt fp s7.heap) σ' H' s' → wipe σ' (own.map (·.2)) = wipe σ (own.map (·.2)) → Nx H' → ∃ m', m' < m ∧ ∃ (i : Nat) (H' : Hp), W i m' H' ∧ tn i s'.heap ∧ (∀ b ∈ fp, H' b = none) ∧ Inv (blkX X sc0 H0 sc L cl fp) [] (wipe σ (own.map (·.2))) H' s' := fun {σ' H' s'} B ew nx => by
          obtain ⟨m', lt, w'⟩ := less H' nx
          refine ⟨m', lt, i + 1, H', w', T.keep _ _ _ t7 fun b hb o e => (pinned B b hb o e).1, fun b hb => ?_, B.unpinned.weak (by rw [← ew, wipe_length]) fun j v e => ?_⟩
          · obtain ⟨o, e, _⟩ := T.obj _ _ t7 b hb
            exact (pinned B b hb o e).2
          · rw [← ew] at e
            exact (wipe_some e).1
        refine thnF (gg.run _ s7 _ H7 x u _ P7 r7 (goes x H7 y7)) fun _ s8 ⟨σ8, H8, B8, ew, q8⟩ => ?_
        refine thnF (gt.run _ s8 σ8 H8 _ B8 q8) fun d s9 ⟨H9, B9, q9⟩ => ?_
        dsimp only at q9
        by_cases hd : d = true
        · rw [if_pos hd] at q9 ⊢
          refine thnF (ge.run _ s9 σ8 H9 _ B9 q9) fun y s10 ⟨yv, H10, B10, r10, acc, hD, room, nx⟩ => ?_
          exact app_ok (X := blkX X sc0 H0 sc L cl fp) B10 hD room r10 fun s11 B11 => next B11 ew nx
        · rw [if_neg hd] at q9 ⊢
          exact next B9 ew q9
    · exact td2
  exact codeAny_compStart_list whole (T.self X.A 0 sd _ _ td2 whole)
/-- within the block: f(e), while a cell of the def around is known -/
def tCallT0 (σ0 : L2.St) (cells : List (Str × Addr)) (y : Str) (i : Nat) (sp : Sp) (ta : TA) : TE := fun σ H Q => ta σ H fun vs H1 => ∃ v, σ0[i]? = some (some v) ∧
  ∀ (c : Addr) (o : Obj), cells.lookup y = some c → H1 c = none → sp vs (upd H1 c (.frz o (CelO c v))) (fun u H' => Q u (cutC H' [c])) (fun _ _ _ => False)
theorem pe_callB {pins0 : List (Addr × Obj)} {σ0 : L2.St} {s0 : Shared} {H0 : Hp} {sc : Scope} {L : Addr} {cl : List (Str × Addr)} {fp : List Addr} (J : Inv X pins0 σ0 H0 s0) (hfp : ∀ b ∈ fp, FpOk X pins0 H0 b)
    {k i : Nat} {f : Addr} {fd : FuncData} {ps : List Str} {sp : Sp} {x y : Str} {p pos : Pos} {e : Expr} {es : List Expr} {ta : TA} {cells : List (Str × Addr)} (F : FnOk X.prog X.w X.K X.mg X.base CX0 k f fd ps sp) (hr : Room k X.A) (hg : Gl (blkX X s0 H0 sc L cl fp) x) (hm : X.mg x = some (.ref f)) (hk : PySem.W.keepIn X.K (.ref f) = true) (hb : L2.Binds X.K fd ps [])
    (hcl : X.env.cells = cells) (hN : X.N[i]? = some y) (hy : X.env.scope.names.lookup y = some .cell) (hfn : X.fn y = true)
    (ha : PA (blkX X s0 H0 sc L cl fp) (e :: es) ta) (hdb : (x == ("__debug__" : Str)) = false := by decide) (he : starEach (e :: es) (compE X sc cl L) = (false, eval e (compE X sc cl L)) :: starEach es (compE X sc cl L) := by rfl) (hpl : (backTo pos (starEach es (compE X sc cl L))).any (·.1) = false := by rfl) :
    PE (blkX X s0 H0 sc L cl fp) (.Call (.Name x p) (e :: es) [] pos) (tCallT0 σ0 cells y i sp ta) := by
  subst hcl
  refine ⟨fun pins s σ H Q I h => ?_⟩
  refine wpAny_Call_Name_kw (ld_glob I hg hm ?_ hdb)
  refine PySem.W.callWith_K (h₀ := X.base) I.ok.mod.kin hk (thn (ha.run pos pins s σ H _ I h) fun us s1 ⟨vs, H1, I1, r, v, hv, q⟩ => ⟨I1.kIn, ?_⟩) he hpl
  -- the cell, as the def around has it
  obtain ⟨c, hc⟩ := J.ok.has y (.inl hy)
  obtain ⟨m, _, hl⟩ := J.loc
  obtain ⟨w', r', q'⟩ := hl i y v hN hv (.inr (.inl hy))
  have hcell : s0.heap.IsCell c (some w') := by
    rcases q' with ⟨k', _⟩ | ⟨_, c2, e', z⟩
    · have k' : X.env.scope.names.lookup y = some .local := k'
      rw [hy] at k'
      cases k'
    · rw [hc] at e'
      cases e'
      exact z
  obtain ⟨o, ho0, hd⟩ := hcell
  have n0 : H0 c = none := J.freeC y c hc
  have big : X.s_0.heap.objs.size ≤ c := J.ok.cab y c hfn hc
  have nfs : ∀ b ∈ frs X.stack, b ≠ c := fun b hb z => by
    rcases List.mem_cons.mp (J.stkSub b hb) with e1 | e1
    · exact J.cne y c hc (by rw [← z]; exact e1)
    · obtain ⟨_, ob, hob, _⟩ := J.ok.funs.mem e1
      rw [z] at hob
      exact absurd (Nat.lt_of_lt_of_le (Heap.lt_size hob) big) (Nat.lt_irrefl _)
  have nfp : c ∉ fp := fun z => (hfp c z).2.2.2.2.1 y c hc rfl
  have un1 : Un (frs X.stack) fp H0 H1 s0.heap s1.heap := I1.base
  have ho : s1.heap.get? c = some o := un1.keep c o ho0 n0 (fun z => nfs c z rfl) nfp
  have n1 : H1 c = none := un1.free c o ho0 n0 nfp
  have q := q c o hc n1
  have off : ∀ {b : Addr} {u : HO}, H1 b = some u → upd H1 c (.frz o (CelO c v)) b = some u := fun {b u} z => by
    rw [upd_ne (ne_of_none z n1)]
    exact z
  have hokT : HOk X.prog X.w (upd H1 c (.frz o (CelO c v))) s1.heap := fun b u z => by
    by_cases hb : b = c
    · rw [hb, upd_same] at z
      cases z
      rw [hb]
      exact ⟨ho, celO_ok r' ⟨o, ho, hd⟩⟩
    · rw [upd_ne hb] at z
      exact (I1.hok b u z).stay (fun _ _ _ a => a) (fun _ a => off a) fun _ _ a => off a
  have E0' : Env0 X.prog X.w X.K X.mg X.base X.A X.stack s1 (upd H1 c (.frz o (CelO c v))) := by
    have E1 : Env0 X.prog X.w X.K X.mg X.base X.A X.stack s1 H1 := I1.env0
    refine ⟨E1.frames, E1.mod, fun b ob z => ⟨(E1.bs b ob z).1, ?_⟩, E1.bsz, E1.funs, fun b hb => ?_, hokT, E1.bare⟩
    · have nb : b ≠ c := fun y => by
        rw [y] at z
        exact absurd (Nat.lt_of_lt_of_le (Heap.lt_size z) (Nat.le_trans J.ok.bsz big)) (Nat.lt_irrefl _)
      rw [upd_ne nb]
      exact (E1.bs b ob z).2
    · rw [upd_ne (nfs b hb)]
      exact E1.frf b hb
  have hlen : us.length = ps.length := by rw [← r.length]; exact F.len _ _ _ _ q
  refine wpAny_call (codeAny_mono (F.run X.A X.stack s1 _ ⟨us, []⟩ us vs _ _ hr E0' (by have z := hb s1 us I1.kIn (by rw [List.append_nil]; exact hlen); rw [List.append_nil] at z; exact z) r q) fun r s' hq => ?_)
  cases r with
  | error e => exact (show False from hq).elim
  | ok fl =>
    cases fl with
    | next => exact False.elim hq
    | brk => exact False.elim hq
    | cont => exact False.elim hq
    | ret u =>
      obtain ⟨v', H', os, bare, un, hok', rv, q2⟩ := hq
      have fz : H' c = some (.frz o (CelO c v)) := un.frzs c o _ upd_same
      have ar : AreC H' [c] := fun d hd => by
        rw [List.mem_singleton.mp hd]
        exact ⟨v, o, fz⟩
      refine I1.after ⟨v', cutC H' [c], os, bare, ⟨fun b ob z n hb hx => ?_, fun b ob z n hb hx => ?_, fun b ob z n hx => ?_, un.there, fun b xs z => ?_, fun b ob u z => ?_, fun b qs z => ?_⟩, cutC_hok ar hok', rv, q2⟩
      · by_cases hbc : b = c
        · rw [hbc, ho] at z
          cases z
          rw [hbc]
          exact (hok' c _ fz).1
        · exact un.keep b ob z (by rw [upd_ne hbc]; exact n) hb hx
      · exact un.slot b ob z (by rw [upd_ne (nfs b hb)]; exact n) hb hx
      · by_cases hbc : b = c
        · rw [hbc]
          exact cutC_in List.mem_cons_self
        · exact cutC_none (un.free b ob z (by rw [upd_ne hbc]; exact n) hx)
      · have nb : b ∉ [c] := fun y => ne_of_none z n1 (List.mem_singleton.mp y)
        rw [cutC_no nb]
        exact un.tups b xs (off z)
      · have nb : b ∉ [c] := fun y => ne_of_none z n1 (List.mem_singleton.mp y)
        rw [cutC_no nb]
        exact un.frzs b ob u (off z)
      · have nb : b ∉ [c] := fun y => ne_of_none z n1 (List.mem_singleton.mp y)
        obtain ⟨more, y⟩ := un.tbls b qs (off z)
        exact ⟨more, by rw [cutC_no nb]; exact y⟩
end
end Own

set_option Elab.async false
set_option linter.all false
set_option maxRecDepth 100000
set_option maxHeartbeats 8000000
namespace K17
open PySem PySem.Spec PyProof.Rows L2 Own LamX
/-! _law_houses_right -/
abbrev NHR : List Str := ["_law_house_here", "_law_odd", "_law_asks_here", "_law_ask"]
theorem scHR : FnScope NHR ["_law_house_here"] (defScope sHouR) := ⟨rfl, rfl, rfl, by decide +kernel, rfl, by decide +kernel, by decide +kernel⟩
abbrev qHR : Str := ("_law_houses_right" : Str) ++ ".<locals>." ++ "<lambda>"
theorem nt_tup {xs : List V} (t : Array Value) : HO.tup xs ≠ .tbl t := fun z => by cases z
theorem nt_dK {xs : List (Key × V)} (t : Array Value) : HO.dK xs ≠ .tbl t := fun z => by cases z
theorem Shp.ext {H H' : Hp} {v : V} (h : Shp H v) (e : Ext H H') : Shp H' v := by
  rcases h with h | ⟨a, xs, h1, h2⟩ | ⟨a, xs, h1, h2⟩ | ⟨a, xs, h1, h2⟩
  · exact .inl h
  · exact .inr (.inl ⟨a, xs, h1, e _ _ h2 nt_lst⟩)
  · exact .inr (.inr (.inl ⟨a, xs, h1, e _ _ h2 nt_tup⟩))
  · exact .inr (.inr (.inr ⟨a, xs, h1, e _ _ h2 nt_dK⟩))
theorem NoH.ext {K : PySem.W.Frag} {H H' : Hp} {v : V} (h : NoH K H v) (e : Ext H H') : NoH K H' v := h.imp (fun h => h.ext e) id
theorem TL.ext {H H' : Hp} (e : Ext H H') : TL H H' := fun b t h => e _ _ h nt_tup
theorem HT.ext {a l t : Addr} {H H' : Hp} {n : Int} {rt dt : List (List V)} (h : HT a l H t n rt dt) (e : Ext H H') : HT a l H' t n rt dt := by
  obtain ⟨p, q, xs, ys, h1, h2, h3, h4, h5⟩ := h.ex
  exact ⟨p, q, xs, ys, e _ _ h1 nt_tup, ⟨h2.na, h2.nl, e _ _ h2.h nt_lst⟩, ⟨h3.na, h3.nl, e _ _ h3.h nt_lst⟩, h4.tl (TL.ext e), h5.tl (TL.ext e)⟩
/-- a thing that is no house, and is the same as itself -/
def Odd (K : PySem.W.Frag) (C : Addr) (H : Hp) (x : V) : Prop := NoH K H x ∧ Eqt K C 8 H x x
theorem Odd.ext {K : PySem.W.Frag} {C : Addr} {H H' : Hp} {x : V} (h : Odd K C H x) (e : Ext H H') : Odd K C H' x := ⟨h.1.ext e, h.2.ext e⟩
theorem odd_atom {K : PySem.W.Frag} {C : Addr} {H : Hp} {x : V} (h : atomV x = true) : Odd K C H x := ⟨.inl (.inl h), eqt_atom h⟩
/-- the house as the law holds it is the same as itself -/
theorem ht_eqt {K : PySem.W.Frag} {C a l t : Addr} {H : Hp} {n : Int} {rt dt : List (List V)} (h : HT a l H t n rt dt) (g : GoodT n rt dt) : ∃ p q, H t = some (.tup [.int n, .ref p, .ref q]) ∧ Paired (Eqt K C 7 H) [.int n, .ref p, .ref q] [.int n, .ref p, .ref q] := by
  obtain ⟨p, q, xs, ys, h1, h2, h3, h4, h5⟩ := h.ex
  have up : ∀ {xs ys : List V} {ts : List (List V)}, TT H xs ts → TT H ys ts → Ws ts → (∀ t ∈ ts, t.length ≤ 20) → Paired (Eqt K C 6 H) xs ys := fun {xs ys ts} t1 t2 w l => by
    induction ts generalizing xs ys with
    | nil =>
      cases xs with
      | nil =>
        cases ys with
        | nil => exact .nil
        | cons _ _ => cases t2
      | cons _ _ => cases t1
    | cons t ts ih =>
      cases xs with
      | nil => cases t1
      | cons v xs =>
        cases ys with
        | nil => cases t2
        | cons u ys =>
          obtain ⟨h1, h2⟩ := List.cons.inj (show tupOf H v :: xs.map (tupOf H) = some t :: ts.map some from t1)
          obtain ⟨k1, k2⟩ := List.cons.inj (show tupOf H u :: ys.map (tupOf H) = some t :: ts.map some from t2)
          obtain ⟨p, rfl, hp⟩ := tupOf_ref h1
          obtain ⟨q, rfl, hq⟩ := tupOf_ref k1
          have pw : ∀ {t : List V}, (∀ v ∈ t, isW v = true) → Paired (Eqt K C 5 H) t t := fun {t} => by
            intro h
            induction t with
            | nil => exact .nil
            | cons v r ih => exact .cons (eqt_atom (isW_atom (h v List.mem_cons_self))) (ih fun u hu => h u (List.mem_cons_of_mem _ hu))
          exact .cons (.inr (.inr (.inl ⟨p, q, t, t, rfl, rfl, hp, hq, pw (w t List.mem_cons_self), Nat.le_trans (l t List.mem_cons_self) (by decide)⟩))) (ih h2 k2 (fun s hs => w s (List.mem_cons_of_mem _ hs)) fun s hs => l s (List.mem_cons_of_mem _ hs))
  have l1 := g.lr
  have l2 := g.ld
  exact ⟨p, q, h1, .cons (eqt_atom rfl) (.cons (.inr (.inl ⟨p, p, xs, xs, rfl, rfl, h2.h, h2.h, up h4 h4 g.wr g.l4, by rw [h4.len]; omega⟩)) (.cons (.inr (.inl ⟨q, q, ys, ys, rfl, rfl, h3.h, h3.h, up h5 h5 g.wd g.l3, by rw [h5.len]; omega⟩)) .nil))⟩
/-- pairs that tell of one thing -/
def PrsAt (H : Hp) (w : Str) (x : V) (ys : List V) : Prop := ∀ y ∈ ys, ∃ t, y = .ref t ∧ H t = some (.tup [.str w, x])
theorem PrsAt.ext {H H' : Hp} {w : Str} {x : V} {ys : List V} (h : PrsAt H w x ys) (e : Ext H H') : PrsAt H' w x ys := fun y hy => by
  obtain ⟨t, h1, h2⟩ := h y hy
  exact ⟨t, h1, e _ _ h2 nt_tup⟩
theorem PrsAt.eqt {K : PySem.W.Frag} {C : Addr} {n : Nat} {H : Hp} {w : Str} {x y : V} (hx : Eqt K C n H x y) {u : Addr} (hu : H u = some (.tup [.str w, y])) : ∀ {ys : List V}, PrsAt H w x ys → Paired (Eqt K C (n + 1) H) ys (List.replicate ys.length (.ref u))
  | [], _ => .nil
  | z :: ys, h => by
    obtain ⟨t, rfl, ht⟩ := h z List.mem_cons_self
    exact .cons (.inr (.inr (.inl ⟨t, u, _, _, rfl, rfl, ht, hu, .cons (eqt_atom rfl) (.cons hx .nil), by show 2 ≤ 1000; decide⟩))) (PrsAt.eqt hx hu fun z hz => h z (List.mem_cons_of_mem _ hz))
theorem small1000 {n : Nat} (h : n ≤ 1000) : n < sizeLine := Nat.lt_of_le_of_lt h (by decide)
theorem flat_one {y : V} : ∀ n : Nat, (List.replicate n [y]).flatten = List.replicate n y
  | 0 => rfl
  | n + 1 => by
    rw [List.replicate_succ, List.replicate_succ, List.flatten_cons, flat_one n]
    rfl
theorem ext_cut {H H' : Hp} {cs : List Addr} (e : Ext H H') (n : ∀ c ∈ cs, H c = none) : Ext H (cutC H' cs) := fun b o z t => by
  have hb : b ∉ cs := fun y => by
    rw [n b y] at z
    cases z
  rw [cutC_no hb]
  exact e b o z t
theorem tabs_cut {T : List (Addr × Str)} {H : Hp} {c : Addr} {o : Obj} {v : V} (t : Tabs T H) (hc : H c = some (.frz o (CelO c v))) : Tabs T (cutC H [c]) := fun p hp => by
  have ne : ∀ {b : Addr} {u : HO}, H b = some u → (∀ x y, u ≠ .frz x y) → cutC H [c] b = some u := fun {b u} e n => by
    rw [cutC_no fun y => by
      rw [List.mem_singleton.mp y, hc] at e
      exact n o _ (Option.some.inj e).symm]
    exact e
  obtain ⟨tb, t1, t2, t3⟩ := t p hp
  refine ⟨tb, ne t1 ne_tbl, t2, fun pos cv z => ?_⟩
  obtain ⟨c', e1, e2⟩ := t3 pos cv z
  exact ⟨c', e1, ne e2 fun x y z => by unfold CodeO at z; cases z⟩
section
variable {P : Program} {w : World} {K : PySem.W.Frag} {mg : Str → Option Value} {base : Heap} {C Ch Cl Cb Ca Cm : Addr}
def spHR (T0 : List (Addr × Str)) : Sp := fun vs H Q _ => ∃ (a l t : Addr) (n : Int) (rt dt : List (List V)), vs = [.ref t] ∧ HT a l H t n rt dt ∧ GoodT n rt dt ∧ Tabs T0 H ∧ ∀ H', Ext H H' → Tabs T0 H' → Q (.bl true) H'
theorem ok_hr {T0 : List (Addr × Str)} {f fAs fLe fSm fMe fWo fPk c cAs cLe Pt : Addr} {fd fdAs fdLe fdSm fdMe fdWo : FuncData} (F : FunC K "_law_houses_right" "_law_houses_right" sHouR f fd c) (T : Bt mg) (nt : NoT K C) (k0 : HK K C) (kc : PySem.W.kitOne K (.ref C) (.ref C) = some true)
    (FAs : FunC K "_law_asks" "_law_asks" sAsks fAs fdAs cAs) (gAs : mg "_law_asks" = some (.ref fAs)) (bAs : Binds K fdAs ["_law_house_here", "_law_lot_here", "_law_bell"] []) (GAs : FnOk P w K mg base CX0 2 fAs fdAs ["_law_house_here", "_law_lot_here", "_law_bell"] (spAsks P w K mg base C Ch Cl Cb T0))
    (FLe : FunC K "_law_less" "_law_less" sLess fLe fdLe cLe) (gLe : mg "_law_less" = some (.ref fLe)) (bLe : Binds K fdLe ["_law_house_here", "_law_lot_here"] []) (GLe : FnOk P w K mg base CX0 2 fLe fdLe ["_law_house_here", "_law_lot_here"] (spLess P w K mg base C Ch Cl Ca T0))
    (FSm : Fun K "_law_same" "_law_same" sSame fSm fdSm) (gSm : mg "_law_same" = some (.ref fSm)) (bSm : Binds K fdSm ["_law_found", "_law_due"] []) (GSm : FnOk P w K mg base CX0 12 fSm fdSm ["_law_found", "_law_due"] (spSame K C 10))
    (FMe : Fun K "_law_met" "_law_met" sMet fMe fdMe) (gMe : mg "_law_met" = some (.ref fMe)) (bMe : Binds K fdMe ["_law_ask"] []) (GMe : FnOk P w K mg base CX0 10 fMe fdMe ["_law_ask"] (spMet P w K mg base Ch Cl Cb Ca Cm))
    (FWo : Fun K "worth" "worth" sWorth fWo fdWo) (gWo : mg "worth" = some (.ref fWo)) (bWo : Binds K fdWo ["house", "moments"] []) (GWo : FnOk P w K mg base (L2.CX P w) 5 fWo fdWo ["house", "moments"] (spWorth K C Ch Cm))
    (gPk : mg "_law_pick" = some (.ref fPk)) (od : ∃ o : Obj, K.lookup fPk = some o ∧ o.cls = .type "function")
    (TB : TabB base mg c Pt) (hmT : (Pt, qHR) ∈ T0) (hu : ∀ q ∈ T0, q.1 = Pt → q.2 = qHR) :
    FnOk P w K mg base CX0 13 f fd ["_law_house_here"] (spHR T0) := by
  refine F.ok scHR (fun vs H Q E h => ?_) (fun A outer s H vs Q E hr h => ?_)
  · obtain ⟨a, l, t, n, rt, dt, rfl, _⟩ := h
    rfl
  · obtain ⟨a, l, t, n, rt, dt, rfl, ht, g, hT, fin⟩ := h
    refine ⟨_, (pss_cons (ps_for PassesOwn.never rfl (pi_tup (pe_tup (pa_cons pe_non (pa_cons pe_int (pa_cons pe_bl (pa_cons pe_str (pa_cons (pe_lst pa_nil) (pa_cons pe_dnewK (pa_cons (pv 0) (pa_cons (pe_callTy call_list_of (by rfl) T.list (by decide +kernel) (pa_cons (pv 0) pa_nil)) (pa_cons (pe_glob (v := .ref fPk) (by rfl) gPk rfl) pa_nil))))))))))) (pg_name (i := 1) (x := "_law_odd") scHR.nd rfl (Or.inr rfl)) (pss_cons (ps_set (i := 2) scHR.nd rfl (Or.inl rfl) (pe_op op_cat (pe_op op_cat (pe_call GAs (hr.mono (by decide)) (by rfl) gAs FAs.kp bAs .nil pass0 (pa_cons (pv 1) (pa_cons pe_non (pa_cons pe_non pa_nil)))) (pe_call GLe (hr.mono (by decide)) (by rfl) gLe FLe.kp bLe .nil pass0 (pa_cons (pv 1) (pa_cons pe_non pa_nil)))) (pe_lst (pa_cons (pe_clo TB rfl hmT hu (lamS_by (by show lamSB (defScope sHouR) _ = true; decide +kernel))) pa_nil))))
  (pss_one (ps_if (pt_not (pt_val (pe_call GSm (hr.mono (by decide)) (by rfl) gSm FSm.kp bSm .nil pass0 (pa_cons (pe_lcI (own := [("_law_ask", 3)]) (g := gName 3) (tt := tYes) (te := fun σ0 => tCallT0 σ0 (cellsFrom (s.heap.objs.size + 1) (defScope sHouR).names []) "_law_odd" 1 (spMet P w K mg base Ch Cl Cb Ca Cm) (tCons (tVar 3) tNil)) rfl scHR.nd (pi_list (pv 2)) (blkOk_by (N := ["_law_house_here", "_law_odd", "_law_asks_here", "_law_ask"]) (sc := defScope sHouR) (by decide +kernel)) (fun _ _ _ _ _ => (pg_name (i := 3) (x := "_law_ask") scHR.nd rfl (Or.inl rfl))) (fun _ _ _ _ _ => pts_nil) (fun _ _ _ _ _ _ _ J hf => pe_callB J hf GMe (hr.mono (by decide)) (by rfl) gMe FMe.kp bMe (i := 1) (y := "_law_odd") rfl rfl rfl rfl (pa_cons (pv 3) pa_nil))) (pa_cons (pe_op op_rep (pe_lst (pa_cons (pe_tup (pa_cons pe_str (pa_cons (pv 1) pa_nil))) pa_nil)) (pe_callB call_len_seq (by rfl) T.len (by decide +kernel) (pa_cons (pv 2) pa_nil))) pa_nil))))) (pss_one (ps_ret pe_bl)) pss_nil))))
  (pss_one (ps_ret pe_bl))), ?_⟩
    obtain ⟨p, q, htt, heq⟩ := ht_eqt (K := K) (C := C) ht g
    refine ⟨Nat.zero_le _, fun e1 h1 => fun e2 h2 => ⟨_, rfl, _, rfl, t, _, rfl, .inr (SqT.of (same_new h2 _ _ (same_new h1 _ _ htt))), fun e3 h3 => ⟨by show 9 ≤ sizeLine; decide, fun tp h4 => ?_⟩⟩⟩
    have z1 := same_new (o := HO.lst ([] : List V)) h1
    have z2 := same_new (o := HO.dK ([] : List (Key × V))) h2
    have z3 := same_new (o := HO.lst [V.int n, V.ref p, V.ref q]) h3
    have z4 := same_new (o := HO.tup [V.non, V.int 5, V.bl true, V.str "house", V.ref e1, V.ref e2, V.ref t, V.ref e3, V.ref fPk]) h4
    have z24 := (z2.trans z3).trans z4
    have z14 := (z1.trans z2).trans (z3.trans z4)
    have m1 := z24 _ _ (upd_same (H := H) (a := e1) (o := HO.lst ([] : List V)))
    have m2 := (z3.trans z4) _ _ (upd_same (a := e2) (o := HO.dK ([] : List (Key × V))))
    have m3 := z4 _ _ (upd_same (a := e3) (o := HO.lst [V.int n, V.ref p, V.ref q]))
    have m4 := z14 _ _ htt
    have m5 := upd_same (H := upd (upd (upd H e1 (.lst [])) e2 (.dK [])) e3 (.lst [V.int n, V.ref p, V.ref q])) (a := tp) (o := HO.tup [V.non, V.int 5, V.bl true, V.str "house", V.ref e1, V.ref e2, V.ref t, V.ref e3, V.ref fPk])
    have heq5 := paired_imp heq fun _ _ y => Eqt.ext y (ext_of z14)
    have T5 := hT.ext z14
    have E5 : Ext H _ := ext_of z14
    generalize upd (upd (upd (upd H e1 (.lst [])) e2 (.dK [])) e3 (.lst [V.int n, V.ref p, V.ref q])) tp (.tup [V.non, V.int 5, V.bl true, V.str "house", V.ref e1, V.ref e2, V.ref t, V.ref e3, V.ref fPk]) = H5 at m1 m2 m3 m4 m5 heq5 T5 E5 ⊢
    clear z1 z2 z3 z4 z24 z14 heq htt ht hT
    have odds : ∀ x ∈ [V.non, V.int 5, V.bl true, V.str "house", V.ref e1, V.ref e2, V.ref t, V.ref e3, V.ref fPk], Odd K C H5 x := fun x hx => by
      simp only [List.mem_cons, List.not_mem_nil, or_false] at hx
      rcases hx with rfl | rfl | rfl | rfl | rfl | rfl | rfl | rfl | rfl
      · exact odd_atom rfl
      · exact odd_atom rfl
      · exact odd_atom rfl
      · exact odd_atom rfl
      · exact ⟨.inl (.inr (.inl ⟨_, _, rfl, m1⟩)), .inr (.inl ⟨e1, e1, [], [], rfl, rfl, m1, m1, .nil, Nat.zero_le _⟩)⟩
      · exact ⟨.inl (.inr (.inr (.inr ⟨_, _, rfl, m2⟩))), .inr (.inr (.inr ⟨by decide, e2, e2, [], rfl, rfl, m2, m2, (fun p hp => by cases hp), Nat.zero_le _⟩))⟩
      · exact ⟨.inl (.inr (.inr (.inl ⟨_, _, rfl, m4⟩))), .inr (.inr (.inl ⟨t, t, _, _, rfl, rfl, m4, m4, heq5, by show 3 ≤ 1000; decide⟩))⟩
      · exact ⟨.inl (.inr (.inl ⟨_, _, rfl, m3⟩)), .inr (.inl ⟨e3, e3, _, _, rfl, rfl, m3, m3, heq5, by show 3 ≤ 1000; decide⟩)⟩
      · obtain ⟨o, o1, o2⟩ := od
        exact ⟨.inr ⟨fPk, o, rfl, o1, o2⟩, eqt_leaf (.inr (.inl ⟨fPk, o, rfl, o1, o2⟩))⟩
    refine ⟨tp, rfl, ⟨_, SqT.of m5⟩, ?_⟩
    refine for_it (g := gName 1) (walk_tup (xs := [V.non, V.int 5, V.bl true, V.str "house", V.ref e1, V.ref e2, V.ref t, V.ref e3, V.ref fPk])) (fun j σ H' => (∃ x1 x2 : Option V, σ = [some (.ref t), x1, x2, none]) ∧ Ext H5 H' ∧ Tabs T0 H') ⟨⟨none, none, rfl⟩, LamX.ExtN.refl _, T5⟩ (fun i σ H' _ z => SqT.of (z.2.1 _ _ m5 nt_tup)) ?_ ?_
    · rintro j x σ H6 H7 hj ⟨⟨x1, x2, rfl⟩, E6, T6⟩ ⟨rfl, hx⟩
      have ox := (odds x (List.mem_of_getElem? hx)).ext E6
      refine ⟨_, rfl, x, .non, .non, rfl, T6, fun H8 D1 f1 f2 f3 f4 e8 T8 d1 A1 => ⟨_, rfl, x, .non, rfl, T8, fun H9 D2 g1 g2 g3 e9 T9 d2 B2 B3 => ⟨D1, D2, _, _, rfl, rfl, e9 _ _ d1 nt_lst, d2, by show 7 ≤ sizeLine; decide, fun D3 h3 => ?_⟩⟩⟩
      have y3 := same_new (o := HO.lst [V.ref f1, V.ref f2, V.ref f3, V.ref f4, V.ref g1, V.ref g2, V.ref g3]) h3
      refine ⟨T9.ext y3, fun c8 H10 e10 T10 n10 a10 S10 => ⟨by show 1 ≤ sizeLine; decide, fun D4 h4 => ⟨D3, D4, _, _, rfl, rfl, same_new h4 _ _ (e10 _ _ upd_same nt_lst), upd_same, by show 8 ≤ sizeLine; decide, fun D5 h5 => ?_⟩⟩⟩
      have y4 := same_new (o := HO.lst [V.ref c8]) h4
      have y5 := same_new (o := HO.lst ([V.ref f1, V.ref f2, V.ref f3, V.ref f4] ++ [V.ref g1, V.ref g2, V.ref g3] ++ [V.ref c8])) h5
      have x10 := ext_of (y4.trans y5)
      have x9 := ((ext_of y3).trans e10).trans x10
      have x8 := e9.trans x9
      have a12 := a10.ext x10
      have T12 := T10.ext (y4.trans y5)
      have d12 : upd (upd H10 D4 (.lst [V.ref c8])) D5 (.lst ([V.ref f1, V.ref f2, V.ref f3, V.ref f4] ++ [V.ref g1, V.ref g2, V.ref g3] ++ [V.ref c8])) D5 = some (.lst [V.ref f1, V.ref f2, V.ref f3, V.ref f4, V.ref g1, V.ref g2, V.ref g3, V.ref c8]) := upd_same
      have E12 := (E6.trans e8).trans x8
      have ox12 := (ox.ext e8).ext x8
      generalize upd (upd H10 D4 (.lst [V.ref c8])) D5 (.lst ([V.ref f1, V.ref f2, V.ref f3, V.ref f4] ++ [V.ref g1, V.ref g2, V.ref g3] ++ [V.ref c8])) = H12 at x10 x9 x8 a12 T12 d12 E12 ox12 ⊢
      have asks : ∀ y ∈ [V.ref f1, V.ref f2, V.ref f3, V.ref f4, V.ref g1, V.ref g2, V.ref g3, V.ref c8], ∃ f, y = V.ref f ∧ ∀ (H1 : Hp) (c : Addr) (o : Obj), Ext H12 H1 → (cellsFrom (s.heap.objs.size + 1) (defScope sHouR).names []).lookup ("_law_odd" : Str) = some c → H1 c = none →
          ∃ tl, Asks P w K mg base 7 (upd H1 c (.frz o (CelO c x))) f tl ∧ ∀ E Q, NoH K (upd H1 c (.frz o (CelO c x))) x → Out (upd H1 c (.frz o (CelO c x))) E Ch "thing" x → tl E (upd H1 c (.frz o (CelO c x))) Q := fun y hy => by
        simp only [List.mem_cons, List.not_mem_nil, or_false] at hy
        have three : ∀ {H0 : Hp} {f : Addr} {fb : Str} {Cb' : Addr} {lo be : V}, Ext H0 H12 → A3 P w K mg base C Ch Cl Cb' fb x lo be H0 f → ∀ (H1 : Hp) (c : Addr) (o : Obj), Ext H12 H1 → H1 c = none → ∃ tl, Asks P w K mg base 7 (upd H1 c (.frz o (CelO c x))) f tl ∧ ∀ E Q, NoH K (upd H1 c (.frz o (CelO c x))) x → Out (upd H1 c (.frz o (CelO c x))) E Ch "thing" x → tl E (upd H1 c (.frz o (CelO c x))) Q :=
          fun {H0 f fb Cb' lo be} e a H1 c o e1 nc => ⟨_, a.ext ((e.trans e1).trans (ext_of (same_new nc))), fun E Q noh out => .inl (.inl ⟨noh, out⟩)⟩
        have two : ∀ {H0 : Hp} {f : Addr} {lo : V}, Ext H0 H12 → A2 P w K mg base C Ch Cl x lo H0 f → ∀ (H1 : Hp) (c : Addr) (o : Obj), Ext H12 H1 → H1 c = none → ∃ tl, Asks P w K mg base 7 (upd H1 c (.frz o (CelO c x))) f tl ∧ ∀ E Q, NoH K (upd H1 c (.frz o (CelO c x))) x → Out (upd H1 c (.frz o (CelO c x))) E Ch "thing" x → tl E (upd H1 c (.frz o (CelO c x))) Q :=
          fun {H0 f lo} e a H1 c o e1 nc => ⟨_, a.ext ((e.trans e1).trans (ext_of (same_new nc))), fun E Q noh out => .inl ⟨noh, out⟩⟩
        rcases hy with rfl | rfl | rfl | rfl | rfl | rfl | rfl | rfl
        · exact ⟨f1, rfl, fun H1 c o e1 _ nc => three x8 (A1 f1 (by simp)) H1 c o e1 nc⟩
        · exact ⟨f2, rfl, fun H1 c o e1 _ nc => three x8 (A1 f2 (by simp)) H1 c o e1 nc⟩
        · exact ⟨f3, rfl, fun H1 c o e1 _ nc => three x8 (A1 f3 (by simp)) H1 c o e1 nc⟩
        · exact ⟨f4, rfl, fun H1 c o e1 _ nc => three x8 (A1 f4 (by simp)) H1 c o e1 nc⟩
        · exact ⟨g1, rfl, fun H1 c o e1 _ nc => two x9 (B2 g1 (by simp)) H1 c o e1 nc⟩
        · exact ⟨g2, rfl, fun H1 c o e1 _ nc => two x9 (B2 g2 (by simp)) H1 c o e1 nc⟩
        · exact ⟨g3, rfl, fun H1 c o e1 _ nc => three x9 B3 H1 c o e1 nc⟩
        · refine ⟨c8, rfl, fun H1 c o e1 hc nc => ⟨fun E H _ => RfW K C Ch Cm x .non H E, ?_, fun E Q noh out => .inl ⟨noh, out⟩⟩⟩
          exact asks_of (N := ["_law_odd"]) (ws := [x]) ((a12.ext e1).ext (ext_of (same_new nc))) S10 rfl (frB_n (by decide +kernel)) (frB_m (by decide +kernel)) (fun i y u q1 q2 => by
              match i with
              | 0 =>
                cases q1; cases q2
                exact ⟨c, hc, o, upd_same⟩
              | i + 1 => cases q1) (fun _ _ _ => rfl)
            (tb := fun E => tCall (spWorth K C Ch Cm) [] E (tCons (tVar 0) (tCons (tC .non) tNil))) (fun f' c' A' o' s' H' E' hr' => pe_call GWo (hr'.mono (by decide)) (by rfl) gWo FWo.kp bWo .nil (passes_call (takes_of rfl rfl rfl rfl) fun _ _ _ _ h => h) (pa_cons (pv 0) (pa_cons pe_non pa_nil)))
            fun H1 E Q e a t => ⟨_, rfl, t.cut (Q := fun _ _ => True) a nt k0 kc⟩
      clear A1 B2 B3 a12 S10 x10 x9 x8 T8 T9 T10 d1 d2 a10 e8 e9 e10 y3 y4 y5
      refine ⟨_, rfl, D5, rfl, ⟨_, SqL.of d12⟩, fun D6 h6 => ?_⟩
      refine lc_it (walk_list (xs := [V.ref f1, V.ref f2, V.ref f3, V.ref f4, V.ref g1, V.ref g2, V.ref g3, V.ref c8])) (fun i H' => Ext H12 H' ∧ Tabs T0 H' ∧ ∃ acc, H' D6 = some (.lst acc) ∧ acc.length = i ∧ PrsAt H' "house" x acc) ⟨ext_of (same_new h6), T12.ext (same_new h6), [], upd_same, rfl, fun y hy => by cases hy⟩ (fun i H' _ z => SqL.of (z.1 _ _ d12 nt_lst)) ?_ ?_
      · rintro i y H13 H14 hi ⟨e14, T14, acc, a14, l14, p14⟩ ⟨rfl, hy⟩
        dsimp only [tYes]
        refine ⟨rfl, iteT ⟨_, rfl, x, rfl, fun c o hc nc => ?_⟩⟩
        obtain ⟨f, rfl, hf⟩ := asks y (List.mem_of_getElem? hy)
        obtain ⟨tl, as, use⟩ := hf _ c o e14 hc nc
        have sc := same_new (o := HO.frz o (CelO c x)) nc
        refine ⟨f, tl, rfl, as, use _ _ ((ox12.1.ext e14).ext (ext_of sc)) fun d H15 nd sm hd => .inl ⟨rfl, d, x, rfl, hd, two_fit, fun t2 ht2 => ?_⟩⟩
        have st := same_new (o := HO.tup [V.str "house", x]) ht2
        have e15 := ext_cut (cs := [c]) (ext_of ((sc.trans sm).trans st)) (fun d hd => by rw [List.mem_singleton.mp hd]; exact nc)
        have hcz : upd H15 t2 (.tup [.str "house", x]) c = some (.frz o (CelO c x)) := st _ _ (sm _ _ upd_same)
        have T15 := tabs_cut (T14.ext ((sc.trans sm).trans st)) hcz
        have ntc : t2 ≠ c := fun z => by
          rw [z] at ht2
          rw [sm _ _ upd_same] at ht2
          cases ht2
        have t15 : cutC (upd H15 t2 (.tup [.str "house", x])) [c] t2 = some (.tup [.str "house", x]) := by
          rw [cutC_no (fun z => ntc (List.mem_singleton.mp z))]
          exact upd_same
        dsimp only
        generalize cutC (upd H15 t2 (.tup [.str "house", x])) [c] = H16 at e15 T15 t15 ⊢
        have d16 := e15 _ _ a14 nt_lst
        refine ⟨acc, d16, small1000 (by rw [l14]; exact Nat.le_trans (Nat.le_of_lt hi) (by show 8 ≤ 1000; decide)), ext_upd (e14.trans e15) h6, tabs_lst T15 d16, acc ++ [.ref t2], upd_same, by rw [List.length_append, l14]; rfl, fun y hy => ?_⟩
        rcases List.mem_append.mp hy with hy | hy
        · obtain ⟨t3, rfl, h3⟩ := p14 y hy
          have h3' := e15 _ _ h3 nt_tup
          exact ⟨t3, rfl, by rw [upd_ne (ne_of h3' d16 fun z => by cases z)]; exact h3'⟩
        · exact ⟨t2, List.mem_singleton.mp hy, by rw [upd_ne (ne_of t15 d16 fun z => by cases z)]; exact t15⟩
      · rintro H13 ⟨e13, T13, acc, a13, l13, p13⟩
        have l13 : acc.length = 8 := l13
        refine ⟨_, rfl, two_fit, fun u hu => ⟨by show 1 ≤ sizeLine; decide, fun D7 h7 => ⟨_, rfl, D5, _, rfl, .inl (SqL.of (same_new h7 _ _ (same_new hu _ _ (e13 _ _ d12 nt_lst)))), D7, _, _, rfl, rfl, upd_same, by show -2 ^ 63 ≤ ((8 : Nat) : Int); decide, by show ((8 : Nat) : Int) < 2 ^ 63; decide, by show 1 * (((8 : Nat) : Int)).toNat ≤ sizeLine; decide, fun D8 h8 => ?_⟩⟩⟩
        have w1 := same_new (o := HO.tup [V.str "house", x]) hu
        have w2 := same_new (o := HO.lst [V.ref u]) h7
        have w3 := same_new (o := HO.lst (List.replicate (((8 : Nat) : Int)).toNat [V.ref u]).flatten) h8
        have w13 := (w1.trans w2).trans w3
        have ox16 := (ox12.ext e13).ext (ext_of w13)
        refine ⟨_, _, rfl, .inr (.inl ⟨D6, D8, acc, _, rfl, rfl, w13 _ _ a13, upd_same, ?_, by rw [l13]; decide⟩), fun H17 s17 => ⟨_, rfl, iteF ⟨⟨_, _, rfl⟩, (E12.trans e13).trans (ext_of (w13.trans s17)), T13.ext (w13.trans s17)⟩⟩⟩
        have z := (p13.ext (ext_of w13)).eqt ox16.2 (u := u) ((w2.trans w3) _ _ upd_same)
        rw [l13] at z
        rw [flat_one]
        exact z
    · rintro σ H6 ⟨⟨x1, x2, rfl⟩, E6, T6⟩
      exact fin H6 (E5.trans E6) T6
end
end K17

set_option Elab.async false
set_option linter.all false
set_option maxRecDepth 100000
set_option maxHeartbeats 8000000
namespace K17
open PySem PySem.Spec PyProof.Rows L2 Own LamX
/-! _law_no_lots, _law_lot, _law_handed -/
theorem scNL : FnScope ["_law_stream_here", "_law_house_here", "_law_many", "_law_found"] ["_law_stream_here", "_law_house_here"] (defScope sNoLots) := ⟨rfl, rfl, rfl, by decide +kernel, rfl, by decide +kernel, by decide +kernel⟩
theorem scLt : FnScope ["_law_stream_here", "_law_house_here", "_law_some"] ["_law_stream_here", "_law_house_here"] (defScope sLot) := ⟨rfl, rfl, rfl, by decide +kernel, rfl, by decide +kernel, by decide +kernel⟩
theorem scHa : FnScope ["_law_stream_here", "_law_lot_here"] ["_law_stream_here", "_law_lot_here"] (defScope sHanded) := ⟨rfl, rfl, rfl, by decide +kernel, rfl, by decide +kernel, by decide +kernel⟩
/-- which lists of numbers are lots -/
theorem lot_iff {m : Int} : ∀ {ns seen : List Int}, isLotL m seen (ns.map V.int) = true ↔ ns.Nodup ∧ (∀ x ∈ ns, x ∉ seen) ∧ ∀ x ∈ ns, 0 ≤ x ∧ x < m
  | [], seen => ⟨fun _ => ⟨.nil, (fun _ h => by cases h), fun _ h => by cases h⟩, fun _ => rfl⟩
  | i :: r, seen => by
    show ((decide (0 ≤ i) && (decide (i < m) && !decide (i ∈ seen))) && isLotL m (seen ++ [i]) (r.map V.int)) = true ↔ _
    rw [Bool.and_eq_true, lot_iff (ns := r) (seen := seen ++ [i])]
    simp only [Bool.and_eq_true, decide_eq_true_eq, Bool.not_eq_true', decide_eq_false_iff_not, List.mem_cons, List.mem_append, List.nodup_cons, List.not_mem_nil, or_false, not_or, forall_eq_or_imp]
    constructor
    · rintro ⟨⟨h0, h1, h2⟩, h3, h4, h5⟩
      exact ⟨⟨fun z => (h4 i z).2 rfl, h3⟩, ⟨h2, fun x hx => (h4 x hx).1⟩, ⟨h0, h1⟩, h5⟩
    · rintro ⟨⟨h0, h1⟩, ⟨h2, h3⟩, ⟨h4, h5⟩, h6⟩
      exact ⟨⟨h4, h5, h2⟩, h1, fun x hx => ⟨h3 x hx, fun z => h0 (by rw [← z]; exact hx)⟩, h6⟩
theorem seq_ext {H H' : Hp} {v : V} (h : Shp H v) (e : Ext H H') : seqOf H' v = seqOf H v := by
  rcases h with h | ⟨a, xs, rfl, h⟩ | ⟨a, xs, rfl, h⟩ | ⟨a, xs, rfl, h⟩
  · cases v <;> first | rfl | cases h
  · show (match H' a with | some (.lst xs) => some xs | some (.tup xs) => some xs | _ => none) = (match H a with | some (.lst xs) => some xs | some (.tup xs) => some xs | _ => none)
    rw [h, e _ _ h nt_lst]
  · show (match H' a with | some (.lst xs) => some xs | some (.tup xs) => some xs | _ => none) = (match H a with | some (.lst xs) => some xs | some (.tup xs) => some xs | _ => none)
    rw [h, e _ _ h nt_tup]
  · show (match H' a with | some (.lst xs) => some xs | some (.tup xs) => some xs | _ => none) = (match H a with | some (.lst xs) => some xs | some (.tup xs) => some xs | _ => none)
    rw [h, e _ _ h nt_dK]
theorem Lotty.ext {H H' : Hp} {v : V} (h : Lotty H v) (e : Ext H H') : Lotty H' v := ⟨h.1.ext e, fun xs z => by
  rw [seq_ext h.1 e] at z
  exact ⟨fun y hy => ((h.2 xs z).1 y hy).ext e, (h.2 xs z).2⟩⟩
/-- a thing that is no lot, and is the same as itself -/
structure NoL (K : PySem.W.Frag) (C : Addr) (m : Int) (H : Hp) (x : V) : Prop where
  sh : Lotty H x
  no : isLot m (seqOf H x) = false
  eq : Eqt K C 8 H x x
theorem NoL.ext {K : PySem.W.Frag} {C : Addr} {m : Int} {H H' : Hp} {x : V} (h : NoL K C m H x) (e : Ext H H') : NoL K C m H' x := ⟨h.sh.ext e, by rw [seq_ext h.sh.1 e]; exact h.no, h.eq.ext e⟩
theorem noL_atom {K : PySem.W.Frag} {C : Addr} {m : Int} {H : Hp} {x : V} (h : atomV x = true) : NoL K C m H x := by
  have z : seqOf H x = none := by
    cases x <;> first | rfl | cases h
  exact ⟨⟨.inl h, fun xs y => by rw [z] at y; cases y⟩, by rw [z]; rfl, eqt_atom h⟩
theorem noL_dK {K : PySem.W.Frag} {C : Addr} {m : Int} {H : Hp} {a : Addr} {kvs : List (Key × V)} (h : H a = some (.dK kvs)) (hv : ∀ p ∈ kvs, atomV p.2 = true) (hl : kvs.length ≤ 1000) : NoL K C m H (.ref a) := by
  have z : seqOf H (.ref a) = none := by
    show (match H a with | some (.lst xs) => some xs | some (.tup xs) => some xs | _ => none) = none
    rw [h]
  exact ⟨⟨.inr (.inr (.inr ⟨a, kvs, rfl, h⟩)), fun xs y => by rw [z] at y; cases y⟩, by rw [z]; rfl, .inr (.inr (.inr ⟨by decide, a, a, kvs, rfl, rfl, h, h, hv, hl⟩))⟩
theorem noL_sq {K : PySem.W.Frag} {C : Addr} {m : Int} {H : Hp} {a : Addr} {xs : List V} (h : Sqs H a xs) (hs : ∀ y ∈ xs, Shp H y) (hl : xs.length ≤ 1000) (no : isLotL m [] xs = false) (eq : Paired (Eqt K C 7 H) xs xs) : NoL K C m H (.ref a) := by
  refine ⟨⟨?_, fun ys y => ?_⟩, by rw [h.seq]; exact no, ?_⟩
  · exact h.elim (fun h => .inr (.inl ⟨a, xs, rfl, h⟩)) fun h => .inr (.inr (.inl ⟨a, xs, rfl, h⟩))
  · rw [h.seq] at y
    rw [← Option.some.inj y]
    exact ⟨hs, hl⟩
  · exact h.elim (fun h => .inr (.inl ⟨a, a, xs, xs, rfl, rfl, h, h, eq, hl⟩)) fun h => .inr (.inr (.inl ⟨a, a, xs, xs, rfl, rfl, h, h, eq, hl⟩))
theorem atoms_eqt {K : PySem.W.Frag} {C : Addr} {n : Nat} {H : Hp} : ∀ {xs : List V}, (∀ y ∈ xs, atomV y = true) → Paired (Eqt K C n H) xs xs
  | [], _ => .nil
  | y :: xs, h => .cons (eqt_atom (h y List.mem_cons_self)) (atoms_eqt fun u hu => h u (List.mem_cons_of_mem _ hu))
theorem noL_at {K : PySem.W.Frag} {C : Addr} {m : Int} {H : Hp} {a : Addr} {xs : List V} (h : Sqs H a xs) (ha : ∀ y ∈ xs, atomV y = true) (hl : xs.length ≤ 1000) (no : isLotL m [] xs = false) : NoL K C m H (.ref a) := noL_sq h (fun y hy => .inl (ha y hy)) hl no (atoms_eqt ha)
/-- numbers told twice are no lot -/
theorem no_twice {m : Int} {ns : List Int} (h : ¬ ns.Nodup) : isLotL m [] (ns.map V.int) = false := by
  cases z : isLotL m [] (ns.map V.int) with
  | false => rfl
  | true => exact absurd (lot_iff.mp z).1 h
theorem rg_map (m : Nat) : rgV 0 (m : Int) = ((List.range m).map fun i => ((i : Nat) : Int)).map V.int := by
  unfold rgV
  rw [List.map_map, show ((m : Int) - 0).toNat = m by omega]
  refine List.map_congr_left fun i _ => ?_
  show V.int (0 + (i : Int)) = V.int (i : Int)
  rw [Int.zero_add]
section
variable {P : Program} {w : World} {K : PySem.W.Frag} {mg : Str → Option Value} {base : Heap} {C : Addr}
def spNL (K : PySem.W.Frag) (C : Addr) : Sp := fun vs H Q _ => ∃ (a l t : Addr) (N n : Int) (rt dt : List (List V)), vs = [.ref a, .ref t] ∧ Strm N H a l ∧ 0 ≤ N ∧ N + 10 ≤ 1000000000 ∧ HT a l H t n rt dt ∧ 2 ≤ dt.length ∧ dt.length ≤ 15 ∧
  ∀ H' D xs, Go a l H H' → H' D = some (.lst xs) → xs.length ≤ 20 → (∀ x ∈ xs, NoL K C dt.length H' x) → Strm (N + 10) H' a l → Q (.ref D) H'
theorem ok_nl {f fD fLo : Addr} {fd fdD fdLo : FuncData} (F : Fun K "_law_no_lots" "_law_no_lots" sNoLots f fd) (T : Bt mg) (FD : Fun K "_law_draw" "_law_draw" sDraw fD fdD) (gD : mg "_law_draw" = some (.ref fD)) (bD : Binds K fdD ["_law_stream_here", "_law_many"] [])
    (FLo : Fun K "_law_loose" "_law_loose" sLoose fLo fdLo) (gLo : mg "_law_loose" = some (.ref fLo)) (bLo : Binds K fdLo ["_law_stream_here", "_law_thing"] []) (GLo : FnOk P w K mg base CX0 3 fLo fdLo ["_law_stream_here", "_law_thing"] spLo1) :
    FnOk P w K mg base CX0 4 f fd ["_law_stream_here", "_law_house_here"] (spNL K C) := by
  have GD : FnOk P w K mg base CX0 1 fD fdD ["_law_stream_here", "_law_many"] spDraw := ok_draw FD T
  refine F.ok scNL (fun vs H Q E h => ?_) (fun cdv A outer s H vs Q E hr h => ?_)
  · obtain ⟨a, l, t, N, n, rt, dt, rfl, _⟩ := h
    rfl
  · obtain ⟨a, l, t, N, n, rt, dt, rfl, S, n0, n1, ht, m2, m15, fin⟩ := h
    refine ⟨_, (pss_cons (ps_set (i := 2) scNL.nd rfl (Or.inl rfl) (pe_callB call_len_seq (by rfl) T.len (by decide +kernel) (pa_cons (pe_ix ix_tup (pv 1) pe_int (fun _ _ => rfl)) pa_nil)))
  (pss_cons (ps_set (i := 3) scNL.nd rfl (Or.inl rfl) (pe_lst (pa_cons pe_non (pa_cons pe_int (pa_cons pe_bl (pa_cons pe_str (pa_cons pe_str (pa_cons pe_dnewK (pa_cons (pe_lst (pa_cons (pv 2) pa_nil)) (pa_cons (pe_lst (pa_cons pe_int (pa_cons (pv 2) pa_nil))) (pa_cons (pe_lst (pa_cons (pe_un un_neg pe_int) pa_nil)) (pa_cons (pe_lst (pa_cons pe_bl pa_nil)) (pa_cons (pe_lst (pa_cons pe_str pa_nil)) (pa_cons (pe_lst (pa_cons pe_non pa_nil)) (pa_cons (pe_lst (pa_cons (pe_lst (pa_cons pe_int pa_nil)) pa_nil)) (pa_cons (pe_lst (pa_cons pe_int (pa_cons pe_int pa_nil))) (pa_cons (pe_tup (pa_cons pe_int (pa_cons pe_int (pa_cons pe_int pa_nil)))) pa_nil)))))))))))))))))
  (pss_one (ps_ret (pe_op op_cat (pv 3) (pe_lst (pa_cons (pe_call GLo (hr.mono (by decide)) (by rfl) gLo FLo.kp bLo .nil pass0 (pa_cons (pv 0) (pa_cons (pe_op op_cat (pe_listRg rfl (by rfl) T.list (prg_1 (by rfl) T.range (pv 2))) (pe_lst (pa_cons (pe_call GD (hr.mono (by decide)) (by rfl) gD FD.kp bD .nil pass0 (pa_cons (pv 0) (pa_cons (pv 2) pa_nil))) pa_nil))) pa_nil))) (pa_cons (pe_callTy (call_dictP rfl) (by rfl) T.dict (by decide +kernel) (pa_cons (pe_lst (pa_cons (pe_tup (pa_cons pe_int (pa_cons pe_int pa_nil))) pa_nil)) pa_nil)) pa_nil)))))))), ?_⟩
    obtain ⟨p, q, rs, ds, htt, hp, hq, tr, td⟩ := ht.ex
    have ld := td.len
    refine ⟨_, rfl, t, _, 2, _, rfl, rfl, SqT.of htt, rfl, q, ds, rfl, .inl (SqL.of hq.h), ?_⟩
    rw [ld]
    clear ht hp hq tr td ld htt
    generalize dt.length = m at m2 m15 fin ⊢
    refine fun e1 h1 => ⟨_, rfl, by show 1 ≤ sizeLine; decide, fun e2 h2 => ⟨_, rfl, two_fit, fun e3 h3 => ⟨_, rfl, by show 1 ≤ sizeLine; decide, fun e4 h4 => ⟨by show 1 ≤ sizeLine; decide, fun e5 h5 => ⟨by show 1 ≤ sizeLine; decide, fun e6 h6 => ⟨by show 1 ≤ sizeLine; decide, fun e7 h7 => ⟨by show 1 ≤ sizeLine; decide, fun e8 h8 => ⟨by show 1 ≤ sizeLine; decide, fun e9 h9 => ⟨two_fit, fun e10 h10 => ⟨three_fit, fun e11 h11 => ⟨by show 15 ≤ sizeLine; decide, fun D h12 => ?_⟩⟩⟩⟩⟩⟩⟩⟩⟩⟩⟩
    have s1 := same_new (o := HO.dK ([] : List (Key × V))) h1
    have s2 := same_new (o := HO.lst [V.int (m : Int)]) h2
    have s3 := same_new (o := HO.lst [V.int 0, V.int (m : Int)]) h3
    have s4 := same_new (o := HO.lst [V.int (-1)]) h4
    have s5 := same_new (o := HO.lst [V.bl true]) h5
    have s6 := same_new (o := HO.lst [V.str "0"]) h6
    have s7 := same_new (o := HO.lst [V.non]) h7
    have s8 := same_new (o := HO.lst [V.int 0]) h8
    have s9 := same_new (o := HO.lst [V.ref e8]) h9
    have s10 := same_new (o := HO.lst [V.int 0, V.int 0]) h10
    have s11 := same_new (o := HO.tup [V.int 1, V.int 0, V.int 1]) h11
    have s12 := same_new (o := HO.lst [V.non, V.int 5, V.bl true, V.str "0", V.str "", V.ref e1, V.ref e2, V.ref e3, V.ref e4, V.ref e5, V.ref e6, V.ref e7, V.ref e9, V.ref e10, V.ref e11]) h12
    have y1 := s1
    have n1' := S.ne_new h1
    have n2' := (S.but y1).ne_new h2
    have y2 := y1.trans s2
    have n3' := (S.but y2).ne_new h3
    have y3 := y2.trans s3
    have n4' := (S.but y3).ne_new h4
    have y4 := y3.trans s4
    have n5' := (S.but y4).ne_new h5
    have y5 := y4.trans s5
    have n6' := (S.but y5).ne_new h6
    have y6 := y5.trans s6
    have n7' := (S.but y6).ne_new h7
    have y7 := y6.trans s7
    have n8' := (S.but y7).ne_new h8
    have y8 := y7.trans s8
    have n9' := (S.but y8).ne_new h9
    have y9 := y8.trans s9
    have n10' := (S.but y9).ne_new h10
    have y10 := y9.trans s10
    have n11' := (S.but y10).ne_new h11
    have y11 := y10.trans s11
    have n12' := (S.but y11).ne_new h12
    have y12 := y11.trans s12
    have z12 := s12
    have z11 := s11.trans z12
    have z10 := s10.trans z11
    have z9 := s9.trans z10
    have z8 := s8.trans z9
    have z7 := s7.trans z8
    have z6 := s6.trans z7
    have z5 := s5.trans z6
    have z4 := s4.trans z5
    have z3 := s3.trans z4
    have z2 := s2.trans z3
    have z1 := s1.trans z2
    have k1 := z2 _ _ (upd_same (a := e1) (o := HO.dK ([] : List (Key × V))))
    have k2 := z3 _ _ (upd_same (a := e2) (o := HO.lst [V.int (m : Int)]))
    have k3 := z4 _ _ (upd_same (a := e3) (o := HO.lst [V.int 0, V.int (m : Int)]))
    have k4 := z5 _ _ (upd_same (a := e4) (o := HO.lst [V.int (-1)]))
    have k5 := z6 _ _ (upd_same (a := e5) (o := HO.lst [V.bl true]))
    have k6 := z7 _ _ (upd_same (a := e6) (o := HO.lst [V.str "0"]))
    have k7 := z8 _ _ (upd_same (a := e7) (o := HO.lst [V.non]))
    have k8 := z9 _ _ (upd_same (a := e8) (o := HO.lst [V.int 0]))
    have k9 := z10 _ _ (upd_same (a := e9) (o := HO.lst [V.ref e8]))
    have k10 := z11 _ _ (upd_same (a := e10) (o := HO.lst [V.int 0, V.int 0]))
    have k11 := z12 _ _ (upd_same (a := e11) (o := HO.tup [V.int 1, V.int 0, V.int 1]))
    have k12 := upd_same (H := (upd (upd (upd (upd (upd (upd (upd (upd (upd (upd (upd H e1 (.dK [])) e2 (.lst [V.int (m : Int)])) e3 (.lst [V.int 0, V.int (m : Int)])) e4 (.lst [V.int (-1)])) e5 (.lst [V.bl true])) e6 (.lst [V.str "0"])) e7 (.lst [V.non])) e8 (.lst [V.int 0])) e9 (.lst [V.ref e8])) e10 (.lst [V.int 0, V.int 0])) e11 (.tup [V.int 1, V.int 0, V.int 1]))) (a := D) (o := HO.lst [V.non, V.int 5, V.bl true, V.str "0", V.str "", V.ref e1, V.ref e2, V.ref e3, V.ref e4, V.ref e5, V.ref e6, V.ref e7, V.ref e9, V.ref e10, V.ref e11])
    have S12 := S.but z1
    have g12 : Go a l H _ := Go.same z1
    generalize upd (upd (upd (upd (upd (upd (upd (upd (upd (upd (upd (upd H e1 (.dK [])) e2 (.lst [V.int (m : Int)])) e3 (.lst [V.int 0, V.int (m : Int)])) e4 (.lst [V.int (-1)])) e5 (.lst [V.bl true])) e6 (.lst [V.str "0"])) e7 (.lst [V.non])) e8 (.lst [V.int 0])) e9 (.lst [V.ref e8])) e10 (.lst [V.int 0, V.int 0])) e11 (.tup [V.int 1, V.int 0, V.int 1])) D (.lst [V.non, V.int 5, V.bl true, V.str "0", V.str "", V.ref e1, V.ref e2, V.ref e3, V.ref e4, V.ref e5, V.ref e6, V.ref e7, V.ref e9, V.ref e10, V.ref e11]) = G at k1 k2 k3 k4 k5 k6 k7 k8 k9 k10 k11 k12 S12 g12 ⊢
    clear y1 y2 y3 y4 y5 y6 y7 y8 y9 y10 y11 y12
    clear s1 s2 s3 s4 s5 s6 s7 s8 s9 s10 s11 s12 z1 z2 z3 z4 z5 z6 z7 z8 z9 z10 z11 z12 h1 h2 h3 h4 h5 h6 h7 h8 h9 h10 h11 h12
    refine ⟨_, rfl, _, rfl, _, rfl, _, rfl, .of_le (by omega) (by omega) (by omega) (by omega), fun r1 h1 => ?_⟩
    have s1 := same_new (o := HO.lst (rgV 0 (m : Int))) h1
    refine ⟨_, rfl, _, rfl, a, l, N, m, rfl, S12.but s1, n0, by omega, by omega, by omega, fun H2 d d0 d1 b2 S2 => ⟨by show 1 ≤ sizeLine; decide, fun r2 h2 => ?_⟩⟩
    have nr1 := S12.ne_new h1
    have hr1 := b2 _ _ nr1.1 nr1.2 (upd_same (H := G) (a := r1) (o := HO.lst (rgV 0 (m : Int))))
    have s2 := same_new (o := HO.lst [V.int d]) h2
    refine ⟨r1, r2, _, _, rfl, rfl, s2 _ _ hr1, upd_same, by rw [rgV_length]; exact Nat.le_of_lt (small1000 (by show _ + 1 ≤ 1000; omega)), fun r3 h3 => ?_⟩
    obtain ⟨e, rfl⟩ := Int.eq_ofNat_of_zero_le d0
    have hrg : rgV 0 (m : Int) ++ [V.int (e : Int)] = (((List.range m).map fun i => ((i : Nat) : Int)) ++ [(e : Int)]).map V.int := by
      rw [List.map_append, ← rg_map]
      rfl
    have twice : ¬ (((List.range m).map fun i => ((i : Nat) : Int)) ++ [(e : Int)]).Nodup := fun z => by
      rw [List.nodup_append] at z
      exact z.2.2 (e : Int) (List.mem_map.mpr ⟨e, List.mem_range.mpr (by omega), rfl⟩) (e : Int) List.mem_cons_self rfl
    have s3 := same_new (o := HO.lst (rgV 0 (m : Int) ++ [V.int (e : Int)])) h3
    have S3 := (S2.but s2).but s3
    have n3 := (S2.but s2).ne_new h3
    have len3 : (rgV 0 (m : Int) ++ [V.int (e : Int)]).length ≤ 20 := by
      rw [List.length_append, rgV_length]
      show _ + 1 ≤ 20
      omega
    have int3 : ∀ y ∈ rgV 0 (m : Int) ++ [V.int (e : Int)], ∃ i : Int, y = V.int i := fun y hy => by
      rw [hrg] at hy
      obtain ⟨i, _, rfl⟩ := List.mem_map.mp hy
      exact ⟨i, rfl⟩
    refine ⟨a, l, _, .ref r3, _, rfl, S3, by omega, by omega, ⟨r3, rfl, n3.1, n3.2, .inl upd_same⟩, fun y hy => ?_, len3, fun H4 b g4 hb na nl hs S4 => ⟨two_fit, fun t1 h5 => ⟨by show 1 ≤ sizeLine; decide, fun t2 h6 => ?_⟩⟩⟩
    · obtain ⟨i, rfl⟩ := int3 y hy
      rfl
    have s5 := same_new (o := HO.tup [V.int 0, V.int 0]) h5
    have s6 := same_new (o := HO.lst [V.ref t1]) h6
    refine ⟨t2, [t1], [(Sum.inl 0, .int 0)], rfl, SqL.of upd_same, .cons (SqT.of (s6 _ _ upd_same)) .nil, fun dc h7 => ⟨two_fit, fun t3 h8 => ?_⟩⟩
    have s7 := same_new (o := HO.dK (mergeK [] [(Sum.inl 0, V.int 0)])) h7
    have s8 := same_new (o := HO.lst [V.ref b, V.ref dc]) h8
    have s58 := (s5.trans s6).trans (s7.trans s8)
    have gG : Go a l G H4 := ((((Go.same s1).trans (Go.but (S12.but s1) b2)).trans (Go.same (s2.trans s3))).trans g4)
    have gF : Go a l G _ := gG.trans (Go.same s58)
    have q1 := gF.k _ _ n1'.1 n1'.2 k1
    have q2 := gF.k _ _ n2'.1 n2'.2 k2
    have q3 := gF.k _ _ n3'.1 n3'.2 k3
    have q4 := gF.k _ _ n4'.1 n4'.2 k4
    have q5 := gF.k _ _ n5'.1 n5'.2 k5
    have q6 := gF.k _ _ n6'.1 n6'.2 k6
    have q7 := gF.k _ _ n7'.1 n7'.2 k7
    have q8 := gF.k _ _ n8'.1 n8'.2 k8
    have q9 := gF.k _ _ n9'.1 n9'.2 k9
    have q10 := gF.k _ _ n10'.1 n10'.2 k10
    have q11 := gF.k _ _ n11'.1 n11'.2 k11
    have q12 := gF.k _ _ n12'.1 n12'.2 k12
    refine ⟨D, t3, _, _, rfl, rfl, q12, upd_same, by show 17 ≤ sizeLine; decide, fun r5 h9 => ?_⟩
    have s9 := same_new (o := HO.lst ([V.non, V.int 5, V.bl true, V.str "0", V.str "", V.ref e1, V.ref e2, V.ref e3, V.ref e4, V.ref e5, V.ref e6, V.ref e7, V.ref e9, V.ref e10, V.ref e11] ++ [V.ref b, V.ref dc])) h9
    refine fin _ r5 _ ((g12.trans gF).trans (Go.same s9)) upd_same (by show 17 ≤ 20; decide) (fun x hx => ?_) ((S4.but (s58.trans s9)).mono (by omega))
    have lift : ∀ {x : V}, NoL K C m _ x → NoL K C m _ x := fun {x} h => h.ext (ext_of s9)
    refine lift ?_
    simp only [List.mem_append, List.mem_cons, List.not_mem_nil, or_false] at hx
    rcases hx with (rfl | rfl | rfl | rfl | rfl | rfl | rfl | rfl | rfl | rfl | rfl | rfl | rfl | rfl | rfl) | (rfl | rfl)
    · exact noL_atom rfl
    · exact noL_atom rfl
    · exact noL_atom rfl
    · exact noL_atom rfl
    · exact noL_atom rfl
    · exact noL_dK q1 (fun p hp => by cases hp) (Nat.zero_le _)
    · refine noL_at (.inl q2) (fun y hy => by simp only [List.mem_cons, List.not_mem_nil, or_false] at hy; subst hy; rfl) (by show 1 ≤ 1000; decide) ?_
      show ((decide (0 ≤ (m : Int)) && (decide ((m : Int) < m) && _)) && _) = false
      rw [decide_eq_false (Int.lt_irrefl _), Bool.false_and, Bool.and_false, Bool.false_and]
    · refine noL_at (.inl q3) (fun y hy => by simp only [List.mem_cons, List.not_mem_nil, or_false] at hy; rcases hy with rfl | rfl <;> rfl) (by show 2 ≤ 1000; decide) ?_
      cases z : isLotL m [] [V.int 0, V.int (m : Int)] with
      | false => rfl
      | true =>
        have y := (lot_iff (ns := [0, (m : Int)]).mp z).2.2 (m : Int) (by simp)
        omega
    · refine noL_at (.inl q4) (fun y hy => by simp only [List.mem_cons, List.not_mem_nil, or_false] at hy; subst hy; rfl) (by show 1 ≤ 1000; decide) rfl
    · refine noL_at (.inl q5) (fun y hy => by simp only [List.mem_cons, List.not_mem_nil, or_false] at hy; subst hy; rfl) (by show 1 ≤ 1000; decide) rfl
    · refine noL_at (.inl q6) (fun y hy => by simp only [List.mem_cons, List.not_mem_nil, or_false] at hy; subst hy; rfl) (by show 1 ≤ 1000; decide) rfl
    · refine noL_at (.inl q7) (fun y hy => by simp only [List.mem_cons, List.not_mem_nil, or_false] at hy; subst hy; rfl) (by show 1 ≤ 1000; decide) rfl
    · refine noL_sq (.inl q9) (fun y hy => by simp only [List.mem_cons, List.not_mem_nil, or_false] at hy; subst hy; exact .inr (.inl ⟨e8, _, rfl, q8⟩)) (by show 1 ≤ 1000; decide) rfl (.cons (.inr (.inl ⟨e8, e8, _, _, rfl, rfl, q8, q8, .cons (eqt_atom rfl) .nil, by show 1 ≤ 1000; decide⟩)) .nil)
    · refine noL_at (.inl q10) (fun y hy => by simp only [List.mem_cons, List.not_mem_nil, or_false] at hy; rcases hy with rfl | rfl <;> rfl) (by show 2 ≤ 1000; decide) ?_
      exact no_twice (ns := [0, 0]) (by decide)
    · refine noL_at (.inr q11) (fun y hy => by simp only [List.mem_cons, List.not_mem_nil, or_false] at hy; rcases hy with rfl | rfl | rfl <;> rfl) (by show 3 ≤ 1000; decide) ?_
      exact no_twice (ns := [1, 0, 1]) (by decide)
    · refine noL_at ?_ (fun y hy => ?_) (Nat.le_trans len3 (by decide)) ?_
      · exact hs.imp (fun h => s58 _ _ h) fun h => s58 _ _ h
      · obtain ⟨i, rfl⟩ := int3 y hy
        rfl
      · rw [hrg]
        exact no_twice twice
    · exact noL_dK (s8 _ _ upd_same) (fun p hp => by
        have z : p = (Sum.inl 0, V.int 0) := by
          have hp : p ∈ [((Sum.inl 0 : Key), V.int 0)] := hp
          exact List.mem_singleton.mp hp
        rw [z]
        rfl) (by show 1 ≤ 1000; decide)
/-- so many of the doors, ascending -/
def spLt : Sp := fun vs H Q _ => ∃ (a l t : Addr) (N n : Int) (rt dt : List (List V)), vs = [.ref a, .ref t] ∧ Strm N H a l ∧ 0 ≤ N ∧ N + 200 ≤ 1000000000 ∧ HT a l H t n rt dt ∧ dt.length ≤ 15 ∧
  ∀ H' D (ns : List Int), Go a l H H' → H D = none → H' D = some (.lst (ns.map V.int)) → isLotL dt.length [] (ns.map V.int) = true → ns.length ≤ 15 → Strm (N + 200) H' a l → Q (.ref D) H'
def spHa : Sp := fun vs H Q _ => ∃ (a l D : Addr) (N : Int) (ns : List Int) (m : Int), vs = [.ref a, .ref D] ∧ Strm N H a l ∧ 0 ≤ N ∧ N + 200 ≤ 1000000000 ∧ D ≠ a ∧ D ≠ l ∧ H D = some (.lst (ns.map V.int)) ∧ isLotL m [] (ns.map V.int) = true ∧ ns.length ≤ 15 ∧
  ∀ H' b (ms : List Int), Go a l H H' → H b = none → b ≠ a → b ≠ l → Sqs H' b (ms.map V.int) → isLotL m [] (ms.map V.int) = true → ms.length ≤ 15 → Strm (N + 200) H' a l → Q (.ref b) H'
theorem cut_sub {ns : List Int} {lo hi : Option Int} : ∃ ms : List Int, cutV (ns.map V.int) lo hi = ms.map V.int ∧ ms.Sublist ns := by
  unfold cutV
  rw [← List.map_drop, ← List.map_take]
  exact ⟨_, rfl, (List.take_sublist _ _).trans (List.drop_sublist _ _)⟩
theorem ok_lt {f fD fMx : Addr} {fd fdD fdMx : FuncData} (F : Fun K "_law_lot" "_law_lot" sLot f fd) (T : Bt mg) (zSo : mg "sorted" = none) (FD : Fun K "_law_draw" "_law_draw" sDraw fD fdD) (gD : mg "_law_draw" = some (.ref fD)) (bD : Binds K fdD ["_law_stream_here", "_law_many"] [])
    (FMx : Fun K "_law_mixed" "_law_mixed" sMixed fMx fdMx) (gMx : mg "_law_mixed" = some (.ref fMx)) (bMx : Binds K fdMx ["_law_stream_here", "_law_things"] []) :
    FnOk P w K mg base CX0 3 f fd ["_law_stream_here", "_law_house_here"] spLt := by
  have GD : FnOk P w K mg base CX0 1 fD fdD ["_law_stream_here", "_law_many"] spDraw := ok_draw FD T
  have GMx : FnOk P w K mg base CX0 2 fMx fdMx ["_law_stream_here", "_law_things"] spMixed := ok_mixed FMx T FD gD bD
  refine F.ok scLt (fun vs H Q E h => ?_) (fun cdv A outer s H vs Q E hr h => ?_)
  · obtain ⟨a, l, t, N, n, rt, dt, rfl, _⟩ := h
    rfl
  · obtain ⟨a, l, t, N, n, rt, dt, rfl, S, n0, n1, ht, m15, fin⟩ := h
    refine ⟨_, (pss_cons (ps_set (i := 2) scLt.nd rfl (Or.inl rfl) (pe_call GMx (hr.mono (by decide)) (by rfl) gMx FMx.kp bMx .nil pass0 (pa_cons (pv 0) (pa_cons (pe_listRg rfl (by rfl) T.list (prg_1 (by rfl) T.range (pe_callB call_len_seq (by rfl) T.len (by decide +kernel) (pa_cons (pe_ix ix_tup (pv 1) pe_int (fun _ _ => rfl)) pa_nil)))) pa_nil))))
  (pss_one (ps_ret (pe_callB cr_sorted (by rfl) zSo (by decide +kernel) (pa_cons (pe_slice sl_list (pv 2) po_none (po_some (pe_call GD (hr.mono (by decide)) (by rfl) gD FD.kp bD .nil pass0 (pa_cons (pv 0) (pa_cons (pe_op op_add (pe_callB call_len_seq (by rfl) T.len (by decide +kernel) (pa_cons (pv 2) pa_nil)) pe_int) pa_nil))))) pa_nil))))), ?_⟩
    obtain ⟨p, q, rs, ds, htt, hp, hq, tr, td⟩ := ht.ex
    have ld := td.len
    refine ⟨_, rfl, _, rfl, t, _, 2, _, rfl, rfl, SqT.of htt, rfl, q, ds, rfl, .inl (SqL.of hq.h), ?_⟩
    rw [ld]
    clear ht hp hq tr td ld htt
    generalize dt.length = m at m15 fin ⊢
    refine ⟨_, rfl, .of_le (by omega) (by omega) (by omega) (by omega), fun r1 h1 => ?_⟩
    have s1 := same_new (o := HO.lst (rgV 0 (m : Int))) h1
    have nr := S.ne_new h1
    refine ⟨a, l, r1, N, _, rfl, S.but s1, n0, by omega, nr.1, nr.2, upd_same, by rw [rgV_length]; omega, fun H2 M ms pm b2 M0 M1 S2 => ?_⟩
    have lms : ms.length = m := by
      rw [pm.length_eq, rgV_length]
      omega
    obtain ⟨ns0, rfl, pn⟩ := perm_map_inv pm _ (rg_map m)
    refine ⟨_, rfl, _, rfl, _, rfl, M, _, rfl, .inl (SqL.of M1), _, _, rfl, rfl, ?_⟩
    rw [lms]
    refine ⟨a, l, _, (m : Int) + 1, rfl, S2, by omega, by omega, by omega, by omega, fun H3 d d0 d1 b3 S3 => ?_⟩
    have nM := (S.but s1).ne_new M0
    have hM := b3 _ _ nM.1 nM.2 M1
    refine ⟨_, rfl, M, _, rfl, SqL.of hM, fun r2 h2 => ?_⟩
    obtain ⟨ns1, e1, sub⟩ := cut_sub (ns := ns0) (lo := none) (hi := some d)
    rw [e1]
    have l0 : ns0.length = m := by rw [← lms, List.length_map]
    have l1 := sub.length_le
    have s2 := same_new (o := HO.lst (ns1.map V.int)) h2
    refine ⟨r2, ns1, rfl, SqL.of upd_same, by omega, fun ns2 D perm rise hD => ?_⟩
    have s3 := same_new (o := HO.lst (ns2.map V.int)) hD
    have l2 := perm.length_eq
    have gg : Go a l H _ := ((Go.same s1).trans (Go.but (S.but s1) b2)).trans ((Go.but S2 b3).trans (Go.same (s2.trans s3)))
    have nD := (S3.but s2).ne_new hD
    have nd0 : ns0.Nodup := pn.nodup_iff.mpr (by
      show List.Pairwise (fun x y => x ≠ y) _
      rw [List.pairwise_map]
      exact List.Pairwise.imp (fun {x y} h z => h (by omega)) (List.nodup_range (n := m)))
    have rng : ∀ x ∈ ns0, 0 ≤ x ∧ x < m := fun x hx => by
      obtain ⟨i, hi, rfl⟩ := List.mem_map.mp (pn.mem_iff.mp hx)
      have := List.mem_range.mp hi
      omega
    refine fin _ D ns2 gg ?_ upd_same ?_ (by omega) ((S3.but (s2.trans s3)).mono (by omega))
    · cases z : H D with
      | none => rfl
      | some o =>
        have y := (((Go.same s1).trans (Go.but (S.but s1) b2)).trans ((Go.but S2 b3).trans (Go.same s2))).k D o nD.1 nD.2 z
        rw [hD] at y
        cases y
    · exact lot_iff.mpr ⟨perm.nodup_iff.mpr (nd0.sublist sub), (fun _ _ z => by cases z), fun x hx => rng x (sub.subset (perm.mem_iff.mp hx))⟩
theorem ok_ha {f fD fMx fLo : Addr} {fd fdD fdMx fdLo : FuncData} (F : Fun K "_law_handed" "_law_handed" sHanded f fd) (T : Bt mg) (FD : Fun K "_law_draw" "_law_draw" sDraw fD fdD) (gD : mg "_law_draw" = some (.ref fD)) (bD : Binds K fdD ["_law_stream_here", "_law_many"] [])
    (FMx : Fun K "_law_mixed" "_law_mixed" sMixed fMx fdMx) (gMx : mg "_law_mixed" = some (.ref fMx)) (bMx : Binds K fdMx ["_law_stream_here", "_law_things"] [])
    (FLo : Fun K "_law_loose" "_law_loose" sLoose fLo fdLo) (gLo : mg "_law_loose" = some (.ref fLo)) (bLo : Binds K fdLo ["_law_stream_here", "_law_thing"] []) (GLo : FnOk P w K mg base CX0 3 fLo fdLo ["_law_stream_here", "_law_thing"] spLo1) :
    FnOk P w K mg base CX0 4 f fd ["_law_stream_here", "_law_lot_here"] spHa := by
  have GD : FnOk P w K mg base CX0 1 fD fdD ["_law_stream_here", "_law_many"] spDraw := ok_draw FD T
  have GMx : FnOk P w K mg base CX0 2 fMx fdMx ["_law_stream_here", "_law_things"] spMixed := ok_mixed FMx T FD gD bD
  refine F.ok scHa (fun vs H Q E h => ?_) (fun cdv A outer s H vs Q E hr h => ?_)
  · obtain ⟨a, l, D, N, ns, m, rfl, _⟩ := h
    rfl
  · obtain ⟨a, l, D, N, ns, m, rfl, S, n0, n1, na, nl, hD, lot, l15, fin⟩ := h
    refine ⟨_, (pss_one (ps_ret (pe_call GLo (hr.mono (by decide)) (by rfl) gLo FLo.kp bLo .nil pass0 (pa_cons (pv 0) (pa_cons (pe_call GMx (hr.mono (by decide)) (by rfl) gMx FMx.kp bMx .nil pass0 (pa_cons (pv 0) (pa_cons (pv 1) pa_nil))) pa_nil))))), ?_⟩
    refine ⟨_, rfl, _, rfl, _, rfl, a, l, D, N, _, rfl, S, n0, by omega, na, nl, hD, by rw [List.length_map]; omega, fun H2 M ms pm b2 M0 M1 S2 => ?_⟩
    obtain ⟨ms0, rfl, pn⟩ := perm_map_inv pm _ rfl
    have nM := S.ne_new M0
    have lm := pn.length_eq
    obtain ⟨q1, q2, q3⟩ := lot_iff.mp lot
    refine ⟨a, l, _, .ref M, _, rfl, S2, by omega, by omega, ⟨M, rfl, nM.1, nM.2, .inl M1⟩, fun y hy => ?_, by rw [List.length_map]; omega, fun H3 b g3 hb na nl hs S3 => ?_⟩
    · obtain ⟨i, _, rfl⟩ := List.mem_map.mp hy
      rfl
    · refine fin H3 b ms0 ((Go.but S b2).trans g3) ?_ na nl hs (lot_iff.mpr ⟨pn.nodup_iff.mpr q1, (fun _ _ z => by cases z), fun x hx => q3 x (pn.mem_iff.mp hx)⟩) (by omega) (S3.mono (by omega))
      cases z : H b with
      | none => rfl
      | some o =>
        rw [b2 b o na nl z] at hb
        cases hb
end
end K17

set_option Elab.async false
set_option linter.all false
set_option maxRecDepth 100000
set_option maxHeartbeats 8000000
namespace K17
open PySem PySem.Spec PyProof.Rows L2 Own LamX
/-! _law_lots_right -/
abbrev NLR : List Str := ["_law_stream_here", "_law_house_here", "_law_made_here", "_law_odd", "_law_asks_here", "_law_held", "_law_found", "_law_ask"]
theorem scLR : FnScope NLR ["_law_stream_here", "_law_house_here", "_law_made_here"] (defScope sLotR) := ⟨rfl, rfl, rfl, by decide +kernel, rfl, by decide +kernel, by decide +kernel⟩
theorem nt_ins {c d : Addr} {xs : List (Str × V)} (t : Array Value) : HO.ins c d xs ≠ .tbl t := fun z => by cases z
theorem HObj.ext {a l C : Addr} {H H' : Hp} {x : Addr} {n : Int} {rt dt : List (List V)} (h : HObj a l C H x n rt dt) (e : Ext H H') : HObj a l C H' x n rt dt := by
  obtain ⟨dx, p, q, rs, ds, h1, h2, h3, h4, h5⟩ := h.ex
  exact ⟨h.na, h.nl, dx, p, q, rs, ds, e _ _ h1 nt_ins, ⟨h2.na, h2.nl, e _ _ h2.h nt_lst⟩, ⟨h3.na, h3.nl, e _ _ h3.h nt_lst⟩, h4.tl (TL.ext e), h5.tl (TL.ext e)⟩
theorem Strm.ext {N : Int} {a l : Addr} {H H' : Hp} (S : Strm N H a l) (e : Ext H H') : Strm N H' a l := by
  obtain ⟨xs, c, n, m, h1, h2, h3⟩ := S.ex
  exact ⟨xs, c, n, m, e _ _ h1 nt_lst, e _ _ h2 nt_lst, h3⟩
theorem tabs_go {T : List (Addr × Str)} {N : Int} {a l : Addr} {H H' : Hp} (t : Tabs T H) (S : Strm N H a l) (g : Go a l H H') : Tabs T H' := fun p hp => by
  obtain ⟨xs, c, n, m, h1, h2, _⟩ := S.ex
  obtain ⟨tb, t1, t2, t3⟩ := t p hp
  have ne : ∀ {b : Addr} {o : HO}, H b = some o → (∀ ys, o ≠ .lst ys) → H' b = some o := fun {b o} e n => g.k b o (fun z => by rw [z, h1] at e; exact n _ (Option.some.inj e).symm) (fun z => by rw [z, h2] at e; exact n _ (Option.some.inj e).symm) e
  refine ⟨tb, ne t1 (fun ys z => by cases z), t2, fun pos cv z => ?_⟩
  obtain ⟨c', e1, e2⟩ := t3 pos cv z
  exact ⟨c', e1, ne e2 fun ys z => by unfold CodeO at z; cases z⟩
/-- all but the stream and tables stays -/
def Fre (a l : Addr) (H H' : Hp) : Prop := ∀ b o, b ≠ a → b ≠ l → (∀ t, o ≠ .tbl t) → H b = some o → H' b = some o
theorem Fre.go {a l : Addr} {H H' : Hp} (g : Go a l H H') : Fre a l H H' := fun b o x y _ z => g.k b o x y z
theorem Fre.ext {a l : Addr} {H H' : Hp} (e : Ext H H') : Fre a l H H' := fun b o _ _ t z => e b o z t
theorem Fre.trans {a l : Addr} {H H1 H2 : Hp} (x : Fre a l H H1) (y : Fre a l H1 H2) : Fre a l H H2 := fun b o n m t z => y b o n m t (x b o n m t z)
section
variable {P : Program} {w : World} {K : PySem.W.Frag} {mg : Str → Option Value} {base : Heap} {C Ch Cl Cb Ca Cm : Addr}
def spLR (C : Addr) (T0 : List (Addr × Str)) : Sp := fun vs H Q _ => ∃ (a l t x : Addr) (N n : Int) (rt dt : List (List V)), vs = [.ref a, .ref t, .ref x] ∧ Strm N H a l ∧ 0 ≤ N ∧ N + 10 ≤ 1000000000 ∧ HT a l H t n rt dt ∧ 2 ≤ dt.length ∧ dt.length ≤ 15 ∧ HObj a l C H x n rt dt ∧ Tabs T0 H ∧
  ∀ H', Fre a l H H' → Tabs T0 H' → Strm (N + 10) H' a l → Q (.bl true) H'
theorem ok_lr {T0 : List (Addr × Str)} {f fNL fAs fLe fSm fMe cAs cLe : Addr} {fd fdNL fdAs fdLe fdSm fdMe : FuncData} (F : Fun K "_law_lots_right" "_law_lots_right" sLotR f fd) (T : Bt mg)
    (FNL : Fun K "_law_no_lots" "_law_no_lots" sNoLots fNL fdNL) (gNL : mg "_law_no_lots" = some (.ref fNL)) (bNL : Binds K fdNL ["_law_stream_here", "_law_house_here"] []) (GNL : FnOk P w K mg base CX0 4 fNL fdNL ["_law_stream_here", "_law_house_here"] (spNL K C))
    (FAs : FunC K "_law_asks" "_law_asks" sAsks fAs fdAs cAs) (gAs : mg "_law_asks" = some (.ref fAs)) (bAs : Binds K fdAs ["_law_house_here", "_law_lot_here", "_law_bell"] []) (GAs : FnOk P w K mg base CX0 2 fAs fdAs ["_law_house_here", "_law_lot_here", "_law_bell"] (spAsks P w K mg base C Ch Cl Cb T0))
    (FLe : FunC K "_law_less" "_law_less" sLess fLe fdLe cLe) (gLe : mg "_law_less" = some (.ref fLe)) (bLe : Binds K fdLe ["_law_house_here", "_law_lot_here"] []) (GLe : FnOk P w K mg base CX0 2 fLe fdLe ["_law_house_here", "_law_lot_here"] (spLess P w K mg base C Ch Cl Ca T0))
    (FSm : Fun K "_law_same" "_law_same" sSame fSm fdSm) (gSm : mg "_law_same" = some (.ref fSm)) (bSm : Binds K fdSm ["_law_found", "_law_due"] []) (GSm : FnOk P w K mg base CX0 12 fSm fdSm ["_law_found", "_law_due"] (spSame K C 10))
    (FMe : Fun K "_law_met" "_law_met" sMet fMe fdMe) (gMe : mg "_law_met" = some (.ref fMe)) (bMe : Binds K fdMe ["_law_ask"] []) (GMe : FnOk P w K mg base CX0 10 fMe fdMe ["_law_ask"] (spMet P w K mg base Ch Cl Cb Ca Cm)) :
    FnOk P w K mg base CX0 13 f fd ["_law_stream_here", "_law_house_here", "_law_made_here"] (spLR C T0) := by
  refine F.ok scLR (fun vs H Q E h => ?_) (fun cdv A outer s H vs Q E hr h => ?_)
  · obtain ⟨a, l, t, x, N, n, rt, dt, rfl, _⟩ := h
    rfl
  · obtain ⟨a, l, t, xm, N, n, rt, dt, rfl, S, n0, n1, ht, m2, m15, om, hT, fin⟩ := h
    refine ⟨_, (pss_cons (ps_for PassesOwn.never rfl (pi_list (pe_call GNL (hr.mono (by decide)) (by rfl) gNL FNL.kp bNL .nil pass0 (pa_cons (pv 0) (pa_cons (pv 1) pa_nil)))) (pg_name (i := 3) (x := "_law_odd") scLR.nd rfl (Or.inl rfl)) (pss_cons (ps_set (i := 4) scLR.nd rfl (Or.inl rfl) (pe_op op_cat (pe_call GAs (hr.mono (by decide)) (by rfl) gAs FAs.kp bAs .nil pass0 (pa_cons (pv 2) (pa_cons (pv 3) (pa_cons pe_non pa_nil)))) (pe_call GLe (hr.mono (by decide)) (by rfl) gLe FLe.kp bLe .nil pass0 (pa_cons (pv 2) (pa_cons (pv 3) pa_nil)))))
  (pss_one (ps_if (pt_not (pt_val (pe_call GSm (hr.mono (by decide)) (by rfl) gSm FSm.kp bSm .nil pass0 (pa_cons (pe_lc (own := [("_law_ask", 7)]) (g := gName 7) (tt := tYes) rfl scLR.nd (pi_list (pv 4)) (blkOk_by (N := ["_law_stream_here", "_law_house_here", "_law_made_here", "_law_odd", "_law_asks_here", "_law_held", "_law_found", "_law_ask"]) (sc := defScope sLotR) (by decide +kernel)) (fun _ _ _ _ _ => (pg_name (i := 7) (x := "_law_ask") scLR.nd rfl (Or.inl rfl))) (fun _ _ _ _ _ => pts_nil) (fun _ _ _ _ _ => (pe_call GMe (hr.mono (by decide)) (by rfl) gMe FMe.kp bMe .nil pass0 (pa_cons (pv 7) pa_nil)))) (pa_cons (pe_op op_rep (pe_lst (pa_cons (pe_tup (pa_cons pe_str (pa_cons (pv 3) pa_nil))) pa_nil)) (pe_callB call_len_seq (by rfl) T.len (by decide +kernel) (pa_cons (pv 4) pa_nil))) pa_nil))))) (pss_one (ps_ret pe_bl)) pss_nil))))
  (pss_cons (ps_set (i := 5) scLR.nd rfl (Or.inl rfl) (pe_lst (pa_cons pe_int (pa_cons pe_int pa_nil))))
  (pss_cons (ps_setLc (i := 6) (own := [("_law_ask", 7)]) (g := gName 7) (tt := tYes) (by rfl) scLR.nd rfl rfl (sw_true rfl rfl rfl (by decide +kernel)) (pi_list (pe_op op_cat (pe_call GAs (hr.mono (by decide)) (by rfl) gAs FAs.kp bAs .nil pass0 (pa_cons (pv 2) (pa_cons (pv 5) (pa_cons pe_non pa_nil)))) (pe_call GLe (hr.mono (by decide)) (by rfl) gLe FLe.kp bLe .nil pass0 (pa_cons (pv 2) (pa_cons (pv 5) pa_nil))))) (blkOk_by (N := ["_law_stream_here", "_law_house_here", "_law_made_here", "_law_odd", "_law_asks_here", "_law_held", "_law_found", "_law_ask"]) (sc := defScope sLotR) (by decide +kernel)) (fun _ _ _ _ _ => (pg_name (i := 7) (x := "_law_ask") scLR.nd rfl (Or.inl rfl))) (fun _ _ _ _ _ => pts_nil) (fun _ _ _ _ _ => (pe_call GMe (hr.mono (by decide)) (by rfl) gMe FMe.kp bMe .nil pass0 (pa_cons (pv 7) pa_nil))))
  (pss_cons (ps_expr (pe_bm PySem.F.plainAttrs_list PySem.F.slot_list_append PySem.F.type_list_append mt_append (pv 5) (pa_cons pe_str pa_nil)))
  (pss_one (ps_ret (pe_call GSm (hr.mono (by decide)) (by rfl) gSm FSm.kp bSm .nil pass0 (pa_cons (pv 6) (pa_cons (pe_op op_rep (pe_lst (pa_cons (pe_tup (pa_cons pe_str (pa_cons (pe_lst (pa_cons pe_int (pa_cons pe_int (pa_cons pe_str pa_nil)))) pa_nil))) pa_nil)) (pe_callB call_len_seq (by rfl) T.len (by decide +kernel) (pa_cons (pv 6) pa_nil))) pa_nil))))))))), ?_⟩
    refine ⟨_, rfl, _, rfl, a, l, t, N, n, rt, dt, rfl, S, n0, n1, ht, m2, m15, fun H5 DX xs g5 dX lx nos S5 => ⟨DX, rfl, ⟨_, SqL.of dX⟩, ?_⟩⟩
    have T5 := tabs_go hT S g5
    replace om := om.go g5
    refine for_it (g := gName 3) (walk_list (xs := xs)) (fun j σ H' => (∃ x1 x2 : Option V, σ = [some (.ref a), some (.ref t), some (.ref xm), x1, x2, none, none, none]) ∧ Ext H5 H' ∧ Tabs T0 H') ⟨⟨none, none, rfl⟩, LamX.ExtN.refl _, T5⟩ (fun i σ H' _ z => SqL.of (z.2.1 _ _ dX nt_lst)) ?_ ?_
    · rintro j x σ H6 H7 hj ⟨⟨x1, x2, rfl⟩, E6, T6⟩ ⟨rfl, hx⟩
      have ox := (nos x (List.mem_of_getElem? hx)).ext E6
      refine ⟨_, rfl, _, rfl, .ref xm, x, .non, rfl, T6, fun H8 D1 f1 f2 f3 f4 e8 T8 d1 A1 => ⟨_, rfl, _, rfl, .ref xm, x, rfl, T8, fun H9 D2 g1 g2 g3 e9 T9 d2 B2 B3 => ⟨D1, D2, _, _, rfl, rfl, e9 _ _ d1 nt_lst, d2, by show 7 ≤ sizeLine; decide, fun D5 h5 => ?_⟩⟩⟩
      have y5 := same_new (o := HO.lst ([V.ref f1, V.ref f2, V.ref f3, V.ref f4] ++ [V.ref g1, V.ref g2, V.ref g3])) h5
      have x9 := ext_of y5
      have x8 := e9.trans x9
      have T12 := T9.ext y5
      have d12 : upd H9 D5 (.lst ([V.ref f1, V.ref f2, V.ref f3, V.ref f4] ++ [V.ref g1, V.ref g2, V.ref g3])) D5 = some (.lst [V.ref f1, V.ref f2, V.ref f3, V.ref f4, V.ref g1, V.ref g2, V.ref g3]) := upd_same
      have E12 := (E6.trans e8).trans x8
      have ox12 := (ox.ext e8).ext x8
      have om12 := om.ext E12
      generalize upd H9 D5 (.lst ([V.ref f1, V.ref f2, V.ref f3, V.ref f4] ++ [V.ref g1, V.ref g2, V.ref g3])) = H12 at x9 x8 T12 d12 E12 ox12 om12 ⊢
      have asks : ∀ y ∈ [V.ref f1, V.ref f2, V.ref f3, V.ref f4, V.ref g1, V.ref g2, V.ref g3], ∃ f, y = V.ref f ∧ ∀ H1 : Hp, Ext H12 H1 → ∃ tl, Asks P w K mg base 7 H1 f tl ∧ ∀ E Q, Out H1 E Cl "lot" x → tl E H1 Q := fun y hy => by
        simp only [List.mem_cons, List.not_mem_nil, or_false] at hy
        have rf : ∀ {H1 : Hp} {E : XK}, Ext H12 H1 → Out H1 E Cl "lot" x → Rf2 K C Ch Cl (.ref xm) x H1 E := fun {H1 E} e out => .inr ⟨a, l, xm, n, rt, dt, rfl, om12.ext e, (ox12.ext e).sh, (ox12.ext e).no, out⟩
        rcases hy with rfl | rfl | rfl | rfl | rfl | rfl | rfl
        · exact ⟨f1, rfl, fun H1 e1 => ⟨_, (A1 f1 (by simp)).ext (x8.trans e1), fun E Q out => .inl (rf e1 out)⟩⟩
        · exact ⟨f2, rfl, fun H1 e1 => ⟨_, (A1 f2 (by simp)).ext (x8.trans e1), fun E Q out => .inl (rf e1 out)⟩⟩
        · exact ⟨f3, rfl, fun H1 e1 => ⟨_, (A1 f3 (by simp)).ext (x8.trans e1), fun E Q out => .inl (rf e1 out)⟩⟩
        · exact ⟨f4, rfl, fun H1 e1 => ⟨_, (A1 f4 (by simp)).ext (x8.trans e1), fun E Q out => .inl (rf e1 out)⟩⟩
        · exact ⟨g1, rfl, fun H1 e1 => ⟨_, (B2 g1 (by simp)).ext (x9.trans e1), fun E Q out => rf e1 out⟩⟩
        · exact ⟨g2, rfl, fun H1 e1 => ⟨_, (B2 g2 (by simp)).ext (x9.trans e1), fun E Q out => rf e1 out⟩⟩
        · exact ⟨g3, rfl, fun H1 e1 => ⟨_, B3.ext (x9.trans e1), fun E Q out => .inl (rf e1 out)⟩⟩
      clear A1 B2 B3 x9 x8 T8 T9 d1 d2 e8 e9 y5
      refine ⟨_, rfl, D5, rfl, ⟨_, SqL.of d12⟩, fun D6 h6 => ?_⟩
      refine lc_it (walk_list (xs := [V.ref f1, V.ref f2, V.ref f3, V.ref f4, V.ref g1, V.ref g2, V.ref g3])) (fun i H' => Ext H12 H' ∧ Tabs T0 H' ∧ ∃ acc, H' D6 = some (.lst acc) ∧ acc.length = i ∧ PrsAt H' "lot" x acc) ⟨ext_of (same_new h6), T12.ext (same_new h6), [], upd_same, rfl, fun y hy => by cases hy⟩ (fun i H' _ z => SqL.of (z.1 _ _ d12 nt_lst)) ?_ ?_
      · rintro i y H13 H14 hi ⟨e14, T14, acc, a14, l14, p14⟩ ⟨rfl, hy⟩
        dsimp only [tYes]
        obtain ⟨f, rfl, hf⟩ := asks y (List.mem_of_getElem? hy)
        obtain ⟨tl, as, use⟩ := hf _ e14
        refine ⟨rfl, iteT ⟨_, rfl, f, tl, rfl, as, use _ _ fun d H15 nd sm hd => .inr <| .inl ⟨rfl, d, x, rfl, hd, two_fit, fun t2 ht2 => ?_⟩⟩⟩
        have st := same_new (o := HO.tup [V.str "lot", x]) ht2
        have e15 := ext_of (sm.trans st)
        have T15 := T14.ext (sm.trans st)
        have t15 : upd H15 t2 (.tup [.str "lot", x]) t2 = some (.tup [.str "lot", x]) := upd_same
        generalize upd H15 t2 (.tup [.str "lot", x]) = H16 at e15 T15 t15 ⊢
        have d16 := e15 _ _ a14 nt_lst
        refine ⟨acc, d16, small1000 (by rw [l14]; exact Nat.le_trans (Nat.le_of_lt hi) (by show 7 ≤ 1000; decide)), ext_upd (e14.trans e15) h6, tabs_lst T15 d16, acc ++ [.ref t2], upd_same, by rw [List.length_append, l14]; rfl, fun y hy => ?_⟩
        rcases List.mem_append.mp hy with hy | hy
        · obtain ⟨t3, rfl, h3⟩ := p14 y hy
          have h3' := e15 _ _ h3 nt_tup
          exact ⟨t3, rfl, by rw [upd_ne (ne_of h3' d16 fun z => by cases z)]; exact h3'⟩
        · exact ⟨t2, List.mem_singleton.mp hy, by rw [upd_ne (ne_of t15 d16 fun z => by cases z)]; exact t15⟩
      · rintro H13 ⟨e13, T13, acc, a13, l13, p13⟩
        have l13 : acc.length = 7 := l13
        refine ⟨_, rfl, two_fit, fun u hu => ⟨by show 1 ≤ sizeLine; decide, fun D7 h7 => ⟨_, rfl, D5, _, rfl, .inl (SqL.of (same_new h7 _ _ (same_new hu _ _ (e13 _ _ d12 nt_lst)))), D7, _, _, rfl, rfl, upd_same, by show -2 ^ 63 ≤ ((7 : Nat) : Int); decide, by show ((7 : Nat) : Int) < 2 ^ 63; decide, by show 1 * (((7 : Nat) : Int)).toNat ≤ sizeLine; decide, fun D8 h8 => ?_⟩⟩⟩
        have w1 := same_new (o := HO.tup [V.str "lot", x]) hu
        have w2 := same_new (o := HO.lst [V.ref u]) h7
        have w3 := same_new (o := HO.lst (List.replicate (((7 : Nat) : Int)).toNat [V.ref u]).flatten) h8
        have w13 := (w1.trans w2).trans w3
        have ox16 := (ox12.ext e13).ext (ext_of w13)
        refine ⟨_, _, rfl, .inr (.inl ⟨D6, D8, acc, _, rfl, rfl, w13 _ _ a13, upd_same, ?_, by rw [l13]; decide⟩), fun H17 s17 => ⟨_, rfl, iteF ⟨⟨_, _, rfl⟩, (E12.trans e13).trans (ext_of (w13.trans s17)), T13.ext (w13.trans s17)⟩⟩⟩
        have z := (p13.ext (ext_of w13)).eqt ox16.eq (u := u) ((w2.trans w3) _ _ upd_same)
        rw [l13] at z
        rw [flat_one]
        exact z
    · rintro σ H5' ⟨⟨x1, x2, rfl⟩, E5', T5'⟩
      clear T5
      rename Tabs T0 H5' => T5
      refine ⟨two_fit, fun hd5 h0 => ?_⟩
      have s0 := same_new (o := HO.lst [V.int 0, V.int 0]) h0
      have hh0 : upd H5' hd5 (.lst [V.int 0, V.int 0]) hd5 = some (.lst [V.int 0, V.int 0]) := upd_same
      have T6' := T5.ext s0
      have e06 := ext_of s0
      generalize upd H5' hd5 (.lst [V.int 0, V.int 0]) = H6 at hh0 T6' e06 ⊢
      refine ⟨_, rfl, _, rfl, .ref xm, .ref hd5, .non, rfl, T6', fun H8 D1 f1 f2 f3 f4 e8 T8 d1 A1 => ⟨_, rfl, _, rfl, .ref xm, .ref hd5, rfl, T8, fun H9 D2 g1 g2 g3 e9 T9 d2 B2 B3 => ⟨D1, D2, _, _, rfl, rfl, e9 _ _ d1 nt_lst, d2, by show 7 ≤ sizeLine; decide, fun D5 h5 => ?_⟩⟩⟩
      have y5 := same_new (o := HO.lst ([V.ref f1, V.ref f2, V.ref f3, V.ref f4] ++ [V.ref g1, V.ref g2, V.ref g3])) h5
      have x9 := ext_of y5
      have x8 := e9.trans x9
      have T12 := T9.ext y5
      have d12 : upd H9 D5 (.lst ([V.ref f1, V.ref f2, V.ref f3, V.ref f4] ++ [V.ref g1, V.ref g2, V.ref g3])) D5 = some (.lst [V.ref f1, V.ref f2, V.ref f3, V.ref f4, V.ref g1, V.ref g2, V.ref g3]) := upd_same
      have E12 := (E5'.trans e06).trans (e8.trans x8)
      have hh12 := (e8.trans x8) _ _ hh0 nt_lst
      have x5 := e06.trans (e8.trans x8)
      have om12 := om.ext E12
      generalize upd H9 D5 (.lst ([V.ref f1, V.ref f2, V.ref f3, V.ref f4] ++ [V.ref g1, V.ref g2, V.ref g3])) = H12 at x9 x8 T12 d12 E12 hh12 om12 x5 ⊢
      have ox12 : NoL K C dt.length H12 (.ref hd5) := noL_at (.inl hh12) (fun y hy => by simp only [List.mem_cons, List.not_mem_nil, or_false] at hy; rcases hy with rfl | rfl <;> rfl) (by show 2 ≤ 1000; decide) (no_twice (ns := [0, 0]) (by decide))
      have asks : ∀ y ∈ [V.ref f1, V.ref f2, V.ref f3, V.ref f4, V.ref g1, V.ref g2, V.ref g3], ∃ f, y = V.ref f ∧ ∀ H1 : Hp, Ext H12 H1 → ∃ tl, Asks P w K mg base 7 H1 f tl ∧ ∀ E Q, Out H1 E Cl "lot" (.ref hd5) → tl E H1 Q := fun y hy => by
        simp only [List.mem_cons, List.not_mem_nil, or_false] at hy
        have rf : ∀ {H1 : Hp} {E : XK}, Ext H12 H1 → Out H1 E Cl "lot" (.ref hd5) → Rf2 K C Ch Cl (.ref xm) (.ref hd5) H1 E := fun {H1 E} e out => .inr ⟨a, l, xm, n, rt, dt, rfl, om12.ext e, (ox12.ext e).sh, (ox12.ext e).no, out⟩
        rcases hy with rfl | rfl | rfl | rfl | rfl | rfl | rfl
        · exact ⟨f1, rfl, fun H1 e1 => ⟨_, (A1 f1 (by simp)).ext (x8.trans e1), fun E Q out => .inl (rf e1 out)⟩⟩
        · exact ⟨f2, rfl, fun H1 e1 => ⟨_, (A1 f2 (by simp)).ext (x8.trans e1), fun E Q out => .inl (rf e1 out)⟩⟩
        · exact ⟨f3, rfl, fun H1 e1 => ⟨_, (A1 f3 (by simp)).ext (x8.trans e1), fun E Q out => .inl (rf e1 out)⟩⟩
        · exact ⟨f4, rfl, fun H1 e1 => ⟨_, (A1 f4 (by simp)).ext (x8.trans e1), fun E Q out => .inl (rf e1 out)⟩⟩
        · exact ⟨g1, rfl, fun H1 e1 => ⟨_, (B2 g1 (by simp)).ext (x9.trans e1), fun E Q out => rf e1 out⟩⟩
        · exact ⟨g2, rfl, fun H1 e1 => ⟨_, (B2 g2 (by simp)).ext (x9.trans e1), fun E Q out => rf e1 out⟩⟩
        · exact ⟨g3, rfl, fun H1 e1 => ⟨_, B3.ext (x9.trans e1), fun E Q out => .inl (rf e1 out)⟩⟩
      clear A1 B2 B3 x9 x8 T8 T9 d1 d2 e8 e9 y5
      refine ⟨D5, rfl, ⟨_, SqL.of d12⟩, fun D6 h6 => ?_⟩
      refine lc_it (walk_list (xs := [V.ref f1, V.ref f2, V.ref f3, V.ref f4, V.ref g1, V.ref g2, V.ref g3])) (fun i H' => Ext H12 H' ∧ Tabs T0 H' ∧ ∃ acc, H' D6 = some (.lst acc) ∧ acc.length = i ∧ PrsAt H' "lot" (.ref hd5) acc) ⟨ext_of (same_new h6), T12.ext (same_new h6), [], upd_same, rfl, fun y hy => by cases hy⟩ (fun i H' _ z => SqL.of (z.1 _ _ d12 nt_lst)) ?_ ?_
      · rintro i y H13 H14 hi ⟨e14, T14, acc, a14, l14, p14⟩ ⟨rfl, hy⟩
        dsimp only [tYes]
        obtain ⟨f, rfl, hf⟩ := asks y (List.mem_of_getElem? hy)
        obtain ⟨tl, as, use⟩ := hf _ e14
        refine ⟨rfl, iteT ⟨_, rfl, f, tl, rfl, as, use _ _ fun d H15 nd sm hd => .inr <| .inl ⟨rfl, d, (.ref hd5), rfl, hd, two_fit, fun t2 ht2 => ?_⟩⟩⟩
        have st := same_new (o := HO.tup [V.str "lot", (.ref hd5)]) ht2
        have e15 := ext_of (sm.trans st)
        have T15 := T14.ext (sm.trans st)
        have t15 : upd H15 t2 (.tup [.str "lot", (.ref hd5)]) t2 = some (.tup [.str "lot", (.ref hd5)]) := upd_same
        generalize upd H15 t2 (.tup [.str "lot", (.ref hd5)]) = H16 at e15 T15 t15 ⊢
        have d16 := e15 _ _ a14 nt_lst
        refine ⟨acc, d16, small1000 (by rw [l14]; exact Nat.le_trans (Nat.le_of_lt hi) (by show 7 ≤ 1000; decide)), ext_upd (e14.trans e15) h6, tabs_lst T15 d16, acc ++ [.ref t2], upd_same, by rw [List.length_append, l14]; rfl, fun y hy => ?_⟩
        rcases List.mem_append.mp hy with hy | hy
        · obtain ⟨t3, rfl, h3⟩ := p14 y hy
          have h3' := e15 _ _ h3 nt_tup
          exact ⟨t3, rfl, by rw [upd_ne (ne_of h3' d16 fun z => by cases z)]; exact h3'⟩
        · exact ⟨t2, List.mem_singleton.mp hy, by rw [upd_ne (ne_of t15 d16 fun z => by cases z)]; exact t15⟩
      · rintro H13 ⟨e13, T13, acc, a13, l13, p13⟩
        have l13 : acc.length = 7 := l13
        refine ⟨_, rfl, .inl ⟨rfl, _, SqL.of (e13 _ _ hh12 nt_lst)⟩, hd5, _, .str "late", rfl, rfl, e13 _ _ hh12 nt_lst, by show 2 < sizeLine; decide, ?_⟩
        have hh13 := e13 _ _ hh12 nt_lst
        have nD6 : D6 ≠ hd5 := fun z => by rw [z, hh12] at h6; cases h6
        have a14 : upd H13 hd5 (.lst ([V.int 0, V.int 0] ++ [.str "late"])) D6 = some (.lst acc) := by
          rw [upd_ne nD6]
          exact a13
        have p14 : PrsAt (upd H13 hd5 (.lst ([V.int 0, V.int 0] ++ [.str "late"]))) "lot" (.ref hd5) acc := fun y hy => by
          obtain ⟨t3, rfl, h3⟩ := p13 y hy
          exact ⟨t3, rfl, by rw [upd_ne (ne_of h3 hh13 fun z => by cases z)]; exact h3⟩
        have T14 := tabs_lst (ys := [V.int 0, V.int 0] ++ [.str "late"]) T13 hh13
        have x14 : Ext H5' (upd H13 hd5 (.lst ([V.int 0, V.int 0] ++ [.str "late"]))) := ext_upd (x5.trans e13) h0
        have hh14 : upd H13 hd5 (.lst ([V.int 0, V.int 0] ++ [.str "late"])) hd5 = some (.lst [V.int 0, V.int 0, .str "late"]) := upd_same
        generalize upd H13 hd5 (.lst ([V.int 0, V.int 0] ++ [.str "late"])) = H14 at a14 p14 T14 x14 hh14 ⊢
        refine ⟨_, rfl, three_fit, fun v hv => ⟨two_fit, fun u hu => ⟨by show 1 ≤ sizeLine; decide, fun D7 h7 => ?_⟩⟩⟩
        have w0 := same_new (o := HO.lst [V.int 0, V.int 0, V.str "late"]) hv
        have w1 := same_new (o := HO.tup [V.str "lot", V.ref v]) hu
        have w2 := same_new (o := HO.lst [V.ref u]) h7
        have w02 := (w0.trans w1).trans w2
        refine ⟨_, rfl, D6, _, rfl, .inl (SqL.of (w02 _ _ a14)), ?_⟩
        rw [l13]
        refine ⟨D7, _, _, rfl, rfl, upd_same, by show -2 ^ 63 ≤ ((7 : Nat) : Int); decide, by show ((7 : Nat) : Int) < 2 ^ 63; decide, by show 1 * (((7 : Nat) : Int)).toNat ≤ sizeLine; decide, fun D8 h8 => ?_⟩
        have w3 := same_new (o := HO.lst (List.replicate (((7 : Nat) : Int)).toNat [V.ref u]).flatten) h8
        have w03 := w02.trans w3
        refine ⟨_, _, rfl, .inr (.inl ⟨D6, D8, acc, _, rfl, rfl, w03 _ _ a14, upd_same, ?_, by rw [l13]; decide⟩), fun H17 s17 => fin H17 ((Fre.go g5).trans (.ext ((E5'.trans x14).trans (ext_of (w03.trans s17))))) (T14.ext (w03.trans s17)) (S5.ext ((E5'.trans x14).trans (ext_of (w03.trans s17))))⟩
        have z := (p14.ext (ext_of w03)).eqt (K := K) (C := C) (n := 8) (y := .ref v) (.inr (.inl ⟨hd5, v, _, _, rfl, rfl, w03 _ _ hh14, ((w1.trans w2).trans w3) _ _ upd_same, atoms_eqt fun y hy => by simp only [List.mem_cons, List.not_mem_nil, or_false] at hy; rcases hy with rfl | rfl | rfl <;> rfl, by show 3 ≤ 1000; decide⟩)) (u := u) ((w2.trans w3) _ _ upd_same)
        rw [l13] at z
        rw [flat_one]
        exact z
end
end K17

set_option Elab.async false
set_option linter.all false
set_option maxRecDepth 100000
set_option maxHeartbeats 8000000
namespace K17
open PySem PySem.Spec PyProof.Rows L2 Own LamX
/-! _law_met(lambda: f(..)) -/
theorem met_gives {X : Cx} {Ch Cl Cb Ca Cm g : Addr} {cdg : Value} {q : Str} (C : Cau X.K X.mg Ch Cl Cb Ca Cm) : GivesTo X NMet "_law_met" (defScope sMet) g cdg (defBody sMet) "_law_ask" q (TMet Ch Cl Cb Ca Cm) := by
  intro f c' s H Q tl act hc h
  exact met_body C (R := fun HZ E Q => HZ c' = some (CodeO c' q) ∧ tl E HZ Q) (fun W pn xe E p1 p2 tk hW => act W pn xe E p1 p2 tk hW) ⟨hc, h⟩
section
variable {X : Cx} {T : List (Addr × Str)} {g c Pt Ch Cl Cb Ca Cm f0 : Addr} {fd fd0 : FuncData} {x : Str} {sp : Sp} {params : Arguments} {psx } {scope : Scope} {e1 : Expr} {es : List Expr} {kws : List Keyword} {ta : TA} {p lpos pos p2 pos2 : Pos}
/-- _law_met(lambda: f(a, ..)) -/
theorem pe_metP (F : Fun X.K "_law_met" "_law_met" sMet g fd) (gm : X.mg "_law_met" = some (.ref g)) (bM : L2.Binds X.K fd ["_law_ask"] []) (CA : Cau X.K X.mg Ch Cl Cb Ca Cm) (g0 : X.mg x = some (.ref f0)) (kp0 : PySem.W.keepIn X.K (.ref f0) = true) (b0 : L2.Binds X.K fd0 psx [])
    (G : FnOk X.prog X.w X.K X.mg X.base (L2.CX X.prog X.w) 5 f0 fd0 psx sp)
    (TB : TabB X.base X.mg c Pt) (hcode : X.env.code = .ref c) (hmT : (Pt, X.env.qual ++ "<lambda>") ∈ T) (hu : ∀ q ∈ T, q.1 = Pt → q.2 = X.env.qual ++ "<lambda>") (hr : Room 8 X.A) (L : LamS X.env.scope scope) (hg : Gl X "_law_met") (hdef : defaultsOf params X.env = ([], []))
    (hbind : ∀ (q : Str) (cl : List (Str × Addr)) (pm cv ctv : Value), bindArgs (PySem.W.kla_fn "<lambda>" q params (.Call (.Name x p2) (e1 :: es) [] pos2) scope cl pm cv ctv) ⟨[], []⟩ = pure [])
    (hbody : ∀ (A : Around) (outer : List Env) (s : Shared) (H : Hp) (E : XK) (f c' : Addr), Gl (lamCx X A outer s H E scope f c') x ∧ PA (lamCx X A outer s H E scope f c') (e1 :: es) ta)
    (hdb : (x == ("__debug__" : Str)) = false := by decide)
    (hst : ∀ env : Env, starEach (e1 :: es) env = (false, eval e1 env) :: starEach es env := by intro _; rfl) (hpl : ∀ env : Env, (backTo pos2 (starEach es env)).any (·.1) = false := by intro _; rfl) :
    PE X (.Call (.Name "_law_met" p) [.Lambda params (.Call (.Name x p2) (e1 :: es) [] pos2) scope lpos] [] pos) (tLam T (TMet Ch Cl Cb Ca Cm) fun E => tCall sp [] E ta) := by
  obtain ⟨oc, od, kV, doc, pm, an, cdv, ct, osl, rfl, lk, hcd⟩ := F.ex
  refine pe_lamcall (k := 6) (Ng := NMet) hg gm F.kp lk hcd bM scMet rfl (by exact Or.inl rfl) (met_gives CA) TB hcode hmT hu hr L hdef hbind fun A outer s H E f c' hr2 => ?_
  obtain ⟨h1, h2⟩ := hbody A outer s H E f c'
  exact pe_call (X := lamCx X A outer s H E scope f c') G (hr2.mono (by decide)) h1 g0 kp0 b0 .nil (passes_call (X := lamCx X A outer s H E scope f c') (takes_of rfl rfl rfl rfl) fun _ _ _ _ h => h) h2 hdb (hst _) (hpl _)
end
/-! _law_rest_right -/
theorem ix_listK {X : Cx} {K : PySem.W.Frag} (h : X.K = K) : IxR X (rIxL K) := by
  subst h
  exact ix_list
abbrev NRR : List Str := ["_law_stream_here", "_law_house_here", "_law_made_here", "_law_lot_here", "_law_held", "_law_odd", "_law_asks_here", "_law_found", "_law_one", "_law_ask"]
theorem scRR : FnScope NRR ["_law_stream_here", "_law_house_here", "_law_made_here"] (defScope sRestR) := ⟨rfl, rfl, rfl, by decide +kernel, rfl, by decide +kernel, by decide +kernel⟩
abbrev qRR : Str := ("_law_rest_right" : Str) ++ ".<locals>." ++ "<lambda>"
section
variable {K : PySem.W.Frag} {C Ch Cl Cb Ca Cm : Addr} {H : Hp} {fb : Str} {v lo be m : V} {E : XK}
theorem Rf2.ref (nt : NoT K C) (k0 : HK K C) (kc : PySem.W.kitOne K (.ref C) (.ref C) = some true) (h : Rf2 K C Ch Cl v lo H E) : Ref2 K C Ch Cl v lo H E := by
  rcases h with ⟨h, o⟩ | ⟨a', l, x, n, rt, dt, rfl, h1, h2, h3, o⟩
  · exact .inl ⟨h.isC nt, o⟩
  · exact .inr ⟨a', l, x, n, rt, dt, rfl, hobj_isC k0 kc h1, h1, h2, h3, o⟩
theorem Rf3.ref (nt : NoT K C) (k0 : HK K C) (kc : PySem.W.kitOne K (.ref C) (.ref C) = some true) (h : Rf3 K C Ch Cl Cb fb v lo be H E) : Ref3 K C Ch Cl Cb fb v lo be H E := by
  rcases h with h | ⟨a', l, x, b, n, rt, dt, ns, rfl, h1, h2, h3, rfl, h4, h5, h6, h7, o⟩
  · exact .inl (h.ref nt k0 kc)
  · exact .inr ⟨a', l, x, b, n, rt, dt, ns, rfl, hobj_isC k0 kc h1, h1, h2, h3, rfl, h4, h5, h6, h7, o⟩
end
theorem Fre.tl {N : Int} {a l : Addr} {H H' : Hp} (e : Fre a l H H') (S : Strm N H a l) : TL H H' := fun b t h => e b _ (tup_na S h).1 (tup_na S h).2 nt_tup h
theorem HObj.fre {N : Int} {a l C : Addr} {H H' : Hp} {x : Addr} {n : Int} {rt dt : List (List V)} (h : HObj a l C H x n rt dt) (S : Strm N H a l) (e : Fre a l H H') : HObj a l C H' x n rt dt := by
  obtain ⟨dx, p, q, rs, ds, h1, h2, h3, h4, h5⟩ := h.ex
  exact ⟨h.na, h.nl, dx, p, q, rs, ds, e _ _ h.na h.nl nt_ins h1, ⟨h2.na, h2.nl, e _ _ h2.na h2.nl nt_lst h2.h⟩, ⟨h3.na, h3.nl, e _ _ h3.na h3.nl nt_lst h3.h⟩, h4.tl (e.tl S), h5.tl (e.tl S)⟩
/-- an atom, a short list or tuple of such, an empty dict -/
def OB (a l : Addr) (H : Hp) (x : V) : Prop := atomV x = true ∨ (∃ e xs, x = .ref e ∧ e ≠ a ∧ e ≠ l ∧ Sqs H e xs ∧ (∀ y ∈ xs, atomV y = true) ∧ xs.length ≤ 10) ∨ ∃ e, x = .ref e ∧ e ≠ a ∧ e ≠ l ∧ H e = some (.dK [])
theorem OB.fre {a l : Addr} {H H' : Hp} {x : V} (h : OB a l H x) (e : Fre a l H H') : OB a l H' x := by
  rcases h with h | ⟨b, xs, rfl, n1, n2, h1, h2⟩ | ⟨b, rfl, n1, n2, h1⟩
  · exact .inl h
  · exact .inr (.inl ⟨b, xs, rfl, n1, n2, h1.imp (e _ _ n1 n2 nt_lst) (e _ _ n1 n2 nt_tup), h2⟩)
  · exact .inr (.inr ⟨b, rfl, n1, n2, e _ _ n1 n2 nt_dK h1⟩)
theorem OB.shp {a l : Addr} {H : Hp} {x : V} (h : OB a l H x) : Shp H x := by
  rcases h with h | ⟨b, xs, rfl, n1, n2, h1 | h1, h2⟩ | ⟨b, rfl, n1, n2, h1⟩
  · exact .inl h
  · exact .inr (.inl ⟨_, _, rfl, h1⟩)
  · exact .inr (.inr (.inl ⟨_, _, rfl, h1⟩))
  · exact .inr (.inr (.inr ⟨_, _, rfl, h1⟩))
theorem OB.eqt {K : PySem.W.Frag} {C a l : Addr} {n : Nat} {H : Hp} {x : V} (h : OB a l H x) : Eqt K C (n + 3) H x x := by
  rcases h with h | ⟨b, xs, rfl, n1, n2, h1 | h1, h2, h3⟩ | ⟨b, rfl, n1, n2, h1⟩
  · exact eqt_atom h
  · exact .inr (.inl ⟨b, b, xs, xs, rfl, rfl, h1, h1, atoms_eqt h2, by omega⟩)
  · exact .inr (.inr (.inl ⟨b, b, xs, xs, rfl, rfl, h1, h1, atoms_eqt h2, by omega⟩))
  · exact .inr (.inr (.inr ⟨by omega, b, b, [], rfl, rfl, h1, h1, (fun p hp => by cases hp), Nat.zero_le _⟩))
theorem ints_lotty {m : Int} {H : Hp} {b : Addr} {ns : List Int} (h : Sqs H b (ns.map V.int)) (hl : ns.length ≤ 15) (lot : isLotL m [] (ns.map V.int) = true) : Lotty H (.ref b) ∧ isLot m (seqOf H (.ref b)) = true := by
  refine ⟨⟨h.elim (fun h => .inr (.inl ⟨_, _, rfl, h⟩)) fun h => .inr (.inr (.inl ⟨_, _, rfl, h⟩)), fun xs z => ?_⟩, by rw [h.seq]; exact lot⟩
  rw [h.seq] at z
  rw [← Option.some.inj z]
  refine ⟨fun y hy => ?_, by rw [List.length_map]; omega⟩
  obtain ⟨i, _, rfl⟩ := List.mem_map.mp hy
  exact .inl rfl
/-- what stands while the rest is asked -/
structure RI (C a l xm D h1 h2 h3 hd : Addr) (n : Int) (rt dt : List (List V)) (ns : List Int) (k : Nat) (T0 : List (Addr × Str)) (M : Int) (H : Hp) : Prop where
  s : Strm M H a l
  t : Tabs T0 H
  o : HObj a l C H xm n rt dt
  nal : ∀ b ∈ [D, h1, h2, h3, hd], b ≠ a ∧ b ≠ l
  hD : H D = some (.lst (ns.map V.int))
  e1 : H h1 = some (.lst [.int 1])
  e2 : H h2 = some (.lst [.int 1])
  e3 : H h3 = some (.lst (List.replicate k (.int 0)))
  e4 : H hd = some (.lst [.ref h1, .ref h2, .ref h3])
theorem RI.fre {C a l xm D h1 h2 h3 hd : Addr} {n : Int} {rt dt : List (List V)} {ns : List Int} {k : Nat} {T0 : List (Addr × Str)} {M M' : Int} {H H' : Hp} (r : RI C a l xm D h1 h2 h3 hd n rt dt ns k T0 M H) (e : Fre a l H H') (t : Tabs T0 H') (s : Strm M' H' a l) : RI C a l xm D h1 h2 h3 hd n rt dt ns k T0 M' H' := by
  have n1 := r.nal D (by simp)
  have n2 := r.nal h1 (by simp)
  have n3 := r.nal h2 (by simp)
  have n4 := r.nal h3 (by simp)
  have n5 := r.nal hd (by simp)
  exact ⟨s, t, r.o.fre r.s e, r.nal, e _ _ n1.1 n1.2 nt_lst r.hD, e _ _ n2.1 n2.2 nt_lst r.e1, e _ _ n3.1 n3.2 nt_lst r.e2, e _ _ n4.1 n4.2 nt_lst r.e3, e _ _ n5.1 n5.2 nt_lst r.e4⟩
theorem Fre.refl {a l : Addr} {H : Hp} : Fre a l H H := fun _ _ _ _ _ h => h
section
variable {P : Program} {w : World} {K : PySem.W.Frag} {mg : Str → Option Value} {base : Heap} {C Ch Cl Cb Ca Cm : Addr}
def spRR (C : Addr) (T0 : List (Addr × Str)) : Sp := fun vs H Q _ => ∃ (a l t x : Addr) (N n : Int) (rt dt : List (List V)), vs = [.ref a, .ref t, .ref x] ∧ Strm N H a l ∧ 0 ≤ N ∧ N + 2000 ≤ 1000000000 ∧ HT a l H t n rt dt ∧ 1 ≤ n ∧ n ≤ 30 ∧ dt.length ≤ 15 ∧ HObj a l C H x n rt dt ∧ Tabs T0 H ∧
  ∀ H', Fre a l H H' → Tabs T0 H' → Strm (N + 2000) H' a l → Q (.bl true) H'
theorem ok_rr {T0 : List (Addr × Str)} {f fLt fHa fAs fSm fMe fM fLB fWo c cAs Pt : Addr} {fd fdLt fdHa fdAs fdSm fdMe fdM fdLB fdWo : FuncData} (F : FunC K "_law_rest_right" "_law_rest_right" sRestR f fd c) (T : Bt mg) (nt : NoT K C) (k0 : HK K C) (kc : PySem.W.kitOne K (.ref C) (.ref C) = some true)
    (FLt : Fun K "_law_lot" "_law_lot" sLot fLt fdLt) (gLt : mg "_law_lot" = some (.ref fLt)) (bLt : Binds K fdLt ["_law_stream_here", "_law_house_here"] []) (GLt : FnOk P w K mg base CX0 3 fLt fdLt ["_law_stream_here", "_law_house_here"] spLt)
    (FHa : Fun K "_law_handed" "_law_handed" sHanded fHa fdHa) (gHa : mg "_law_handed" = some (.ref fHa)) (bHa : Binds K fdHa ["_law_stream_here", "_law_lot_here"] []) (GHa : FnOk P w K mg base CX0 4 fHa fdHa ["_law_stream_here", "_law_lot_here"] spHa)
    (FAs : FunC K "_law_asks" "_law_asks" sAsks fAs fdAs cAs) (gAs : mg "_law_asks" = some (.ref fAs)) (bAs : Binds K fdAs ["_law_house_here", "_law_lot_here", "_law_bell"] []) (GAs : FnOk P w K mg base CX0 2 fAs fdAs ["_law_house_here", "_law_lot_here", "_law_bell"] (spAsks P w K mg base C Ch Cl Cb T0))
    (FSm : Fun K "_law_same" "_law_same" sSame fSm fdSm) (gSm : mg "_law_same" = some (.ref fSm)) (bSm : Binds K fdSm ["_law_found", "_law_due"] []) (GSm : FnOk P w K mg base CX0 12 fSm fdSm ["_law_found", "_law_due"] (spSame K C 10))
    (FMe : Fun K "_law_met" "_law_met" sMet fMe fdMe) (gMe : mg "_law_met" = some (.ref fMe)) (bMe : Binds K fdMe ["_law_ask"] []) (GMe : FnOk P w K mg base CX0 10 fMe fdMe ["_law_ask"] (spMet P w K mg base Ch Cl Cb Ca Cm)) (CA : Cau K mg Ch Cl Cb Ca Cm)
    (FM : Fun K "most" "most" sMost fM fdM) (gM : mg "most" = some (.ref fM)) (bM : Binds K fdM ["house", "lot", "bell"] []) (GM : FnOk P w K mg base (L2.CX P w) 5 fM fdM ["house", "lot", "bell"] (spRef3 K C Ch Cl Cb "bell"))
    (FLB : Fun K "lot_bell" "lot_bell" sLotBell fLB fdLB) (gLB : mg "lot_bell" = some (.ref fLB)) (bLB : Binds K fdLB ["house", "lot", "amount"] []) (GLB : FnOk P w K mg base (L2.CX P w) 5 fLB fdLB ["house", "lot", "amount"] (spRef3 K C Ch Cl Ca "amount"))
    (FWo : Fun K "worth" "worth" sWorth fWo fdWo) (gWo : mg "worth" = some (.ref fWo)) (bWo : Binds K fdWo ["house", "moments"] []) (GWo : FnOk P w K mg base (L2.CX P w) 5 fWo fdWo ["house", "moments"] (spWorth K C Ch Cm))
    (TB : TabB base mg c Pt) (hmT : (Pt, qRR) ∈ T0) (hu : ∀ q ∈ T0, q.1 = Pt → q.2 = qRR) :
    FnOk P w K mg base CX0 13 f fd ["_law_stream_here", "_law_house_here", "_law_made_here"] (spRR C T0) := by
  refine F.ok scRR (fun vs H Q E h => ?_) (fun A outer s H vs Q E hr h => ?_)
  · obtain ⟨a, l, t, x, N, n, rt, dt, rfl, _⟩ := h
    rfl
  · obtain ⟨a, l, t, xm, N, n, rt, dt, rfl, S, n0, n1, ht, m1, m30, m15, om, hT, fin⟩ := h
    refine ⟨_, (Evl.pss_cut (ps_asg (pe_tup (pa_cons (pe_call GLt (hr.mono (by decide)) (by rfl) gLt FLt.kp bLt .nil pass0 (pa_cons (pv 0) (pa_cons (pv 1) pa_nil))) (pa_cons (pe_lst (pa_cons (pe_lst (pa_cons pe_int pa_nil)) (pa_cons (pe_lst (pa_cons pe_int pa_nil)) (pa_cons (pe_op op_rep (pe_lst (pa_cons pe_int pa_nil)) (pe_op op_add (pe_ix ix_tup (pv 1) pe_int (fun _ _ => rfl)) pe_int)) pa_nil)))) pa_nil))) (pg_tup rfl (pgs_cons (pg_name (i := 3) (x := "_law_lot_here") scRR.nd rfl (Or.inr rfl)) (pgs_cons (pg_name (i := 4) (x := "_law_held") scRR.nd rfl (Or.inr rfl)) pgs_nil))))
  (Evl.pss_cut (ps_for PassesOwn.never rfl (pi_tup (pe_tup (pa_cons pe_non (pa_cons pe_bl (pa_cons (pe_un un_neg pe_int) (pa_cons pe_str (pa_cons (pe_lst (pa_cons pe_int pa_nil)) (pa_cons (pe_tup (pa_cons pe_int pa_nil)) (pa_cons pe_dnewK pa_nil))))))))) (pg_name (i := 5) (x := "_law_odd") scRR.nd rfl (Or.inr rfl)) (pss_cons (ps_set (i := 6) scRR.nd rfl (Or.inl rfl) (pe_call GAs (hr.mono (by decide)) (by rfl) gAs FAs.kp bAs .nil pass0 (pa_cons (pv 2) (pa_cons (pe_call GHa (hr.mono (by decide)) (by rfl) gHa FHa.kp bHa .nil pass0 (pa_cons (pv 0) (pa_cons (pv 3) pa_nil))) (pa_cons (pv 5) pa_nil)))))
  (Evl.pss_cut (ps_if (pt_not (pt_val (pe_call GSm (hr.mono (by decide)) (by rfl) gSm FSm.kp bSm .nil pass0 (pa_cons (pe_lc (own := [("_law_ask", 9)]) (g := gName 9) (tt := tYes) rfl scRR.nd (pi_list (pv 6)) (blkOk_by (N := ["_law_stream_here", "_law_house_here", "_law_made_here", "_law_lot_here", "_law_held", "_law_odd", "_law_asks_here", "_law_found", "_law_one", "_law_ask"]) (sc := defScope sRestR) (by decide +kernel)) (fun _ _ _ _ _ => (pg_name (i := 9) (x := "_law_ask") scRR.nd rfl (Or.inl rfl))) (fun _ _ _ _ _ => pts_nil) (fun _ _ _ _ _ => (pe_call GMe (hr.mono (by decide)) (by rfl) gMe FMe.kp bMe .nil pass0 (pa_cons (pv 9) pa_nil)))) (pa_cons (pe_op op_rep (pe_lst (pa_cons (pe_tup (pa_cons pe_str (pa_cons (pv 5) pa_nil))) pa_nil)) (pe_callB call_len_seq (by rfl) T.len (by decide +kernel) (pa_cons (pv 6) pa_nil))) pa_nil))))) (pss_one (ps_ret pe_bl)) pss_nil)
  (pss_one (ps_if (pt_not (pt_val (pe_call GSm (hr.mono (by decide)) (by rfl) gSm FSm.kp bSm .nil pass0 (pa_cons (pe_metP FMe gMe bMe CA gLB FLB.kp bLB GLB TB rfl hmT hu (hr.mono (by decide)) (lamS_by (by show lamSB (defScope sRestR) _ = true; decide +kernel)) (by rfl) (by rfl) (fun _ _ _ _ _ => rfl) (fun _ _ _ _ _ _ _ => ⟨by rfl, (pa_cons (pv 2) (pa_cons (pv 3) (pa_cons (pv 5) pa_nil)))⟩)) (pa_cons (pe_tup (pa_cons pe_str (pa_cons (pv 5) pa_nil))) pa_nil))))) (pss_one (ps_ret pe_bl)) pss_nil)))))
  (pss_cons (ps_set (i := 7) scRR.nd rfl (Or.inl rfl) (pe_lst (pa_cons (pe_metP FMe gMe bMe CA gM FM.kp bM GM TB rfl hmT hu (hr.mono (by decide)) (lamS_by (by show lamSB (defScope sRestR) _ = true; decide +kernel)) (by rfl) (by rfl) (fun _ _ _ _ _ => rfl) (fun _ _ _ _ _ _ _ => ⟨by rfl, (pa_cons (pv 2) (pa_cons (pv 3) (pa_cons (pe_ix (ix_listK (K := K) rfl) (pv 4) pe_int (fun _ _ => rfl)) pa_nil)))⟩)) pa_nil)))
  (pss_cons (ps_expr (pe_bm PySem.F.plainAttrs_list PySem.F.slot_list_append PySem.F.type_list_append mt_append (pv 7) (pa_cons (pe_metP FMe gMe bMe CA gLB FLB.kp bLB GLB TB rfl hmT hu (hr.mono (by decide)) (lamS_by (by show lamSB (defScope sRestR) _ = true; decide +kernel)) (by rfl) (by rfl) (fun _ _ _ _ _ => rfl) (fun _ _ _ _ _ _ _ => ⟨by rfl, (pa_cons (pv 2) (pa_cons (pv 3) (pa_cons (pe_ix (ix_listK (K := K) rfl) (pv 4) pe_int (fun _ _ => rfl)) pa_nil)))⟩)) pa_nil)))
  (pss_cons (ps_expr (pe_bm PySem.F.plainAttrs_list PySem.F.slot_list_append PySem.F.type_list_append mt_append (pv 7) (pa_cons (pe_metP FMe gMe bMe CA gWo FWo.kp bWo GWo TB rfl hmT hu (hr.mono (by decide)) (lamS_by (by show lamSB (defScope sRestR) _ = true; decide +kernel)) (by rfl) (by rfl) (fun _ _ _ _ _ => rfl) (fun _ _ _ _ _ _ _ => ⟨by rfl, (pa_cons (pv 2) (pa_cons (pe_ix (ix_listK (K := K) rfl) (pv 4) pe_int (fun _ _ => rfl)) pa_nil))⟩)) pa_nil)))
  (Evl.pss_cut (ps_for PassesOwn.never rfl (pi_list (pv 4)) (pg_name (i := 8) (x := "_law_one") scRR.nd rfl (Or.inl rfl)) (pss_one (ps_expr (pe_bm PySem.F.plainAttrs_list PySem.F.slot_list_append PySem.F.type_list_append mt_append (pv 8) (pa_cons pe_str pa_nil)))))
  (pss_one (ps_ret (pe_call GSm (hr.mono (by decide)) (by rfl) gSm FSm.kp bSm .nil pass0 (pa_cons (pv 7) (pa_cons (pe_lst (pa_cons (pe_tup (pa_cons pe_str (pa_cons (pe_lst (pa_cons pe_int (pa_cons pe_str pa_nil))) pa_nil))) (pa_cons (pe_tup (pa_cons pe_str (pa_cons (pe_lst (pa_cons pe_int (pa_cons pe_str pa_nil))) pa_nil))) (pa_cons (pe_tup (pa_cons pe_str (pa_cons (pe_ix ix_list (pv 4) pe_int (fun _ _ => rfl)) pa_nil))) pa_nil)))) pa_nil))))))))))), ?_⟩
    obtain ⟨p, q, rs, ds, htt, _⟩ := ht.ex
    refine ⟨fun σ' H' => ∃ (D h1 h2 h3 hd : Addr) (ns : List Int) (k : Nat), σ' = [some (.ref a), some (.ref t), some (.ref xm), some (.ref D), some (.ref hd), none, none, none, none, none] ∧ Fre a l H H' ∧ RI C a l xm D h1 h2 h3 hd n rt dt ns k T0 (N + 200) H' ∧ (k : Int) ≠ n ∧ k ≤ 40 ∧ (∀ b ∈ [h1, h2, h3], H b = none) ∧ h1 ≠ h2 ∧ h1 ≠ h3 ∧ h2 ≠ h3 ∧ isLotL dt.length [] (ns.map V.int) = true ∧ ns.length ≤ 15, ?_, ?_⟩
    · refine ⟨_, rfl, _, rfl, a, l, t, N, n, rt, dt, rfl, S, n0, by omega, ht, m15, fun H1 D ns g1 dn d1 lot l15 S1 => ?_⟩
      refine ⟨by show 1 ≤ sizeLine; decide, fun h1 q1 => ⟨by show 1 ≤ sizeLine; decide, fun h2 q2 => ⟨by show 1 ≤ sizeLine; decide, fun z q3 => ?_⟩⟩⟩
      have s1 := same_new (o := HO.lst [V.int 1]) q1
      have s2 := same_new (o := HO.lst [V.int 1]) q2
      have s3 := same_new (o := HO.lst [V.int 0]) q3
      have s13 := (s1.trans s2).trans s3
      obtain ⟨k, rfl⟩ := Int.eq_ofNat_of_zero_le (show 0 ≤ n by omega)
      refine ⟨_, rfl, t, _, 0, _, rfl, rfl, SqT.of (s13 _ _ (g1.t _ _ htt)), rfl, _, _, rfl, rfl, z, _, _, rfl, rfl, upd_same, by omega, by omega, ?_, fun h3 q4 => ⟨three_fit, fun hd q5 => ⟨two_fit, fun tp q6 => ?_⟩⟩⟩
      · show 1 * ((k : Int) + 1).toNat ≤ sizeLine
        exact Nat.le_of_lt (small1000 (by omega))
      have s4 := same_new (o := HO.lst (List.replicate ((k : Int) + 1).toNat [V.int 0]).flatten) q4
      have s5 := same_new (o := HO.lst [V.ref h1, V.ref h2, V.ref h3]) q5
      have s6 := same_new (o := HO.tup [V.ref D, V.ref hd]) q6
      have s16 := s13.trans ((s4.trans s5).trans s6)
      have k1 := ((s2.trans s3).trans ((s4.trans s5).trans s6)) _ _ (upd_same (H := H1) (a := h1) (o := HO.lst [V.int 1]))
      have k2 := (s3.trans ((s4.trans s5).trans s6)) _ _ (upd_same (a := h2) (o := HO.lst [V.int 1]))
      have k3 := (s5.trans s6) _ _ (upd_same (a := h3) (o := HO.lst (List.replicate ((k : Int) + 1).toNat [V.int 0]).flatten))
      have k4 := s6 _ _ (upd_same (a := hd) (o := HO.lst [V.ref h1, V.ref h2, V.ref h3]))
      have d12 : h1 ≠ h2 := fun y => by rw [← y, upd_same] at q2; cases q2
      have d13 : h1 ≠ h3 := fun y => by rw [← y, (s2.trans s3) _ _ upd_same] at q4; cases q4
      have d23 : h2 ≠ h3 := fun y => by rw [← y, s3 _ _ upd_same] at q4; cases q4
      have z1 := S1.ne_new q1
      have z2 := (S1.but s1).ne_new q2
      have z4 := (S1.but s13).ne_new q4
      have z5 := ((S1.but s13).but s4).ne_new q5
      have zD : D ≠ a ∧ D ≠ l := S.ne_new dn
      have gF : Go a l H _ := g1.trans (Go.same s16)
      have fl : (List.replicate ((k : Int) + 1).toNat [V.int 0]).flatten = List.replicate (k + 1) (V.int 0) := by rw [flat_one, show ((k : Int) + 1).toNat = k + 1 by omega]
      replace k3 := k3.trans (congrArg (fun x => some (HO.lst x)) fl)
      refine ⟨tp, _, rfl, SqT.of upd_same, rfl, _, _, rfl, _, _, rfl, rfl, D, h1, h2, h3, hd, ns, k + 1, rfl, .go gF, ⟨S1.but s16, tabs_go hT S gF, om.go gF, fun b hb => ?_, s16 _ _ d1, k1, k2, k3, k4⟩, by omega, by omega, fun b hb => ?_, d12, d13, d23, lot, l15⟩
      · simp only [List.mem_cons, List.not_mem_nil, or_false] at hb
        rcases hb with rfl | rfl | rfl | rfl | rfl
        · exact zD
        · exact z1
        · exact z2
        · exact z4
        · exact z5
      · have back : ∀ {b : Addr}, b ≠ a ∧ b ≠ l → H1 b = none → H b = none := fun {b} z e => by
          cases y : H b with
          | none => rfl
          | some o =>
            rw [g1.k b o z.1 z.2 y] at e
            cases e
        simp only [List.mem_cons, List.not_mem_nil, or_false] at hb
        rcases hb with rfl | rfl | rfl
        · exact back z1 q1
        · exact back z2 (none_back s1 q2)
        · exact back z4 (none_back s13 q4)
    clear om ht htt
    rintro σ' H1 ⟨D, h1, h2, h3, hd, ns, k, rfl, fr1, r1, kn, k40, new, d12, d13, d23, lot, l15⟩
    refine ⟨fun σ' H' => (∃ x5 x6 : Option V, σ' = [some (.ref a), some (.ref t), some (.ref xm), some (.ref D), some (.ref hd), x5, x6, none, none, none]) ∧ Fre a l H H' ∧ RI C a l xm D h1 h2 h3 hd n rt dt ns k T0 (N + 1600) H', ?_, ?_⟩
    · refine ⟨1, rfl, by show 1 ≤ sizeLine; decide, fun e1 q1 => ⟨by show 1 ≤ sizeLine; decide, fun e2 q2 => fun e3 q3 => ⟨by show 7 ≤ sizeLine; decide, fun tp q4 => ⟨tp, rfl, ⟨_, SqT.of upd_same⟩, ?_⟩⟩⟩⟩
      have s1 := same_new (o := HO.lst [V.int 5]) q1
      have s2 := same_new (o := HO.tup [V.int 5]) q2
      have s3 := same_new (o := HO.dK ([] : List (Key × V))) q3
      have s4 := same_new (o := HO.tup [V.non, V.bl true, V.int (-1), V.str "5", V.ref e1, V.ref e2, V.ref e3]) q4
      have s14 := (s1.trans s2).trans (s3.trans s4)
      have z1 := r1.s.ne_new q1
      have z2 := (r1.s.but s1).ne_new q2
      have z3 := (r1.s.but (s1.trans s2)).ne_new q3
      have z4 := (r1.s.but ((s1.trans s2).trans s3)).ne_new q4
      have k1 := (s2.trans (s3.trans s4)) _ _ (upd_same (H := H1) (a := e1) (o := HO.lst [V.int 5]))
      have k2 := (s3.trans s4) _ _ (upd_same (a := e2) (o := HO.tup [V.int 5]))
      have k3 := s4 _ _ (upd_same (a := e3) (o := HO.dK ([] : List (Key × V))))
      have k4 := upd_same (H := upd (upd (upd H1 e1 (.lst [V.int 5])) e2 (.tup [V.int 5])) e3 (.dK [])) (a := tp) (o := HO.tup [V.non, V.bl true, V.int (-1), V.str "5", V.ref e1, V.ref e2, V.ref e3])
      have r2 := r1.fre (Fre.ext (ext_of s14)) (r1.t.ext s14) (r1.s.but s14)
      have fr2 := fr1.trans (Fre.ext (ext_of s14))
      generalize upd (upd (upd (upd H1 e1 (.lst [V.int 5])) e2 (.tup [V.int 5])) e3 (.dK [])) tp (.tup [V.non, V.bl true, V.int (-1), V.str "5", V.ref e1, V.ref e2, V.ref e3]) = H2 at k1 k2 k3 k4 r2 fr2 ⊢
      clear s1 s2 s3 s4 s14 q1 q2 q3 q4 r1 fr1
      have items : ∀ x ∈ [V.non, V.bl true, V.int (-1), V.str "5", V.ref e1, V.ref e2, V.ref e3], OB a l H2 x ∧ isN x = false := fun x hx => by
        simp only [List.mem_cons, List.not_mem_nil, or_false] at hx
        rcases hx with rfl | rfl | rfl | rfl | rfl | rfl | rfl
        · exact ⟨.inl rfl, rfl⟩
        · exact ⟨.inl rfl, rfl⟩
        · exact ⟨.inl rfl, rfl⟩
        · exact ⟨.inl rfl, rfl⟩
        · exact ⟨.inr (.inl ⟨e1, _, rfl, z1.1, z1.2, .inl k1, (fun y hy => by rw [List.mem_singleton.mp hy]; rfl), by show 1 ≤ 10; decide⟩), rfl⟩
        · exact ⟨.inr (.inl ⟨e2, _, rfl, z2.1, z2.2, .inr k2, (fun y hy => by rw [List.mem_singleton.mp hy]; rfl), by show 1 ≤ 10; decide⟩), rfl⟩
        · exact ⟨.inr (.inr ⟨e3, rfl, z3.1, z3.2, k3⟩), rfl⟩
      refine for_it (g := gName 5) (walk_tup (xs := [V.non, V.bl true, V.int (-1), V.str "5", V.ref e1, V.ref e2, V.ref e3])) (fun j σ H' => (∃ x5 x6 : Option V, σ = [some (.ref a), some (.ref t), some (.ref xm), some (.ref D), some (.ref hd), x5, x6, none, none, none]) ∧ Fre a l H2 H' ∧ RI C a l xm D h1 h2 h3 hd n rt dt ns k T0 (N + 200 + 200 * j) H') ⟨⟨none, none, rfl⟩, .refl, r2.fre .refl r2.t (r2.s.mono (by omega))⟩ (fun i σ H' _ y => SqT.of (y.2.1 _ _ z4.1 z4.2 nt_tup k4)) ?_ ?_
      · rintro j x σ H4 H3 hj ⟨⟨x5, x6, rfl⟩, fr3, r3⟩ ⟨rfl, hx⟩
        obtain ⟨ob2, ni⟩ := items x (List.mem_of_getElem? hx)
        have hj : j < 7 := hj
        have ob := ob2.fre fr3
        have nD := r3.nal D (by simp)
        refine ⟨_, rfl, _, rfl, _, rfl, a, l, D, _, ns, dt.length, rfl, r3.s, by omega, by omega, nD.1, nD.2, r3.hD, lot, l15, fun H5 b ms g5 hb na nl sb lot5 l5 S5 => ⟨_, rfl, .ref xm, .ref b, x, rfl, tabs_go r3.t r3.s g5, fun H6 D1 f1 f2 f3 f4 e6 T6 d1 A1 => ?_⟩⟩
        have fr6 : Fre a l H3 H6 := (Fre.go g5).trans (.ext e6)
        have S6 := S5.ext e6
        have r6 := r3.fre fr6 T6 S6
        have ob6 := ob.fre fr6
        have sb6 : Sqs H6 b (ms.map V.int) := sb.imp (fun h => e6 _ _ h nt_lst) fun h => e6 _ _ h nt_tup
        have asks : ∀ y ∈ [V.ref f1, V.ref f2, V.ref f3, V.ref f4], ∃ f, y = V.ref f ∧ ∀ H1 : Hp, Ext H6 H1 → ∃ tl, Asks P w K mg base 7 H1 f tl ∧ ∀ E Q, Out H1 E Cb "bell" x → tl E H1 Q := fun y hy => by
          simp only [List.mem_cons, List.not_mem_nil, or_false] at hy
          have rf : ∀ {H1 : Hp} {E : XK}, Ext H6 H1 → Out H1 E Cb "bell" x → Rf3 K C Ch Cl Cb "bell" (.ref xm) (.ref b) x H1 E := fun {H1 E} e out => by
            have sb1 : Sqs H1 b (ms.map V.int) := sb6.imp (fun h => e _ _ h nt_lst) fun h => e _ _ h nt_tup
            obtain ⟨q1, q2⟩ := ints_lotty sb1 l5 lot5
            exact .inr ⟨a, l, xm, b, n, rt, dt, ms, rfl, r6.o.ext e, q1, q2, rfl, sb1, by omega, ob6.shp.ext e, ni, out⟩
          rcases hy with rfl | rfl | rfl | rfl
          · exact ⟨f1, rfl, fun H1 e1 => ⟨_, (A1 f1 (by simp)).ext e1, fun E Q out => rf e1 out⟩⟩
          · exact ⟨f2, rfl, fun H1 e1 => ⟨_, (A1 f2 (by simp)).ext e1, fun E Q out => rf e1 out⟩⟩
          · exact ⟨f3, rfl, fun H1 e1 => ⟨_, (A1 f3 (by simp)).ext e1, fun E Q out => rf e1 out⟩⟩
          · exact ⟨f4, rfl, fun H1 e1 => ⟨_, (A1 f4 (by simp)).ext e1, fun E Q out => rf e1 out⟩⟩
        clear A1 T6
        refine ⟨fun σ' H' => σ' = [some (.ref a), some (.ref t), some (.ref xm), some (.ref D), some (.ref hd), some x, some (.ref D1), none, none, none] ∧ Ext H6 H' ∧ Tabs T0 H', ?_, ?_⟩
        · refine ⟨_, rfl, D1, rfl, ⟨_, SqL.of d1⟩, fun D6 h6 => ?_⟩
          refine lc_it (walk_list (xs := [V.ref f1, V.ref f2, V.ref f3, V.ref f4])) (fun i H' => Ext H6 H' ∧ Tabs T0 H' ∧ ∃ acc, H' D6 = some (.lst acc) ∧ acc.length = i ∧ PrsAt H' "bell" x acc) ⟨ext_of (same_new h6), r6.t.ext (same_new h6), [], upd_same, rfl, fun y hy => by cases hy⟩ (fun i H' _ z => SqL.of (z.1 _ _ d1 nt_lst)) ?_ ?_
          · rintro i y H13 H14 hi ⟨e14, T14, acc, a14, l14, p14⟩ ⟨rfl, hy⟩
            dsimp only [tYes]
            obtain ⟨f, rfl, hf⟩ := asks y (List.mem_of_getElem? hy)
            obtain ⟨tl, as, use⟩ := hf _ e14
            refine ⟨rfl, iteT ⟨_, rfl, f, tl, rfl, as, use _ _ fun d H15 nd sm hd => .inr <| .inr <| .inl ⟨rfl, d, x, rfl, hd, two_fit, fun t2 ht2 => ?_⟩⟩⟩
            have st := same_new (o := HO.tup [V.str "bell", x]) ht2
            have e15 := ext_of (sm.trans st)
            have T15 := T14.ext (sm.trans st)
            have t15 : upd H15 t2 (.tup [.str "bell", x]) t2 = some (.tup [.str "bell", x]) := upd_same
            generalize upd H15 t2 (.tup [.str "bell", x]) = H16 at e15 T15 t15 ⊢
            have d16 := e15 _ _ a14 nt_lst
            refine ⟨acc, d16, small1000 (by rw [l14]; exact Nat.le_trans (Nat.le_of_lt hi) (by show 4 ≤ 1000; decide)), ext_upd (e14.trans e15) h6, tabs_lst T15 d16, acc ++ [.ref t2], upd_same, by rw [List.length_append, l14]; rfl, fun y hy => ?_⟩
            rcases List.mem_append.mp hy with hy | hy
            · obtain ⟨t3, rfl, h3⟩ := p14 y hy
              have h3' := e15 _ _ h3 nt_tup
              exact ⟨t3, rfl, by rw [upd_ne (ne_of h3' d16 fun z => by cases z)]; exact h3'⟩
            · exact ⟨t2, List.mem_singleton.mp hy, by rw [upd_ne (ne_of t15 d16 fun z => by cases z)]; exact t15⟩
          · rintro H13 ⟨e13, T13, acc, a13, l13, p13⟩
            have l13 : acc.length = 4 := l13
            refine ⟨_, rfl, two_fit, fun u hu => ⟨by show 1 ≤ sizeLine; decide, fun D7 h7 => ⟨_, rfl, D1, _, rfl, .inl (SqL.of (same_new h7 _ _ (same_new hu _ _ (e13 _ _ d1 nt_lst)))), D7, _, _, rfl, rfl, upd_same, by show -2 ^ 63 ≤ ((4 : Nat) : Int); decide, by show ((4 : Nat) : Int) < 2 ^ 63; decide, by show 1 * (((4 : Nat) : Int)).toNat ≤ sizeLine; decide, fun D8 h8 => ?_⟩⟩⟩
            have w1 := same_new (o := HO.tup [V.str "bell", x]) hu
            have w2 := same_new (o := HO.lst [V.ref u]) h7
            have w3 := same_new (o := HO.lst (List.replicate (((4 : Nat) : Int)).toNat [V.ref u]).flatten) h8
            have w13 := (w1.trans w2).trans w3
            have oe := (ob6.eqt (K := K) (C := C) (n := 5)).ext (e13.trans (ext_of w13))
            refine ⟨_, _, rfl, .inr (.inl ⟨D6, D8, acc, _, rfl, rfl, w13 _ _ a13, upd_same, ?_, by rw [l13]; decide⟩), fun H17 s17 => ⟨_, rfl, iteF ⟨rfl, e13.trans (ext_of (w13.trans s17)), T13.ext (w13.trans s17)⟩⟩⟩
            have z := (p13.ext (ext_of w13)).eqt oe (u := u) ((w2.trans w3) _ _ upd_same)
            rw [l13] at z
            rw [flat_one]
            exact z
        rintro σ' H7 ⟨rfl, e7, T7⟩
        have r7 := r6.fre (.ext e7) T7 (S6.ext e7)
        have ob7 := ob6.fre (.ext e7)
        refine ⟨T7, fun H8 e8 T8 => ?_⟩
        have r8 := r7.fre (.ext e8) T8 (r7.s.ext e8)
        have ob8 := ob7.fre (.ext e8)
        obtain ⟨q1, q2⟩ := ints_lotty (m := dt.length) (.inl r8.hD) l15 lot
        refine ⟨_, rfl, _, rfl, _, rfl, .ref xm, .ref D, x, rfl, Rf3.ref nt k0 kc (.inr ⟨a, l, xm, D, n, rt, dt, ns, rfl, r8.o, q1, q2, rfl, .inl r8.hD, by omega, ob8.shp, ni, fun d H9 nd sm hd => .inr <| .inr <| .inr <| .inl ⟨rfl, d, x, rfl, hd, two_fit, fun t2 ht2 => ?_⟩⟩)⟩
        have st := same_new (o := HO.tup [V.str "amount", x]) ht2
        refine ⟨_, rfl, two_fit, fun u hu => ?_⟩
        have su := same_new (o := HO.tup [V.str "amount", x]) hu
        have s9 := (sm.trans st).trans su
        have ob9 := ob8.fre (.ext (ext_of s9))
        refine ⟨_, _, rfl, .inr (.inr (.inl ⟨t2, u, _, _, rfl, rfl, su _ _ upd_same, upd_same, .cons (eqt_atom rfl) (.cons (ob9.eqt (n := 6)) .nil), by show 2 ≤ 1000; decide⟩)), fun H11 s11 => ⟨_, rfl, iteF ?_⟩⟩
        have x11 : Ext H6 H11 := (e7.trans e8).trans (ext_of (s9.trans s11))
        exact ⟨⟨_, _, rfl⟩, (fr3.trans fr6).trans (.ext x11), r8.fre (.ext (ext_of (s9.trans s11))) (T8.ext (s9.trans s11)) ((r8.s.but (s9.trans s11)).mono (by omega))⟩
      · rintro σ H3 ⟨y, fr3, r3⟩
        exact ⟨y, fr2.trans fr3, r3.fre .refl r3.t (r3.s.mono (by show N + 200 + 200 * ((7 : Nat) : Int) ≤ N + 1600; omega))⟩
    clear fr1 r1
    rintro σ' H1 ⟨⟨x5, x6, rfl⟩, fr1, r1⟩
    have nh1 := r1.nal h1 (by simp)
    have nh2 := r1.nal h2 (by simp)
    have nh3 := r1.nal h3 (by simp)
    have rest : ∀ {M : Int} {H' : Hp} {hx : Addr} {Ca' : Addr} {fb : Str} {E : XK}, RI C a l xm D h1 h2 h3 hd n rt dt ns k T0 M H' → Shp H' (.ref hx) → Out H' E Ca' fb (.ref hx) → Ref3 K C Ch Cl Ca' fb (.ref xm) (.ref D) (.ref hx) H' E := fun {M H' hx Ca' fb E} r sh out => by
      obtain ⟨q1, q2⟩ := ints_lotty (m := dt.length) (.inl r.hD) l15 lot
      exact Rf3.ref nt k0 kc (.inr ⟨a, l, xm, D, n, rt, dt, ns, rfl, r.o, q1, q2, rfl, .inl r.hD, by omega, sh, rfl, out⟩)
    -- the bell
    refine ⟨r1.t, fun H2 e2 T2 => ?_⟩
    have r2 := r1.fre (.ext e2) T2 (r1.s.ext e2)
    refine ⟨_, rfl, _, rfl, _, rfl, hd, _, 0, .ref h1, rfl, rfl, SqL.of r2.e4, rfl, .ref xm, .ref D, .ref h1, rfl, rest r2 (.inr (.inl ⟨_, _, rfl, r2.e1⟩)) fun d H3 nd sm hd' => .inr <| .inr <| .inl ⟨rfl, d, .ref h1, rfl, hd', two_fit, fun t1 ht1 => ⟨by show 1 ≤ sizeLine; decide, fun F hF => ?_⟩⟩⟩
    have u1 := same_new (o := HO.tup [V.str "bell", V.ref h1]) ht1
    have u2 := same_new (o := HO.lst [V.ref t1]) hF
    have u12 := (sm.trans u1).trans u2
    have p1 := u2 _ _ (upd_same (H := H3) (a := t1) (o := HO.tup [V.str "bell", V.ref h1]))
    have f1 : upd (upd H3 t1 (.tup [.str "bell", .ref h1])) F (.lst [.ref t1]) F = some (.lst [.ref t1]) := upd_same
    have r3 := r2.fre (.ext (ext_of u12)) (T2.ext u12) (r2.s.but u12)
    have nF := (r2.s.but (sm.trans u1)).ne_new hF
    have x3 : Ext H1 _ := e2.trans (ext_of u12)
    have newF : H1 F = none ∨ True := .inr trivial
    have hF2 : H2 F = none := none_back (sm.trans u1) hF
    have b3 := ext_of u12
    generalize upd (upd H3 t1 (.tup [.str "bell", .ref h1])) F (.lst [.ref t1]) = H4 at p1 f1 r3 x3 b3 ⊢
    clear sm u1 u2 u12 nd hd' ht1 hF newF
    -- the amount
    refine ⟨_, rfl, .inl ⟨rfl, _, SqL.of f1⟩, r3.t, fun H5 e5 T5 => ?_⟩
    have r5 := r3.fre (.ext e5) T5 (r3.s.ext e5)
    refine ⟨_, rfl, _, rfl, _, rfl, hd, _, 1, .ref h2, rfl, rfl, SqL.of r5.e4, rfl, .ref xm, .ref D, .ref h2, rfl, rest r5 (.inr (.inl ⟨_, _, rfl, r5.e2⟩)) fun d H6 nd sm hd' => .inr <| .inr <| .inr <| .inl ⟨rfl, d, .ref h2, rfl, hd', two_fit, fun t2 ht2 => ?_⟩⟩
    have u1 := same_new (o := HO.tup [V.str "amount", V.ref h2]) ht2
    have u12 := sm.trans u1
    have f2 := u12 _ _ (e5 _ _ f1 nt_lst)
    refine ⟨F, [.ref t1], .ref t2, rfl, rfl, f2, by show 1 < sizeLine; decide, ?_⟩
    have p1' := u12 _ _ (e5 _ _ p1 nt_tup)
    have x6' : Ext H2 (upd (upd H6 t2 (.tup [.str "amount", .ref h2])) F (.lst ([.ref t1] ++ [.ref t2]))) := ext_upd ((b3.trans e5).trans (ext_of u12)) hF2
    have T6 := tabs_lst (ys := [V.ref t1] ++ [V.ref t2]) (T5.ext u12) f2
    have r6 := r2.fre (.ext x6') T6 (r2.s.ext x6')
    have p2 : upd (upd H6 t2 (.tup [.str "amount", .ref h2])) F (.lst ([.ref t1] ++ [.ref t2])) t2 = some (.tup [.str "amount", .ref h2]) := by
      rw [upd_ne (ne_of upd_same f2 fun z => by cases z)]
      exact upd_same
    have p1 : upd (upd H6 t2 (.tup [.str "amount", .ref h2])) F (.lst ([.ref t1] ++ [.ref t2])) t1 = some (.tup [.str "bell", .ref h1]) := by
      rw [upd_ne (ne_of p1' f2 fun z => by cases z)]
      exact p1'
    have f3 : upd (upd H6 t2 (.tup [.str "amount", .ref h2])) F (.lst ([.ref t1] ++ [.ref t2])) F = some (.lst ([.ref t1] ++ [.ref t2])) := upd_same
    generalize upd (upd H6 t2 (.tup [.str "amount", .ref h2])) F (.lst ([.ref t1] ++ [.ref t2])) = H7 at p1 p2 f3 x6' r6 ⊢
    clear sm u1 u12 nd hd' ht2 p1' f1 f2 r3 r5 e5 T5 T6 x3 b3
    -- the moments
    refine ⟨_, rfl, .inl ⟨rfl, _, SqL.of f3⟩, r6.t, fun H8 e8 T8 => ?_⟩
    have r8 := r6.fre (.ext e8) T8 (r6.s.ext e8)
    refine ⟨_, rfl, _, rfl, hd, _, 2, .ref h3, rfl, rfl, SqL.of r8.e4, rfl, .ref xm, .ref h3, rfl, .inr ⟨a, l, xm, h3, n, rt, dt, _, rfl, hobj_isC k0 kc r8.o, r8.o, rfl, .inl r8.e3, by rw [List.length_replicate]; exact kn, fun d H9 nd sm hd' => .inr <| .inr <| .inr <| .inr ⟨rfl, d, .ref h3, rfl, hd', two_fit, fun t3 ht3 => ?_⟩⟩⟩
    have u1 := same_new (o := HO.tup [V.str "moments", V.ref h3]) ht3
    have u12 := sm.trans u1
    have f4 := u12 _ _ (e8 _ _ f3 nt_lst)
    refine ⟨F, [.ref t1] ++ [.ref t2], .ref t3, rfl, rfl, f4, by show 2 < sizeLine; decide, ?_⟩
    have p1' := u12 _ _ (e8 _ _ p1 nt_tup)
    have p2' := u12 _ _ (e8 _ _ p2 nt_tup)
    have x9 : Ext H2 (upd (upd H9 t3 (.tup [.str "moments", .ref h3])) F (.lst ([.ref t1] ++ [.ref t2] ++ [.ref t3]))) := ext_upd ((x6'.trans e8).trans (ext_of u12)) hF2
    have T9 := tabs_lst (ys := [V.ref t1] ++ [V.ref t2] ++ [V.ref t3]) (T8.ext u12) f4
    have r9 := r2.fre (.ext x9) T9 (r2.s.ext x9)
    have g3 : upd (upd H9 t3 (.tup [.str "moments", .ref h3])) F (.lst ([.ref t1] ++ [.ref t2] ++ [.ref t3])) t3 = some (.tup [.str "moments", .ref h3]) := by
      rw [upd_ne (ne_of upd_same f4 fun z => by cases z)]
      exact upd_same
    have g2 : upd (upd H9 t3 (.tup [.str "moments", .ref h3])) F (.lst ([.ref t1] ++ [.ref t2] ++ [.ref t3])) t2 = some (.tup [.str "amount", .ref h2]) := by
      rw [upd_ne (ne_of p2' f4 fun z => by cases z)]
      exact p2'
    have g1 : upd (upd H9 t3 (.tup [.str "moments", .ref h3])) F (.lst ([.ref t1] ++ [.ref t2] ++ [.ref t3])) t1 = some (.tup [.str "bell", .ref h1]) := by
      rw [upd_ne (ne_of p1' f4 fun z => by cases z)]
      exact p1'
    have g0 : upd (upd H9 t3 (.tup [.str "moments", .ref h3])) F (.lst ([.ref t1] ++ [.ref t2] ++ [.ref t3])) F = some (.lst ([.ref t1] ++ [.ref t2] ++ [.ref t3])) := upd_same
    have fr9 : Fre a l H _ := fr1.trans (.ext (e2.trans x9))
    generalize upd (upd H9 t3 (.tup [.str "moments", .ref h3])) F (.lst ([.ref t1] ++ [.ref t2] ++ [.ref t3])) = G at g0 g1 g2 g3 r9 fr9 ⊢
    clear sm u1 u12 nd hd' ht3 p1 p2 f3 f4 p1' p2' x9 T9 r8 e8 T8 r6 x6' hF2 r2 e2 T2 rest
    refine ⟨fun σ' H' => (∃ x8 : Option V, σ' = [some (.ref a), some (.ref t), some (.ref xm), some (.ref D), some (.ref hd), x5, x6, some (.ref F), x8, none]) ∧ Tabs T0 H' ∧ (∀ b, b ≠ h1 → b ≠ h2 → b ≠ h3 → H' b = G b) ∧ H' h1 = some (.lst [.int 1, .str "late"]) ∧ H' h2 = some (.lst [.int 1, .str "late"]) ∧ H' h3 = some (.lst (List.replicate k (.int 0) ++ [.str "late"])), ?_, ?_⟩
    · have dh1 : hd ≠ h1 := ne_of r9.e4 r9.e1 fun z => by cases z
      have dh2 : hd ≠ h2 := ne_of r9.e4 r9.e2 fun z => by cases z
      have dh3 : hd ≠ h3 := ne_of r9.e4 r9.e3 fun z => by
        have z := HO.lst.inj z
        cases k with
        | zero => cases z
        | succ k =>
          rw [List.replicate_succ] at z
          cases (List.cons.inj z).1
      have L1 : List V := [.str "late"]
      refine ⟨_, rfl, hd, rfl, ⟨_, SqL.of r9.e4⟩, ?_⟩
      refine for_it (g := gName 8) (walk_list (xs := [V.ref h1, V.ref h2, V.ref h3])) (fun j σ H' => (∃ x8 : Option V, σ = [some (.ref a), some (.ref t), some (.ref xm), some (.ref D), some (.ref hd), x5, x6, some (.ref F), x8, none]) ∧ Tabs T0 H' ∧ (∀ b, b ≠ h1 → b ≠ h2 → b ≠ h3 → H' b = G b) ∧ H' h1 = some (.lst ([.int 1] ++ if 0 < j then [.str "late"] else [])) ∧ H' h2 = some (.lst ([.int 1] ++ if 1 < j then [.str "late"] else [])) ∧ H' h3 = some (.lst (List.replicate k (.int 0) ++ if 2 < j then [.str "late"] else []))) ⟨⟨none, rfl⟩, r9.t, fun b _ _ _ => rfl, r9.e1, r9.e2, by rw [if_neg (by decide), List.append_nil]; exact r9.e3⟩ (fun i σ H' _ y => SqL.of (by rw [y.2.2.1 hd dh1 dh2 dh3]; exact r9.e4)) ?_ ?_
      · rintro j x σ H4 H3 hj ⟨⟨x8, rfl⟩, T3, fr3, q1, q2, q3⟩ ⟨rfl, hx⟩
        match j, hx, q1, q2, q3 with
        | 0, hx, q1, q2, q3 =>
          cases hx
          refine ⟨_, rfl, .inl ⟨rfl, _, SqL.of q1⟩, h1, _, .str "late", rfl, rfl, q1, by show 1 < sizeLine; decide, ⟨_, rfl⟩, tabs_lst T3 q1, fun b n1 n2 n3 => by rw [upd_ne n1]; exact fr3 b n1 n2 n3, upd_same, ?_, ?_⟩
          · rw [upd_ne d12.symm]
            exact q2
          · rw [upd_ne d13.symm]
            exact q3
        | 1, hx, q1, q2, q3 =>
          cases hx
          refine ⟨_, rfl, .inl ⟨rfl, _, SqL.of q2⟩, h2, _, .str "late", rfl, rfl, q2, by show 1 < sizeLine; decide, ⟨_, rfl⟩, tabs_lst T3 q2, fun b n1 n2 n3 => by rw [upd_ne n2]; exact fr3 b n1 n2 n3, ?_, upd_same, ?_⟩
          · rw [upd_ne d12]
            exact q1
          · rw [upd_ne d23.symm]
            exact q3
        | 2, hx, q1, q2, q3 =>
          cases hx
          refine ⟨_, rfl, .inl ⟨rfl, _, SqL.of q3⟩, h3, _, .str "late", rfl, rfl, q3, small1000 (by rw [List.length_append, List.length_replicate]; show k + 0 ≤ 1000; omega), ⟨_, rfl⟩, tabs_lst T3 q3, fun b n1 n2 n3 => by rw [upd_ne n3]; exact fr3 b n1 n2 n3, ?_, ?_, ?_⟩
          · rw [upd_ne d13]
            exact q1
          · rw [upd_ne d23]
            exact q2
          · rw [upd_same, if_neg (by decide), List.append_nil]
            rfl
        | j + 3, hx, q1, q2, q3 => cases hx
      · rintro σ H3 ⟨y, T3, fr3, q1, q2, q3⟩
        exact ⟨y, T3, fr3, q1, q2, q3⟩
    rintro σ' H3 ⟨⟨x8, rfl⟩, T3, fr3, q1, q2, q3⟩
    have off : ∀ {b : Addr} {o : HO}, G b = some o → (∀ xs, o ≠ .lst xs) → H3 b = some o := fun {b o} e n => by
      rw [fr3 b (fun z => by rw [z, r9.e1] at e; exact n _ (Option.some.inj e).symm) (fun z => by rw [z, r9.e2] at e; exact n _ (Option.some.inj e).symm) (fun z => by rw [z, r9.e3] at e; exact n _ (Option.some.inj e).symm)]
      exact e
    have no3 : ∀ {b : Addr} {u v w : Addr}, G b = some (.lst [.ref u, .ref v, .ref w]) → H3 b = some (.lst [.ref u, .ref v, .ref w]) := fun {b u v w} e => by
      rw [fr3 b (ne_of e r9.e1 fun z => by cases z) (ne_of e r9.e2 fun z => by cases z) (ne_of e r9.e3 fun z => by
        have z := HO.lst.inj z
        cases k with
        | zero => cases z
        | succ k =>
          rw [List.replicate_succ] at z
          cases (List.cons.inj z).1)]
      exact e
    have gF := no3 (show G F = some (.lst [.ref t1, .ref t2, .ref t3]) from g0)
    have gD := no3 r9.e4
    have G1 := off g1 fun xs z => by cases z
    have G2 := off g2 fun xs z => by cases z
    have G3 := off g3 fun xs z => by cases z
    have fr : Fre a l H H3 := fun b o n1 n2 nt e => by
      have nb : ∀ c ∈ [h1, h2, h3], b ≠ c := fun c hc z => by
        rw [z, new c hc] at e
        cases e
      rw [fr3 b (nb h1 (by simp)) (nb h2 (by simp)) (nb h3 (by simp))]
      exact fr9 b o n1 n2 nt e
    have S3 : Strm (N + 1600) H3 a l := by
      obtain ⟨xs, cc, nn, mm, z1, z2, z3⟩ := r9.s.ex
      exact ⟨xs, cc, nn, mm, by rw [fr3 a nh1.1.symm nh2.1.symm nh3.1.symm]; exact z1, by rw [fr3 l nh1.2.symm nh2.2.symm nh3.2.symm]; exact z2, z3⟩
    refine ⟨_, rfl, two_fit, fun b1 y1 => ⟨two_fit, fun c1 y2 => ⟨two_fit, fun b2 y3 => ⟨two_fit, fun c2 y4 => ?_⟩⟩⟩⟩
    have w1 := same_new (o := HO.lst [V.int 1, V.str "late"]) y1
    have w2 := same_new (o := HO.tup [V.str "bell", V.ref b1]) y2
    have w3 := same_new (o := HO.lst [V.int 1, V.str "late"]) y3
    have w4 := same_new (o := HO.tup [V.str "amount", V.ref b2]) y4
    have w14 := (w1.trans w2).trans (w3.trans w4)
    refine ⟨_, rfl, hd, _, 2, .ref h3, rfl, rfl, SqL.of (w14 _ _ gD), rfl, two_fit, fun c3 y5 => ⟨three_fit, fun L y6 => ?_⟩⟩
    have w5 := same_new (o := HO.tup [V.str "moments", V.ref h3]) y5
    have w6 := same_new (o := HO.lst [V.ref c1, V.ref c2, V.ref c3]) y6
    have w56 := w5.trans w6
    have w46 := w4.trans w56
    have w36 := w3.trans w46
    have w26 := w2.trans w36
    have w16 := w1.trans w26
    refine ⟨_, _, rfl, .inr (.inl ⟨F, L, _, _, rfl, rfl, w16 _ _ gF, upd_same, .cons ?_ (.cons ?_ (.cons ?_ .nil)), by show 3 ≤ 1000; decide⟩), fun H4 s4 => fin H4 (fr.trans (.ext (ext_of (w16.trans s4)))) (T3.ext (w16.trans s4)) ((S3.but (w16.trans s4)).mono (by omega))⟩
    · exact .inr (.inr (.inl ⟨t1, c1, _, _, rfl, rfl, w16 _ _ G1, w36 _ _ upd_same, .cons (eqt_atom rfl) (.cons (.inr (.inl ⟨h1, b1, _, _, rfl, rfl, w16 _ _ q1, w26 _ _ upd_same, .cons (eqt_atom rfl) (.cons (eqt_atom rfl) .nil), by show 2 ≤ 1000; decide⟩)) .nil), by show 2 ≤ 1000; decide⟩))
    · exact .inr (.inr (.inl ⟨t2, c2, _, _, rfl, rfl, w16 _ _ G2, w56 _ _ upd_same, .cons (eqt_atom rfl) (.cons (.inr (.inl ⟨h2, b2, _, _, rfl, rfl, w16 _ _ q2, w46 _ _ upd_same, .cons (eqt_atom rfl) (.cons (eqt_atom rfl) .nil), by show 2 ≤ 1000; decide⟩)) .nil), by show 2 ≤ 1000; decide⟩))
    · refine .inr (.inr (.inl ⟨t3, c3, _, _, rfl, rfl, w16 _ _ G3, w6 _ _ upd_same, .cons (eqt_atom rfl) (.cons (.inr (.inl ⟨h3, h3, _, _, rfl, rfl, w16 _ _ q3, w16 _ _ q3, atoms_eqt fun y hy => ?_, by rw [List.length_append, List.length_replicate]; show k + 1 ≤ 1000; omega⟩)) .nil), by show 2 ≤ 1000; decide⟩))
      rcases List.mem_append.mp hy with hy | hy
      · rw [List.eq_of_mem_replicate hy]
        rfl
      · rw [List.mem_singleton.mp hy]
        rfl
end
end K17

set_option Elab.async false
set_option linter.all false
set_option maxRecDepth 100000
set_option maxHeartbeats 4000000
namespace K17
open PySem PySem.Spec PyProof.Rows L2 Own
/-! a House of one place is equal to itself -/
section
variable {P : Program} {w : World} {K : PySem.W.Frag} {mg : Str → Option Value} {base : Heap} {C : Addr}
theorem ok_heq4 (k : HKn K C) {f : Addr} {fd : FuncData} (F : Fun K "__eq__" "House.__eq__" sHEq f fd) (T : Bt mg) (gC : mg "House" = some (.ref C)) : FnOk P w K mg base CX0 1 f fd ["self", "other"] (spEq4 C) := by
  refine F.ok scHEq (fun vs H Q E h => ?_) (fun cdv A outer s H vs Q E hr h => ?_)
  · obtain ⟨x, rfl, _⟩ := h
    rfl
  · obtain ⟨x, rfl, ⟨dx, p, p2, h1, h2, h3⟩, q⟩ := h
    refine ⟨_, pss_one (ps_ret (pe_and (pe_callB call_isi (by rfl) T.isi (by decide +kernel) (pa_cons (pv 1) (pa_cons (pe_glob (v := .ref C) (by rfl) gC rfl) pa_nil)))
      (pe_and (pe_cmpR op_eq (pe_fld (pv 0) rfl) (pe_fld (pv 1) rfl) (nomark _)) (pe_and (pe_cmpR (op_eqD hr.units) (pe_fld (pv 0) rfl) (pe_fld (pv 1) rfl) (nomark _)) (pe_one (pe_cmpR (op_eqD hr.units) (pe_fld (pv 0) rfl) (pe_fld (pv 1) rfl) (nomark _))))))), ?_⟩
    refine ⟨_, rfl, _, _, _, _, true, rfl, .own C, .base (.ins h1 k.hc.cl k.ha k.hn k.ht k.hm), ?_, _, rfl, iteT ?_⟩
    · unfold PySem.W.kitOne
      rw [if_pos (by simp)]
    refine ⟨_, rfl, x, C, dx, _, _, rfl, h1, k.hc.cl, k.hc.nP, rfl, _, rfl, x, C, dx, _, _, rfl, h1, k.hc.cl, k.hc.nP, rfl, rfl, _, rfl, iteT ?_⟩
    refine ⟨_, rfl, x, C, dx, _, _, rfl, h1, k.hc.cl, k.hc.nR, rfl, _, rfl, x, C, dx, _, _, rfl, h1, k.hc.cl, k.hc.nR, rfl, .list [], .list [], .lst (SqL.of h2) .nil, .lst (SqL.of h2) .nil, rfl, rfl, _, rfl, iteT ?_⟩
    exact ⟨_, rfl, x, C, dx, _, _, rfl, h1, k.hc.cl, k.hc.nD, rfl, _, rfl, x, C, dx, _, _, rfl, h1, k.hc.cl, k.hc.nD, rfl, .list [], .list [], .lst (SqL.of h3) .nil, .lst (SqL.of h3) .nil, rfl, rfl, q⟩
end
end K17

set_option Elab.async false
set_option linter.all false
set_option maxRecDepth 100000
set_option maxHeartbeats 8000000
namespace K17
open PySem PySem.Spec PyProof.Rows L2 Own LamX
/-! the law's body -/
abbrev NLaw : List Str := ["_law_script", "_law_stream_here", "_law_turn", "_law_house_here", "_law_made_here"]
theorem scLaw : FnScope NLaw ["_law_script"] (defScope sLaw) := ⟨rfl, rfl, rfl, by decide +kernel, rfl, by decide +kernel, by decide +kernel⟩
section
variable {P : Program} {w : World} {K : PySem.W.Frag} {mg : Str → Option Value} {base : Heap} {C : Addr}
theorem law_body {T0 : List (Addr × Str)} {f fSt fD fHo fMa fHR fLR fRR : Addr} {fdSt fdD fdHo fdMa fdHR fdLR fdRR : FuncData} (T : Bt mg)
    (FSt : Fun K "_law_stream" "_law_stream" sStream fSt fdSt) (gSt : mg "_law_stream" = some (.ref fSt)) (bSt : Binds K fdSt ["_law_script"] [])
    (FHo : Fun K "_law_house" "_law_house" sHouse fHo fdHo) (gHo : mg "_law_house" = some (.ref fHo)) (bHo : Binds K fdHo ["_law_stream_here", "_law_places", "_law_full", "_law_doors"] []) (GHo : FnOk P w K mg base CX0 3 fHo fdHo ["_law_stream_here", "_law_places", "_law_full", "_law_doors"] spHouse)
    (FMa : Fun K "_law_made" "_law_made" sMade fMa fdMa) (gMa : mg "_law_made" = some (.ref fMa)) (bMa : Binds K fdMa ["_law_stream_here", "_law_house_here"] []) (GMa : FnOk P w K mg base CX0 8 fMa fdMa ["_law_stream_here", "_law_house_here"] (spMade C))
    (kHR : PySem.W.keepIn K (.ref fHR) = true) (gHR : mg "_law_houses_right" = some (.ref fHR)) (bHR : Binds K fdHR ["_law_house_here"] []) (GHR : FnOk P w K mg base CX0 13 fHR fdHR ["_law_house_here"] (spHR T0))
    (FLR : Fun K "_law_lots_right" "_law_lots_right" sLotR fLR fdLR) (gLR : mg "_law_lots_right" = some (.ref fLR)) (bLR : Binds K fdLR ["_law_stream_here", "_law_house_here", "_law_made_here"] []) (GLR : FnOk P w K mg base CX0 13 fLR fdLR ["_law_stream_here", "_law_house_here", "_law_made_here"] (spLR C T0))
    (kRR : PySem.W.keepIn K (.ref fRR) = true) (gRR : mg "_law_rest_right" = some (.ref fRR)) (bRR : Binds K fdRR ["_law_stream_here", "_law_house_here", "_law_made_here"] []) (GRR : FnOk P w K mg base CX0 13 fRR fdRR ["_law_stream_here", "_law_house_here", "_law_made_here"] (spRR C T0))
    {A : Around} {outer : List Env} {s : Shared} {H : Hp} {Q : VK} {E : XK} {a : Addr} {ns : List Int} {cdv : Value} (hr : Room 14 (A.deeper (envOfC "law" (defScope sLaw) s.heap.objs.size f cdv)))
    (hS : SqL K H a (ns.map V.int)) (hl : ns.length ≤ 63) (hT : Tabs T0 H) (k : ∀ H', Q (.bl true) H') :
    ∃ t, PSs (cxOf CX0 P w K mg base NLaw "law" (defScope sLaw) f cdv A outer s H E).nox (defBody sLaw) t ∧ t { nx := fun _ H' => Q .non H', rt := Q } (L2.start NLaw [.ref a]) H := by
  have GSt : FnOk P w K mg base CX0 1 fSt fdSt ["_law_script"] (spStream K) := ok_stream FSt T
  refine ⟨_, (pss_cons (ps_set (i := 1) scLaw.nd rfl (Or.inl rfl) (pe_call GSt (hr.mono (by decide)) (by rfl) gSt FSt.kp bSt .nil pass0 (pa_cons (pv 0) pa_nil)))
  (pss_cons (ps_for PassesOwn.never rfl (pi_range1 (by rfl) T.range (pa_cons pe_int pa_nil)) (pg_name (i := 2) (x := "_law_turn") scLaw.nd rfl (Or.inl rfl)) (pss_cons (ps_set (i := 3) scLaw.nd rfl (Or.inl rfl) (pe_call GHo (hr.mono (by decide)) (by rfl) gHo FHo.kp bHo .nil pass0 (pa_cons (pv 1) (pa_cons pe_int (pa_cons pe_int (pa_cons pe_int pa_nil))))))
  (pss_cons (ps_set (i := 4) scLaw.nd rfl (Or.inl rfl) (pe_call GMa (hr.mono (by decide)) (by rfl) gMa FMa.kp bMa .nil pass0 (pa_cons (pv 1) (pa_cons (pv 3) pa_nil))))
  (pss_cons (ps_if (PW.pt (pw_or (pt_not (pt_val (pe_call GHR (hr.mono (by decide)) (by rfl) gHR kHR bHR .nil pass0 (pa_cons (pv 3) pa_nil)))) (pw_or1 (pt_not (pt_val (pe_call GLR (hr.mono (by decide)) (by rfl) gLR FLR.kp bLR .nil pass0 (pa_cons (pv 1) (pa_cons (pv 3) (pa_cons (pv 4) pa_nil))))))))) (pss_one (ps_ret pe_bl)) pss_nil)
  (pss_one (ps_if (pt_not (pt_val (pe_call GRR (hr.mono (by decide)) (by rfl) gRR kRR bRR .nil pass0 (pa_cons (pv 1) (pa_cons (pv 3) (pa_cons (pv 4) pa_nil)))))) (pss_one (ps_ret pe_bl)) pss_nil))))))
  (pss_one (ps_ret pe_bl)))), ?_⟩
  refine ⟨_, rfl, a, ns, rfl, hS, hl, fun H1 st l e1 nst nl S0 => ?_⟩
  have T1 : Tabs T0 H1 := hT.ext e1
  clear hS hl hT e1 nst nl
  refine ⟨4, rfl, by decide, by decide, ?_⟩
  refine for_it (g := gName 2) (walk_range (lo := 0) (n := 4)) (fun i σ H' => (∃ x2 x3 x4 : Option V, σ = [some (.ref a), some (.ref st), x2, x3, x4]) ∧ Tabs T0 H' ∧ Strm (10000 * (i : Int)) H' st l) ⟨⟨none, none, none, rfl⟩, T1, S0.mono (by omega)⟩ (fun _ _ _ _ _ => trivial) ?_ ?_
  · rintro i x σ H2 H3 hi ⟨⟨x2, x3, x4, rfl⟩, T2, S2⟩ ⟨rfl, rfl⟩
    clear T1 S0
    generalize hB : 10000 * (i : Int) = B at S2
    have B0 : 0 ≤ B := by omega
    have B1 : B ≤ 30000 := by omega
    refine ⟨_, rfl, st, l, B, 5, 7, 4, rfl, S2, B0, by omega, by decide, by decide, by decide, by decide, by decide, by decide, fun H4 t pr pd many xs ys b4 t0 pr0 pd0 ht hm HA S4 => ?_⟩
    obtain ⟨rt, dt, t1, t2, hou, d2⟩ := hou_of HA (by decide) (by decide) (by decide)
    have npr := S2.ne_new pr0
    have npd := S2.ne_new pd0
    have HH : HT st l H4 t many rt dt := ⟨pr, pd, xs, ys, ht, ⟨npr.1, npr.2, HA.r⟩, ⟨npd.1, npd.2, HA.d⟩, t1, t2⟩
    have T4 := tabs_go T2 S2 (Go.but S2 b4)
    have ld : dt.length ≤ 15 := by
      have z1 := HA.ld
      have z2 := t2.len
      omega
    have n2 := hou.n2
    have n20 := hou.n20
    have good := hou.good
    refine ⟨_, rfl, _, rfl, st, l, t, _, many, rt, dt, rfl, S4, by omega, by omega, HH, good, fun H5 xm g5 om S5 => ?_⟩
    have T5 := tabs_go T4 S4 g5
    have HH5 := HH.go g5
    refine ⟨_, rfl, st, l, t, many, rt, dt, rfl, HH5, good, T5, fun H6 e6 T6 => ⟨_, rfl, iteF ?_⟩⟩
    refine ⟨_, rfl, _, rfl, _, rfl, st, l, t, xm, _, many, rt, dt, rfl, S5.ext e6, by omega, by omega, HH5.ext e6, d2, ld, om.ext e6, T6, fun H7 fr7 T7 S7 => ⟨_, rfl, iteF ?_⟩⟩
    have S6 := S5.ext e6
    have HH7 : HT st l H7 t many rt dt := by
      obtain ⟨p, q, rs, ds, k1, k2, k3, k4, k5⟩ := (HH5.ext e6).ex
      have tl := fr7.tl S6
      exact ⟨p, q, rs, ds, tl _ _ k1, ⟨k2.na, k2.nl, fr7 _ _ k2.na k2.nl nt_lst k2.h⟩, ⟨k3.na, k3.nl, fr7 _ _ k3.na k3.nl nt_lst k3.h⟩, k4.tl tl, k5.tl tl⟩
    refine ⟨_, rfl, _, rfl, _, rfl, st, l, t, xm, _, many, rt, dt, rfl, S7, by omega, by omega, HH7, by omega, n20, ld, (om.ext e6).fre S6 fr7, T7, fun H8 fr8 T8 S8 => ⟨_, rfl, iteF ⟨⟨_, _, _, rfl⟩, T8, S8.mono (by omega)⟩⟩⟩
  · rintro σ H2 ⟨⟨x2, x3, x4, rfl⟩, _⟩
    exact k H2
end
end K17

set_option Elab.async false
set_option linter.all false
set_option maxRecDepth 100000
set_option maxHeartbeats 8000000
namespace K17
open PySem PySem.Spec PyProof.Rows L2 Own LamX
section
variable {P : Program} {w : World} {K : PySem.W.Frag} {mg : Str → Option Value} {base : Heap}
theorem sci_BadPlaces : FnScope ["self", "places"] ["self", "places"] (defScope (inClass (topS 7) 0)) := ⟨rfl, rfl, rfl, by decide +kernel, rfl, by decide +kernel, by decide +kernel⟩
theorem ei_BadPlaces {C fI : Addr} {fd : FuncData} (F : Fun K "__init__" "BadPlaces.__init__" (inClass (topS 7) 0) fI fd) (g : mg "BadPlaces" = some (.ref C)) (I : ExcI K C fI) (no : PySem.W.findIn K (.ref C) "places" = some none) : EI P w K mg base "BadPlaces" "places" C := by
  refine ⟨g, fI, fd, I, F.ok sci_BadPlaces (fun vs H Q E h => ?_) (fun cdv A outer s H vs Q E hr h => ?_), F.binds fun _ _ _ _ _ _ us hl => match us, hl with | [_, _], _ => rfl⟩
  · obtain ⟨a, v, rfl, _⟩ := h
    rfl
  · obtain ⟨a, v, rfl, ha, k⟩ := h
    refine ⟨_, pss_one (ps_ost (pv 0) (pv 1)), ?_⟩
    exact ⟨_, rfl, _, rfl, a, C, rfl, I.ox, no, .inl ⟨ha, fun dx nd ne => k dx nd ne⟩⟩
theorem sci_BadRoads : FnScope ["self", "index"] ["self", "index"] (defScope (inClass (topS 8) 0)) := ⟨rfl, rfl, rfl, by decide +kernel, rfl, by decide +kernel, by decide +kernel⟩
theorem ei_BadRoads {C fI : Addr} {fd : FuncData} (F : Fun K "__init__" "BadRoads.__init__" (inClass (topS 8) 0) fI fd) (g : mg "BadRoads" = some (.ref C)) (I : ExcI K C fI) (no : PySem.W.findIn K (.ref C) "index" = some none) : EI P w K mg base "BadRoads" "index" C := by
  refine ⟨g, fI, fd, I, F.ok sci_BadRoads (fun vs H Q E h => ?_) (fun cdv A outer s H vs Q E hr h => ?_), F.binds fun _ _ _ _ _ _ us hl => match us, hl with | [_, _], _ => rfl⟩
  · obtain ⟨a, v, rfl, _⟩ := h
    rfl
  · obtain ⟨a, v, rfl, ha, k⟩ := h
    refine ⟨_, pss_one (ps_ost (pv 0) (pv 1)), ?_⟩
    exact ⟨_, rfl, _, rfl, a, C, rfl, I.ox, no, .inl ⟨ha, fun dx nd ne => k dx nd ne⟩⟩
theorem sci_BadDoors : FnScope ["self", "index"] ["self", "index"] (defScope (inClass (topS 9) 0)) := ⟨rfl, rfl, rfl, by decide +kernel, rfl, by decide +kernel, by decide +kernel⟩
theorem ei_BadDoors {C fI : Addr} {fd : FuncData} (F : Fun K "__init__" "BadDoors.__init__" (inClass (topS 9) 0) fI fd) (g : mg "BadDoors" = some (.ref C)) (I : ExcI K C fI) (no : PySem.W.findIn K (.ref C) "index" = some none) : EI P w K mg base "BadDoors" "index" C := by
  refine ⟨g, fI, fd, I, F.ok sci_BadDoors (fun vs H Q E h => ?_) (fun cdv A outer s H vs Q E hr h => ?_), F.binds fun _ _ _ _ _ _ us hl => match us, hl with | [_, _], _ => rfl⟩
  · obtain ⟨a, v, rfl, _⟩ := h
    rfl
  · obtain ⟨a, v, rfl, ha, k⟩ := h
    refine ⟨_, pss_one (ps_ost (pv 0) (pv 1)), ?_⟩
    exact ⟨_, rfl, _, rfl, a, C, rfl, I.ox, no, .inl ⟨ha, fun dx nd ne => k dx nd ne⟩⟩
theorem sci_BadHouse : FnScope ["self", "thing"] ["self", "thing"] (defScope (inClass (topS 6) 0)) := ⟨rfl, rfl, rfl, by decide +kernel, rfl, by decide +kernel, by decide +kernel⟩
theorem ei_BadHouse {C fI : Addr} {fd : FuncData} (F : Fun K "__init__" "BadHouse.__init__" (inClass (topS 6) 0) fI fd) (g : mg "BadHouse" = some (.ref C)) (I : ExcI K C fI) (no : PySem.W.findIn K (.ref C) "thing" = some none) : EI P w K mg base "BadHouse" "thing" C := by
  refine ⟨g, fI, fd, I, F.ok sci_BadHouse (fun vs H Q E h => ?_) (fun cdv A outer s H vs Q E hr h => ?_), F.binds fun _ _ _ _ _ _ us hl => match us, hl with | [_, _], _ => rfl⟩
  · obtain ⟨a, v, rfl, _⟩ := h
    rfl
  · obtain ⟨a, v, rfl, ha, k⟩ := h
    refine ⟨_, pss_one (ps_ost (pv 0) (pv 1)), ?_⟩
    exact ⟨_, rfl, _, rfl, a, C, rfl, I.ox, no, .inl ⟨ha, fun dx nd ne => k dx nd ne⟩⟩
theorem sci_BadLot : FnScope ["self", "lot"] ["self", "lot"] (defScope (inClass (topS 10) 0)) := ⟨rfl, rfl, rfl, by decide +kernel, rfl, by decide +kernel, by decide +kernel⟩
theorem ei_BadLot {C fI : Addr} {fd : FuncData} (F : Fun K "__init__" "BadLot.__init__" (inClass (topS 10) 0) fI fd) (g : mg "BadLot" = some (.ref C)) (I : ExcI K C fI) (no : PySem.W.findIn K (.ref C) "lot" = some none) : EI P w K mg base "BadLot" "lot" C := by
  refine ⟨g, fI, fd, I, F.ok sci_BadLot (fun vs H Q E h => ?_) (fun cdv A outer s H vs Q E hr h => ?_), F.binds fun _ _ _ _ _ _ us hl => match us, hl with | [_, _], _ => rfl⟩
  · obtain ⟨a, v, rfl, _⟩ := h
    rfl
  · obtain ⟨a, v, rfl, ha, k⟩ := h
    refine ⟨_, pss_one (ps_ost (pv 0) (pv 1)), ?_⟩
    exact ⟨_, rfl, _, rfl, a, C, rfl, I.ox, no, .inl ⟨ha, fun dx nd ne => k dx nd ne⟩⟩
theorem sci_BadBell : FnScope ["self", "bell"] ["self", "bell"] (defScope (inClass (topS 11) 0)) := ⟨rfl, rfl, rfl, by decide +kernel, rfl, by decide +kernel, by decide +kernel⟩
theorem ei_BadBell {C fI : Addr} {fd : FuncData} (F : Fun K "__init__" "BadBell.__init__" (inClass (topS 11) 0) fI fd) (g : mg "BadBell" = some (.ref C)) (I : ExcI K C fI) (no : PySem.W.findIn K (.ref C) "bell" = some none) : EI P w K mg base "BadBell" "bell" C := by
  refine ⟨g, fI, fd, I, F.ok sci_BadBell (fun vs H Q E h => ?_) (fun cdv A outer s H vs Q E hr h => ?_), F.binds fun _ _ _ _ _ _ us hl => match us, hl with | [_, _], _ => rfl⟩
  · obtain ⟨a, v, rfl, _⟩ := h
    rfl
  · obtain ⟨a, v, rfl, ha, k⟩ := h
    refine ⟨_, pss_one (ps_ost (pv 0) (pv 1)), ?_⟩
    exact ⟨_, rfl, _, rfl, a, C, rfl, I.ox, no, .inl ⟨ha, fun dx nd ne => k dx nd ne⟩⟩
theorem sci_BadAmount : FnScope ["self", "amount"] ["self", "amount"] (defScope (inClass (topS 12) 0)) := ⟨rfl, rfl, rfl, by decide +kernel, rfl, by decide +kernel, by decide +kernel⟩
theorem ei_BadAmount {C fI : Addr} {fd : FuncData} (F : Fun K "__init__" "BadAmount.__init__" (inClass (topS 12) 0) fI fd) (g : mg "BadAmount" = some (.ref C)) (I : ExcI K C fI) (no : PySem.W.findIn K (.ref C) "amount" = some none) : EI P w K mg base "BadAmount" "amount" C := by
  refine ⟨g, fI, fd, I, F.ok sci_BadAmount (fun vs H Q E h => ?_) (fun cdv A outer s H vs Q E hr h => ?_), F.binds fun _ _ _ _ _ _ us hl => match us, hl with | [_, _], _ => rfl⟩
  · obtain ⟨a, v, rfl, _⟩ := h
    rfl
  · obtain ⟨a, v, rfl, ha, k⟩ := h
    refine ⟨_, pss_one (ps_ost (pv 0) (pv 1)), ?_⟩
    exact ⟨_, rfl, _, rfl, a, C, rfl, I.ox, no, .inl ⟨ha, fun dx nd ne => k dx nd ne⟩⟩
theorem sci_BadMoments : FnScope ["self", "moments"] ["self", "moments"] (defScope (inClass (topS 13) 0)) := ⟨rfl, rfl, rfl, by decide +kernel, rfl, by decide +kernel, by decide +kernel⟩
theorem ei_BadMoments {C fI : Addr} {fd : FuncData} (F : Fun K "__init__" "BadMoments.__init__" (inClass (topS 13) 0) fI fd) (g : mg "BadMoments" = some (.ref C)) (I : ExcI K C fI) (no : PySem.W.findIn K (.ref C) "moments" = some none) : EI P w K mg base "BadMoments" "moments" C := by
  refine ⟨g, fI, fd, I, F.ok sci_BadMoments (fun vs H Q E h => ?_) (fun cdv A outer s H vs Q E hr h => ?_), F.binds fun _ _ _ _ _ _ us hl => match us, hl with | [_, _], _ => rfl⟩
  · obtain ⟨a, v, rfl, _⟩ := h
    rfl
  · obtain ⟨a, v, rfl, ha, k⟩ := h
    refine ⟨_, pss_one (ps_ost (pv 0) (pv 1)), ?_⟩
    exact ⟨_, rfl, _, rfl, a, C, rfl, I.ox, no, .inl ⟨ha, fun dx nd ne => k dx nd ne⟩⟩
end
end K17

set_option Elab.async false
set_option linter.all false
set_option maxRecDepth 100000
set_option maxHeartbeats 2000000
/-! He.hookX over a part of the heap of one's own choice -/
namespace Own
open PySem PySem.Spec PyProof.Rows L2 He
def asN (names : List Str) (n : Nat) (g : Addr → Option Obj) : List Addr := mainGlobals :: Nat.rec (names.map fun x => ga (frG g [mainGlobals]) x) (fun _ as => growD g as) n
section
variable (as : (Addr → Option Obj) → List Addr)
def obsY (fa : List Fa) (fn : List DefD) (ts : List Tab) (tf : List Defn) (ex : PySem.W.Frag → Bool) (g : Addr → Option Obj) : AlX := (obsT fa fn ts (frT g (as g)), ex (frT g (as g)) && tabsB g tf (frT g (as g)))
theorem saysY_of {fa : List Fa} {fn : List DefD} {ts : List Tab} {tf : List Defn} {ex : PySem.W.Frag → Bool} {w : World} {h : Heap} (e : obsY as fa fn ts tf ex h.get? = valX fn ts w) : SaysX fa fn ts tf ex w h (frT h.get? (as h.get?)) := by
  have e1 : obsT fa fn ts (frT h.get? (as h.get?)) = valT fn ts w := congrArg (fun z : AlX => z.1) e
  have e2 : (ex (frT h.get? (as h.get?)) && tabsB h.get? tf (frT h.get? (as h.get?))) = true := congrArg (fun z : AlX => z.2) e
  obtain ⟨h1, h2⟩ := ba e2
  have key : ∀ p ∈ tf, PySem.W.codeHdIn (frT h.get? (as h.get?)) (cT (frT h.get? (as h.get?)) p).1 (cT (frT h.get? (as h.get?)) p).2 = true ∧ ∃ o, h.get? (cT (frT h.get? (as h.get?)) p).2 = some o ∧ emptyTab o = true := fun p hp => by
    obtain ⟨h3, h4⟩ := ba (List.all_eq_true.mp h2 p hp)
    refine ⟨h3, ?_⟩
    cases q : h.get? (cT (frT h.get? (as h.get?)) p).2 with
    | none =>
      rw [q] at h4
      cases h4
    | some o =>
      rw [q] at h4
      exact ⟨o, rfl, h4⟩
  exact ⟨e1, h1, fun p hp => (key p hp).1, fun p hp => by
    obtain ⟨_, o, q, z⟩ := key p hp
    exact frT_none q z, fun p hp => by
    obtain ⟨_, o, q, z⟩ := key p hp
    rw [q, emptyTab_eq z]⟩
def hookY (fa : List Fa) (fn : List DefD) (ts : List Tab) (tf : List Defn) (ex : PySem.W.Frag → Bool) : PySem.W.Hook where
  α := AlX
  obs := fun s => obsY as fa fn ts tf ex s.heap.get?
  val := fun w => valX fn ts w
  says := fun w h => ∃ K : PySem.W.Frag, K.In h ∧ SaysX fa fn ts tf ex w h K
  of := fun _ _ e => ⟨_, frT_in, saysY_of as e⟩
  keeps := fun _ _ _ ⟨K, hK, c⟩ k => ⟨K, PySem.W.Frag.In.keeps hK k, ⟨c.t, c.more, c.hd, c.out, fun p hp => k _ _ (c.empty p hp)⟩⟩
theorem obsY_eq {fa : List Fa} {fn : List DefD} {ts : List Tab} {tf : List Defn} {ex : PySem.W.Frag → Bool} {g : Addr → Option Obj} {s : Shared} (h : ∀ a, g a = s.heap.get? a) : obsY as fa fn ts tf ex g = (hookY as fa fn ts tf ex).obs s := by
  have e : g = s.heap.get? := funext h
  rw [e] <;> rfl
end
end Own

set_option Elab.async false
set_option linter.all false
set_option maxRecDepth 100000
set_option maxHeartbeats 8000000
namespace K17
open PySem PySem.Spec PyProof.Rows L2 Own LamX
/-- the class stands as an own exception class over ValueError -/
def oexB (K : PySem.W.Frag) (C : Addr) : Bool := match K.lookup C with
  | some ⟨.type ty, _, .cls cd, sl⟩ => (match cd.mro, sl.toList with
    | .ref C1 :: bm, [_, _, _, _, some (.builtin n), _] => ty == "type" && (C1 == C && (n == "ValueError.__new__" && (!cd.hasDel && (cd.hasDict && PySem.HandSPX.refsVE bm))))
    | _, _ => false)
  | _ => false
theorem oexB_ok {K : PySem.W.Frag} {C : Addr} (h : oexB K C = true) : ∃ nm q N bs bm sn sub ab col dd k0 k1 k2 k3 k5, K.lookup C = some (excClassObj nm q C N bs bm true sn sub ab col dd k0 k1 k2 k3 k5 "ValueError.__new__") ∧ PySem.HandSPX.refsVE bm = true := by
  unfold oexB at h
  split at h
  · rename_i ty dd cd sl ho
    split at h
    · rename_i C1 bm k0 k1 k2 k3 n k5 hm hs
      simp only [Bool.and_eq_true, beq_iff_eq, Bool.not_eq_true'] at h
      obtain ⟨rfl, rfl, rfl, hdel, hdict, hr⟩ := h
      obtain ⟨nm, bs, mro, ns, qn, hd, sn, sub, ab, col, del⟩ := cd
      dsimp only at hm hdel hdict
      subst hm hdel hdict
      obtain ⟨l⟩ := sl
      dsimp only at hs
      subst hs
      exact ⟨nm, qn, ns, bs, bm, sn, sub, ab, col, dd, k0, k1, k2, k3, k5, ho, hr⟩
    · cases h
  · cases h
def clsB (K : PySem.W.Frag) (C : Addr) : Bool :=
  oexB K C && (He.eqO (PySem.W.findIn K (.ref C) "__setattr__") (some (some (.builtin "object.__setattr__"))) && (decide (PySem.W.subIn K (.ref C) (.type "BaseException") = some true) &&
  (decide (PySem.W.typeIn K (.ref C) = some (.type "type")) && (PySem.W.keepIn K (.ref C) && (He.eqO (PySem.W.findIn K (.ref C) "__getattribute__") (some (some (.builtin "BaseException.__getattribute__"))) &&
  (He.eqO (PySem.W.findIn K (.ref C) "__getattr__") (some none) && (PySem.W.hasDictIn K C && (He.eqO (PySem.W.findIn K (.ref C) "__class__") (some (some (.builtin "object.__class__"))) &&
  (He.eqO (PySem.W.specialIn K (.builtin "object.__class__") "__get__") (some (some (.builtin "getset_descriptor.__get__"))) && (decide (PySem.W.takesIn K (.builtin "object.__class__") = some true) && decide (PySem.W.mroIn K C (.type "object") = some true)))))))))))
theorem clsB_ok {K : PySem.W.Frag} {C : Addr} (h : clsB K C = true) : OexC K C ∧ ExcC K C := by
  unfold clsB at h
  simp only [Bool.and_eq_true, decide_eq_true_eq] at h
  obtain ⟨h1, h2, h3, h4, h5, h6, h7, h8, h9, h10, h11, h12⟩ := h
  exact ⟨⟨oexB_ok h1, He.eqO_ok h2, h3, h4, h5⟩, ⟨He.eqO_ok h6, He.eqO_ok h7, h3, h8, He.eqO_ok h9, He.eqO_ok h10, h11, h12⟩⟩
def nIn : List (Str × Str) := [("BadPlaces", "places"), ("BadRoads", "index"), ("BadDoors", "index"), ("BadHouse", "thing"), ("BadLot", "lot"), ("BadBell", "bell"), ("BadAmount", "amount"), ("BadMoments", "moments")]
def initB (K : PySem.W.Frag) : Bool := nIn.all fun p => (clsB K (He.ga K p.1) && xfB K (He.ga K p.1)) && (He.eqO (PySem.W.findIn K (.ref (He.ga K p.1)) "__init__") (some (some (.ref (He.ma K (He.ga K p.1) "__init__")))) &&
  (decide (PySem.W.typeIn K (.ref (He.ma K (He.ga K p.1) "__init__")) = some (.type "function")) && He.eqO (PySem.W.findIn K (.ref (He.ga K p.1)) p.2) (some none)))
def tyN : List String := ["int", "bool", "list", "tuple", "dict", "str"]
def tyM : List String := ["NoneType", "bool", "int", "str", "list", "tuple", "dict", "function"]
/-- of the class House: its type can be asked for, it has the built-in !=, it is below no built-in type, and no built-in type is below it -/
def houB (K : PySem.W.Frag) : Bool := He.eqO (PySem.W.findIn K (.ref (He.ga K "House")) "__class__") (some (some (.builtin "object.__class__"))) && (He.eqO (PySem.W.specialIn K (.builtin "object.__class__") "__get__") (some (some (.builtin "getset_descriptor.__get__"))) &&
  (decide (PySem.W.takesIn K (.builtin "object.__class__") = some true) && (decide (PySem.W.mroIn K (He.ga K "House") (.type "object") = some true) && (He.eqO (PySem.W.findIn K (.ref (He.ga K "House")) "__ne__") (some (some (.builtin "object.__ne__"))) &&
  ((tyN.all fun T => decide (PySem.W.kitOne K (.ref (He.ga K "House")) (.type T) = some false)) && ((tyM.all fun T => decide (PySem.W.kitOne K (.type T) (.ref (He.ga K "House")) = some false)) && decide (PySem.W.kitOne K (.ref (He.ga K "House")) (.ref (He.ga K "House")) = some true)))))))
def defD (x : Str) (st : Stmt) : He.DefD := ⟨(x, none), x, x, defArgs st, defBody st, defScope st, [], []⟩
def metD (c m q : Str) (st : Stmt) : He.DefD := ⟨(c, some m), m, q, defArgs st, defBody st, defScope st, [], []⟩
abbrev pAs : He.Defn := ("_law_asks", none)
abbrev pLe : He.Defn := ("_law_less", none)
abbrev pHR : He.Defn := ("_law_houses_right", none)
abbrev pRR : He.Defn := ("_law_rest_right", none)
def fnD : List He.DefD := [defD "is_integer" (topS 15), defD "is_number" (topS 16), defD "is_list" (topS 17), defD "is_place" (topS 20), defD "is_road" (topS 21), defD "is_door" (topS 22), defD "first_wrong_road" (topS 23), defD "comes_to" (topS 24), defD "first_wrong_door" (topS 25), defD "need_house" (topS 27), defD "need_bell" (topS 28), defD "given_lot" (topS 29)] ++
  [defD "is_lot" (topS 30), defD "most" (topS 36), defD "most_plan" (topS 37), defD "levels" (topS 38), defD "steady" (topS 39), defD "lot_bell" (topS 40), defD "is_moments" (topS 46), defD "is_list_of_moments" (topS 47), defD "worth" (topS 48), defD "moments_for" (topS 49), defD "_law_stream" (topS 51), defD "_law_draw" (topS 52)] ++
  [defD "_law_pick" (topS 53), defD "_law_mixed" (topS 54), defD "_law_same" (topS 55), defD "_law_loose" (topS 56), defD "_law_stepping" (topS 57), defD "_law_house" (topS 58), defD "_law_made" (topS 59), defD "_law_handed" (topS 60), defD "_law_lot" (topS 61), defD "_law_met" (topS 62), defD "_law_asks" (topS 63), defD "_law_less" (topS 64)] ++
  [defD "_law_no_lots" (topS 65), defD "_law_houses_right" (topS 66), defD "_law_lots_right" (topS 67), defD "_law_rest_right" (topS 68), defD "law" (topS 69), metD "BadPlaces" "__init__" "BadPlaces.__init__" (inClass (topS 7) 0), metD "BadRoads" "__init__" "BadRoads.__init__" (inClass (topS 8) 0), metD "BadDoors" "__init__" "BadDoors.__init__" (inClass (topS 9) 0), metD "BadHouse" "__init__" "BadHouse.__init__" (inClass (topS 6) 0), metD "BadLot" "__init__" "BadLot.__init__" (inClass (topS 10) 0), metD "BadBell" "__init__" "BadBell.__init__" (inClass (topS 11) 0), metD "BadAmount" "__init__" "BadAmount.__init__" (inClass (topS 12) 0)] ++
  [metD "BadMoments" "__init__" "BadMoments.__init__" (inClass (topS 13) 0), metD "House" "__init__" "House.__init__" (inClass (topS 19) 0), metD "House" "places" "House.places" (inClass (topS 19) 1), metD "House" "doors" "House.doors" (inClass (topS 19) 3), metD "House" "__eq__" "House.__eq__" (inClass (topS 19) 4)]
def faD : List He.Fa := [.glo "is_integer", .glo "is_number", .glo "is_list", .glo "is_place", .glo "is_road", .glo "is_door", .glo "first_wrong_road", .glo "comes_to", .glo "first_wrong_door", .glo "need_house", .glo "need_bell", .glo "given_lot", .glo "is_lot", .glo "most", .glo "most_plan", .glo "levels"] ++
  [.glo "steady", .glo "lot_bell", .glo "is_moments", .glo "is_list_of_moments", .glo "worth", .glo "moments_for", .glo "_law_stream", .glo "_law_draw", .glo "_law_pick", .glo "_law_mixed", .glo "_law_same", .glo "_law_loose", .glo "_law_stepping", .glo "_law_house", .glo "_law_made", .glo "_law_handed"] ++
  [.glo "_law_lot", .glo "_law_met", .glo "_law_asks", .glo "_law_less", .glo "_law_no_lots", .glo "_law_houses_right", .glo "_law_lots_right", .glo "_law_rest_right", .glo "law", .glo "House", .glo "BadPlaces", .glo "BadRoads", .glo "BadDoors", .glo "BadHouse", .glo "BadLot", .glo "BadBell"] ++
  [.glo "BadAmount", .glo "BadMoments", .free "abs", .free "int", .free "list", .free "len", .free "isinstance", .free "tuple", .free "dict", .free "bool", .free "all", .free "zip", .free "range", .free "enumerate", .free "max", .free "str"] ++
  [.free "min", .free "repr", .free "sorted", .free "sum", .cls "House", .noat "House" "_places", .noat "House" "_roads", .noat "House" "_doors", .mkr "House", .meth "House" "places", .meth "House" "doors", .meth "House" "__eq__", .exm "BadHouse" "BadHouse" true, .exm "BadLot" "BadHouse" false, .exm "BadLot" "BadLot" true, .exm "BadBell" "BadHouse" false] ++
  [.exm "BadBell" "BadLot" false, .exm "BadBell" "BadBell" true, .exm "BadAmount" "BadHouse" false, .exm "BadAmount" "BadLot" false, .exm "BadAmount" "BadBell" false, .exm "BadAmount" "BadAmount" true, .exm "BadMoments" "BadHouse" false, .exm "BadMoments" "BadLot" false, .exm "BadMoments" "BadBell" false, .exm "BadMoments" "BadAmount" false, .exm "BadMoments" "BadMoments" true]
def tfD : List He.Defn := [pAs, pLe, pHR, pRR]
def difB (K : PySem.W.Frag) : Bool := decide ((He.cT K pAs).2 ≠ (He.cT K pLe).2) && (decide ((He.cT K pAs).2 ≠ (He.cT K pHR).2) && (decide ((He.cT K pAs).2 ≠ (He.cT K pRR).2) && (decide ((He.cT K pLe).2 ≠ (He.cT K pHR).2) && (decide ((He.cT K pLe).2 ≠ (He.cT K pRR).2) && (decide ((He.cT K pHR).2 ≠ (He.cT K pRR).2) && (decide (PySem.W.typeIn K (.ref (He.ga K "_law_pick")) = some (.type "function"))))))))
abbrev R : PySem.W.OpenRow := PySem.W.OpenLaw.row PySem.Challenge.rw_lastbell_k17_lots_refused
def exA (K : PySem.W.Frag) : Bool := initB K && (houB K && difB K)
def nmN : List Str := (["is_integer", "is_number", "is_list", "is_place", "is_road", "is_door", "first_wrong_road", "comes_to", "first_wrong_door", "need_house", "need_bell", "given_lot"] : List Str) ++ (["is_lot", "most", "most_plan", "levels", "steady", "lot_bell", "is_moments", "is_list_of_moments", "worth", "moments_for", "_law_stream", "_law_draw"] : List Str) ++ (["_law_pick", "_law_mixed", "_law_same", "_law_loose", "_law_stepping", "_law_house", "_law_made", "_law_handed", "_law_lot", "_law_met", "_law_asks", "_law_less"] : List Str) ++ (["_law_no_lots", "_law_houses_right", "_law_lots_right", "_law_rest_right", "law", "House", "BadPlaces", "BadRoads", "BadDoors", "BadHouse", "BadLot", "BadBell"] : List Str) ++ (["BadAmount", "BadMoments"] : List Str)
abbrev hk : PySem.W.Hook := hookY (asN nmN 3) faD fnD [] tfD exA
def ob (s : PySem.W.SharedT) : He.AlX := obsY (asN nmN 3) faD fnD [] tfD exA (HandSHeadRun.getT s)
theorem ob_eq (s : PySem.W.SharedT) : ob s = hk.obs s.abs := obsY_eq (asN nmN 3) (HandSHeadRun.getT_eq s)
end K17

set_option Elab.async false
set_option linter.all false
set_option maxRecDepth 100000
set_option maxHeartbeats 0
namespace K17
open PySem PySem.Spec PyProof.Rows L2 Own
def looseN : List Str := (["__name__", "change_from", "change_between", "steps_of", "BellError", "BadHouse", "BadPlaces", "BadRoads", "BadDoors", "BadLot", "BadBell", "BadAmount"] : List Str) ++ (["BadMoments", "is_integer", "is_number", "is_list", "House", "is_place", "is_road", "is_door", "first_wrong_road", "comes_to", "first_wrong_door", "need_house"] : List Str) ++ (["need_bell", "given_lot", "is_lot", "Net", "lot_net", "most", "most_plan", "levels", "steady", "lot_bell", "most_by", "first_bell"] : List Str) ++ (["repeated", "turns_behind", "is_moments", "is_list_of_moments", "worth", "moments_for", "_law_stream", "_law_draw", "_law_pick", "_law_mixed", "_law_same", "_law_loose"] : List Str) ++ (["_law_stepping", "_law_house", "_law_made", "_law_handed", "_law_lot", "_law_met", "_law_asks", "_law_less", "_law_no_lots", "_law_houses_right", "_law_lots_right", "_law_rest_right"] : List Str)
theorem run (w : World) : HandSHeadRun.RunEq R (PySem.W.view R.prog [69]) hk ob 9000 looseN w := by
  intro os
  kernel_rfl
end K17

set_option Elab.async false
set_option linter.all false
set_option maxRecDepth 100000
set_option maxHeartbeats 4000000
/-! repr(x), x nested data of ints, texts, lists and tuples; it wants to know that no repr is under way -/
namespace Own
open PySem PySem.Spec PyProof.Rows L2
/-- no dict is in it -/
def rRepr (K : PySem.W.Frag) : List V → Hp → VK → Prop := fun xs H Q => ∃ (a : Addr) (d : PyData), xs = [.ref a] ∧ Dp K H (.ref a) d ∧ d.showable = true ∧ d.hasDict = false ∧ d.depth ≤ 60 ∧ d.shown.length ≤ sizeLine ∧ Q (.str d.shown) H
theorem call_repr {X : Cx} (hg : X.A.guards = some []) (hu : X.A.units + 64 < cLine) : CallR X (.builtin "repr") (rRepr X.K) := by
  rintro pins s σ H xs us Q I r ⟨a, d, rfl, dp, sh, nd, dep, len, q⟩
  obtain ⟨u, rfl, r1⟩ := r.one
  obtain ⟨as, rd⟩ := Dp.reads I d _ u dp r1
  cases (show u = Value.ref a from r1)
  exact repr_of_reads' rd sh (fun z => by rw [nd] at z; cases z) hg (by omega) (fun _ _ e => e) (fun h' t n k => ⟨.str d.shown, H, I.kept k, ⟨t, rfl⟩, q⟩) len
/-- a def whose promise holds where no repr is under way -/
structure FnG (P : Program) (w : World) (K : PySem.W.Frag) (mg : Str → Option Value) (base : Heap) (CX : CXT) (k : Nat) (f : Addr) (fd : FuncData) (ps : List Str) (sp : Sp) : Prop where
  len : ∀ vs H Q E, sp vs H Q E → vs.length = ps.length
  run : ∀ (A : Around) (outer : List Env) (s : Shared) (H : Hp) (args : Args) (us : List Value) (vs : List V) (Q : VK) (E : XK), A.guards = some [] → Room k A → Env0 P w K mg base A outer s H → BindsTo s fd args (ps.zip us) → Vals vs us → sp vs H Q E →
    codeAny (model P w) A (.call (.ref f) args) (CR CX outer P w H s Q E) s
end Own

set_option Elab.async false
set_option linter.all false
set_option maxRecDepth 100000
set_option maxHeartbeats 4000000
/-! the law's call, where its def's promise asks that no repr is under way -/
namespace Own
open PySem PySem.Spec PyProof.Rows L2 LamX
section
variable {K : PySem.W.Frag} {mg mb : Str → Option Value} {s : Shared} {H : Hp} {a : Addr} {vs : List Value} {cs : List (Addr × Addr)}
/-- what is tracked at the start: the script, the empty tables -/
structure Few (K : PySem.W.Frag) (s : Shared) (H : Hp) (a : Addr) (vs : List Value) (cs : List (Addr × Addr)) : Prop where
  of : ∀ b u, H b = some u → (b = a ∧ K.lookup a = none) ∨ ∃ p ∈ cs, b = p.2
  scr : s.heap.get? a = some { cls := .type "list", data := .seq vs.toArray }
  tab : ∀ p ∈ cs, s.heap.get? p.2 = some { cls := .none, data := .fields #[] }
  out : ∀ p ∈ cs, K.lookup p.2 = none
/-- an object of another kind is not tracked -/
theorem Few.off (f : Few K s H a vs cs) {b : Addr} {o : Obj} (e : s.heap.get? b = some o) (n1 : ∀ xs n, o.data ≠ .seq xs n) (n2 : o.data ≠ .fields #[]) : H b = none := by
  cases q : H b with
  | none => rfl
  | some u =>
    exfalso
    rcases f.of b u q with ⟨rfl, _⟩ | ⟨p, hp, rfl⟩
    · have z := f.scr.symm.trans e
      rw [← Option.some.inj z] at n1
      exact n1 _ _ rfl
    · have z := (f.tab p hp).symm.trans e
      rw [← Option.some.inj z] at n2
      exact n2 rfl
theorem Few.ns (f : Few K s H a vs cs) {b : Addr} {m : Str → Option Value} (h : s.heap.Ns b m) : (hidT s.heap H).Ns b m := by
  obtain ⟨o, es, ep, e, d, r⟩ := h
  refine ⟨o, es, ep, hidT_get e (f.off e (fun xs n z => ?_) fun z => ?_), d, r⟩ <;> (rw [d] at z; cases z)
theorem Few.kin (f : Few K s H a vs cs) (X : K.In s.heap) : K.In (hidT s.heap H) := fun b o e => hidT_get (X b o e) (by
  cases q : H b with
  | none => rfl
  | some u =>
    rcases f.of b u q with ⟨rfl, k⟩ | ⟨p, hp, rfl⟩
    · rw [k] at e
      cases e
    · rw [f.out p hp] at e
      cases e)
theorem Few.tabB (f : Few K s H a vs cs) (hns : s.heap.Ns mainGlobals mg) (hbm : ∃ (bm : Addr) (ob : Obj), mg "__builtins__" = some (.ref bm) ∧ bm ≠ builtinsNs ∧ s.heap.get? bm = some ob ∧ ob.cls = .type "module" ∧ ob.dict = some builtinsNs ∧ ob.data = .plain)
    {p : Addr × Addr} (hp : p ∈ cs) (C : PySem.W.CodeHd s.heap p.1 p.2) : TabB (hidT s.heap H) mg p.1 p.2 where
  code := by
    obtain ⟨o, us, file, tf, flags, tg, inF, text, tt, e1, r1, r2, r3, rest⟩ := C
    refine ⟨o, us, file, tf, flags, tg, inF, text, tt, hidT_get e1 (f.off e1 (fun xs n z => ?_) fun z => ?_), r1, r2, r3, rest⟩
    · rw [r2] at z
      cases z
    · rw [r2] at z
      injection z with z
      subst z
      simp at r3
  bm := by
    obtain ⟨bm, ob, b1, b2, b3, b4, b5, b6⟩ := hbm
    have off : H bm = none := by
      refine f.off b3 (fun xs n z => ?_) fun z => ?_ <;> (rw [b6] at z; cases z)
    refine ⟨bm, ob, b1, b2, fun q => ?_, fun q => ?_, hidT_get b3 off, b4, b5, b6⟩
    · obtain ⟨o, es, ep, e, d, _⟩ := hns
      rw [← q, b3] at e
      rw [← Option.some.inj e, b6] at d
      cases d
    · have z := f.tab p hp
      rw [← q, b3] at z
      rw [Option.some.inj z] at b6
      cases b6
  gP := fun q => by
    obtain ⟨o, es, ep, e, d, _⟩ := hns
    have z := f.tab p hp
    rw [← q, e] at z
    rw [Option.some.inj z] at d
    cases d
end
/-- the start: which objects are tracked depends on whether the script stands in K -/
theorem few_start {K : PySem.W.Frag} {s : Shared} {a : Addr} {vs : List Value} {ns : List Int} {cs : List (Addr × Addr)} (P : Program) (w : World) (KX : K.In s.heap) (ha : s.heap.get? a = some { cls := .type "list", data := .seq vs.toArray }) (hi : IntsAre vs ns) (hl : ns.length ≤ sizeLine)
    (hT : ∀ p ∈ cs, s.heap.get? p.2 = some { cls := .none, data := .fields #[] }) (nT : ∀ p ∈ cs, K.lookup p.2 = none) :
    ∃ H : Hp, Few K s H a vs cs ∧ (∀ p ∈ cs, H p.2 = some (.tbl #[])) ∧ SqL K H a (ns.map V.int) ∧ HOk P w H s.heap ∧ ∀ b u, H b = some u → (∃ o xs, u = .frz o (.lst xs)) ∨ ∃ p ∈ cs, b = p.2 := by
  have rv := vals_ints hi
  have aT : ∀ p ∈ cs, p.2 ≠ a := fun p hp z => by
    have q := hT p hp
    rw [z, ha] at q
    cases q
  classical
  cases hk : K.lookup a with
  | some o =>
    refine ⟨fun b => if ∃ p ∈ cs, b = p.2 then some (.tbl #[]) else none, ⟨fun b u z => ?_, ha, hT, nT⟩, fun p hp => if_pos ⟨p, hp, rfl⟩, ?_, fun b u z => ?_, fun b u z => ?_⟩
    · try dsimp only at z
      by_cases h : ∃ p ∈ cs, b = p.2
      · exact .inr h
      · rw [if_neg h] at z
        cases z
    · have e := (KX a o hk).symm.trans ha
      obtain rfl := Option.some.inj e
      exact .inr ⟨_, vs.toArray, _, hk, rfl, rfl, rfl, by rw [List.size_toArray, hi.length]; exact hl, by simpa using rv⟩
    · try dsimp only at z
      by_cases h : ∃ p ∈ cs, b = p.2
      · rw [if_pos h] at z
        obtain rfl := Option.some.inj z
        obtain ⟨p, hp, rfl⟩ := h
        exact hT p hp
      · rw [if_neg h] at z
        cases z
    · try dsimp only at z
      by_cases h : ∃ p ∈ cs, b = p.2
      · exact .inr h
      · rw [if_neg h] at z
        cases z
  | none =>
    refine ⟨fun b => if b = a then some (.frz { cls := .type "list", data := .seq vs.toArray } (.lst (ns.map V.int))) else if ∃ p ∈ cs, b = p.2 then some (.tbl #[]) else none, ⟨fun b u z => ?_, ha, hT, nT⟩,
      fun p hp => (if_neg (aT p hp)).trans (if_pos ⟨p, hp, rfl⟩), .inl (.inr ⟨_, if_pos rfl⟩), fun b u z => ?_, fun b u z => ?_⟩
    · try dsimp only at z
      by_cases h0 : b = a
      · exact .inl ⟨h0, hk⟩
      · by_cases h : ∃ p ∈ cs, b = p.2
        · exact .inr h
        · rw [if_neg h0, if_neg h] at z
          cases z
    · try dsimp only at z
      by_cases h0 : b = a
      · subst h0
        rw [if_pos rfl] at z
        obtain rfl := Option.some.inj z
        exact ⟨ha, by rw [List.length_map]; exact hl, vs, _, rv, ha⟩
      · by_cases h : ∃ p ∈ cs, b = p.2
        · rw [if_neg h0, if_pos h] at z
          obtain rfl := Option.some.inj z
          obtain ⟨p, hp, rfl⟩ := h
          exact hT p hp
        · rw [if_neg h0, if_neg h] at z
          cases z
    · try dsimp only at z
      by_cases h0 : b = a
      · rw [if_pos h0] at z
        exact .inl ⟨_, _, (Option.some.inj z).symm⟩
      · by_cases h : ∃ p ∈ cs, b = p.2
        · exact .inr h
        · rw [if_neg h0, if_neg h] at z
          cases z
/-- the law's facts, its promise by FnG -/
def LawG (l : PySem.W.OpenLaw) (w : World) (K : PySem.W.Frag) (k n : Nat) (x : Str) (mg : Str → Option Value) (fa : Addr) (h : Heap) : Prop :=
  ∃ (fd : FuncData) (cs : List (Addr × Addr)) (sp : Sp), (∀ p ∈ cs, h.get? p.2 = some { cls := .none, data := .fields #[] }) ∧ (∀ p ∈ cs, K.lookup p.2 = none) ∧ (∀ p ∈ cs, PySem.W.CodeHd h p.1 p.2) ∧ (∀ (s : Shared) (u : Value), BindsTo s fd ⟨[u], []⟩ [(x, u)]) ∧
    (∀ (H : Hp) (a : Addr) (ns : List Int), ns.length ≤ n → (∀ p ∈ cs, H p.2 = some (.tbl #[])) → SqL K H a (ns.map V.int) → sp [.ref a] H (fun v _ => v = .bl true) fun _ _ _ => False) ∧
    ∀ base : Heap, K.In base → base.Ns mainGlobals mg → (∀ p ∈ cs, TabB base mg p.1 p.2) → FnG l.prog w K mg base CX0 k fa fd [x] sp
theorem walk_G {l : PySem.W.OpenLaw} {n k : Nat} {q : Program} {loose : List Str} {XP : (Str → Option Value) → Heap → Prop} {YP : World → Heap → Prop} {d : DefRec} {x : Str} (hn : l.most = some n) (hn2 : n ≤ sizeLine) (hdf : d.params.defaults = []) (hr : Room k callerA)
    (F : ∀ (w : World) (mg : Str → Option Value) (fa : Addr) (h : Heap), YP w h → h.Ns mainGlobals mg → mg d.name = some (.ref fa) → ∃ K : PySem.W.Frag, K.In h ∧ LawG l w K k n x mg fa h) :
    PySem.W.WalkO q loose XP YP l.row.toRowW d [] (fun f vs => PySem.call f vs) := by
  refine Att.attach_callB hn hdf fun w s₀ s mg mb fa o pm cd doc a vs ns G Y ho hd hcd hmg ha hi hl _ hg => ?_
  obtain ⟨K, KX, fd, cs, sp, hT, nT, C, hb, hsp, hF⟩ := F w mg fa _ Y G.T.g hmg
  obtain ⟨H, f, hH, hS, hok, hO⟩ := few_start l.prog w KX ha hi (Nat.le_trans hl hn2) hT nT
  have hM : L2.Mod K mg (hidT s.heap H) := ⟨f.kin KX, f.ns G.T.g, ⟨mb, f.ns G.T.b, G.T.builtins⟩, let ⟨mc, h1, h2⟩ := G.T.nolimit; ⟨mc, f.ns h1, h2⟩⟩
  have e0 : Env0 l.prog w K mg (hidT s.heap H) callerA [] s H := ⟨rfl, hM, fun b o e => of_hidT e, Nat.le_of_eq (hidT_size _ _), trivial, (fun b hb => by cases (show b ∈ ([] : List Addr) from hb)), hok, .of_eq hg⟩
  refine codeAny_mono ((hF _ (f.kin KX) (f.ns G.T.g) fun p hp => f.tabB G.T.g G.T.bmain hp (C p hp)).run callerA [] s H ⟨[.ref a], []⟩ [.ref a] [.ref a] _ _ rfl hr e0 (hb s (.ref a)) (.cons rfl .nil) (hsp H a ns hl hH hS)) fun r s' h => ?_
  cases r with
  | error e => exact False.elim h
  | ok fl =>
    cases fl with
    | next => exact False.elim h
    | brk => exact False.elim h
    | cont => exact False.elim h
    | ret u =>
      obtain ⟨v, H', os, bare, un, hok', rv, rfl⟩ := h
      obtain rfl : u = Value.bool true := rv
      have kept : ∀ b o, s.heap.get? b = some o → (∀ p ∈ cs, b ≠ p.2) → s'.heap.get? b = some o := fun b o e nb => by
        cases z : H b with
        | none => exact un.keep b o e z (fun y => by cases (show b ∈ ([] : List Addr) from y)) (by simp)
        | some u =>
          rcases hO b u z with ⟨ob, xs, rfl⟩ | ⟨p, hp, y⟩
          · obtain ⟨y1, _⟩ := hok b _ z
            obtain ⟨y2, _⟩ := hok' b _ (un.frzs b ob _ z)
            rw [← Option.some.inj (y1.symm.trans e)]
            exact y2
          · exact absurd y (nb p hp)
      have longer : ∀ p ∈ cs, ∃ m : Array Value, s'.heap.get? p.2 = some { cls := .none, data := .fields m } := fun p hp =>
        let ⟨_, y⟩ := un.tbls p.2 #[] (hH p hp)
        ⟨_, hok' p.2 _ y⟩
      refine ⟨rfl, ⟨fun b o e => ?_, fun b o e => ?_⟩, os, bare⟩
      · by_cases hb : ∃ p ∈ cs, b = p.2
        · obtain ⟨p, hp, rfl⟩ := hb
          obtain ⟨m, hm⟩ := longer p hp
          obtain rfl := Option.some.inj ((hT p hp).symm.trans e)
          refine .inr (.inl ⟨((C p hp).tab (hT p hp)).isCodeTable, rfl, #[], m, rfl, by rw [Array.empty_append]; exact hm⟩)
        · exact .inl (kept b o e fun p hp z => hb ⟨p, hp, z⟩)
      · by_cases hb : ∃ p ∈ cs, b = p.2
        · obtain ⟨p, hp, rfl⟩ := hb
          obtain ⟨m, hm⟩ := longer p hp
          exact ⟨_, hm⟩
        · exact ⟨o, kept b o e fun p hp z => hb ⟨p, hp, z⟩⟩
end Own

set_option Elab.async false
set_option linter.all false
set_option maxRecDepth 100000
set_option maxHeartbeats 8000000
namespace K17
open PySem PySem.Spec PyProof.Rows L2 Own LamX
theorem fun_ofD {K : PySem.W.Frag} {x q : Str} {st : Stmt} {f : Addr} (h : ∃ fd, FunD K x q (defArgs st) (defBody st) (defScope st) [] [] f fd) : ∃ fd, Fun K x q st f fd := by
  obtain ⟨fd, F⟩ := h
  obtain ⟨oc, od, dV, kV, doc, pm, an, cdv, ct, osl, rfl, lk, hcd, hD, _⟩ := F.ex
  rcases hD with ⟨_, rfl⟩ | ⟨e, _⟩
  · exact ⟨_, ⟨oc, od, kV, doc, pm, an, cdv, ct, osl, rfl, lk, hcd⟩, F.kp⟩
  · exact absurd rfl e
theorem funC_ofD {K : PySem.W.Frag} {x q : Str} {st : Stmt} {p : He.Defn} (h : ∃ fd, FunD K x q (defArgs st) (defBody st) (defScope st) [] [] (He.fAd K p) fd) : ∃ fd, FunC K x q st (He.fAd K p) fd (He.codeOf K p) := by
  obtain ⟨fd, F⟩ := h
  obtain ⟨oc, od, dV, kV, doc, pm, an, cdv, ct, osl, rfl, lk, hcd, hD, _⟩ := F.ex
  obtain ⟨c, rfl⟩ := He.codeIn_ref hcd
  have e := He.codeOf_eq lk rfl
  rw [e]
  rcases hD with ⟨_, rfl⟩ | ⟨e, _⟩
  · exact ⟨_, ⟨oc, od, kV, doc, pm, an, ct, osl, rfl, lk, hcd⟩, F.kp⟩
  · exact absurd rfl e
def spLaw (K : PySem.W.Frag) (T : List (Addr × Str)) : Sp := fun vs H Q _ => ∃ (a : Addr) (ns : List Int), vs = [.ref a] ∧ SqL K H a (ns.map V.int) ∧ ns.length ≤ 63 ∧ Tabs T H ∧ ∀ H', Q (.bl true) H'
def tT (K : PySem.W.Frag) : List (Addr × Str) := [((He.cT K pAs).2, qAs), ((He.cT K pLe).2, qLe), ((He.cT K pHR).2, qHR), ((He.cT K pRR).2, qRR)]
theorem all_mem {α : Type} {p : α → Bool} {l : List α} (h : l.all p = true) {x : α} (hx : x ∈ l) : p x = true := List.all_eq_true.mp h x hx
theorem initB_at {K : PySem.W.Frag} (h : initB K = true) {c f : Str} (hm : (c, f) ∈ nIn) : ExcI K (He.ga K c) (He.ma K (He.ga K c) "__init__") ∧ XfC K (He.ga K c) ∧ PySem.W.findIn K (.ref (He.ga K c)) f = some none := by
  obtain ⟨z1, z2⟩ := He.ba (all_mem h hm)
  obtain ⟨z3, z4⟩ := He.ba z1
  obtain ⟨z5, z6⟩ := He.ba z2
  obtain ⟨z7, z8⟩ := He.ba z6
  exact ⟨⟨(clsB_ok z3).1, He.eqO_ok z5, of_decide_eq_true z7⟩, xfB_ok z4, He.eqO_ok z8⟩
theorem houB_ok {K : PySem.W.Frag} (h : houB K = true) (hC : HC K (He.ga K "House")) : HKn K (He.ga K "House") ∧ HK K (He.ga K "House") ∧ NoT K (He.ga K "House") ∧ PySem.W.kitOne K (.ref (He.ga K "House")) (.ref (He.ga K "House")) = some true ∧ PySem.W.findIn K (.ref (He.ga K "House")) "__ne__" = some (some (.builtin "object.__ne__")) := by
  obtain ⟨z1, z2⟩ := He.ba h
  obtain ⟨z3, z4⟩ := He.ba z2
  obtain ⟨z5, z6⟩ := He.ba z4
  obtain ⟨z7, z8⟩ := He.ba z6
  obtain ⟨z9, z10⟩ := He.ba z8
  obtain ⟨z11, z12⟩ := He.ba z10
  obtain ⟨z13, z14⟩ := He.ba z12
  have kt : ∀ T : String, T ∈ tyM → PySem.W.kitOne K (.type T) (.ref (He.ga K "House")) = some false := fun T hT => of_decide_eq_true (all_mem z13 hT)
  refine ⟨⟨hC, ?_, He.eqO_ok z1, He.eqO_ok z3, of_decide_eq_true z5, of_decide_eq_true z7, fun T hT => of_decide_eq_true (all_mem z11 hT)⟩, ⟨hC, He.eqO_ok z1, He.eqO_ok z3, of_decide_eq_true z5, of_decide_eq_true z7, fun T hT => kt T ?_⟩, fun T hT => kt T hT, of_decide_eq_true z14, He.eqO_ok z9⟩
  · unfold PySem.W.notFirst
    simp
  · have e : tyM = ["NoneType", "bool", "int", "str", "list", "tuple", "dict"] ++ ["function"] := rfl
    rw [e]
    exact List.mem_append_left _ hT
theorem fn_obj {K : PySem.W.Frag} {f : Addr} (h : PySem.W.typeIn K (.ref f) = some (.type "function")) : ∃ o : Obj, K.lookup f = some o ∧ o.cls = .type "function" := by
  have h : (K.lookup f).map (·.cls) = some (.type "function") := h
  cases e : K.lookup f with
  | none =>
    rw [e] at h
    cases h
  | some o =>
    rw [e] at h
    exact ⟨o, rfl, Option.some.inj h⟩
section
variable {w : World} {K : PySem.W.Frag} {h : Heap} {mg : Str → Option Value}
theorem facts (KX : K.In h) (G : h.Ns mainGlobals mg) {fa : Addr} (hfa : mg "law" = some (.ref fa)) (c : He.SaysX faD fnD [] tfD exA w h K) : LawG PySem.Challenge.rw_lastbell_k17_lots_refused w K 15 63 "_law_script" mg fa h := by
  have d := c.t.d
  obtain ⟨m1, m23⟩ := He.ba c.more
  obtain ⟨m2, m3⟩ := He.ba m23
  obtain ⟨m4, m5⟩ := He.ba m3
  obtain ⟨m6, m7⟩ := He.ba m5
  obtain ⟨m8, m9⟩ := He.ba m7
  obtain ⟨m10, m11⟩ := He.ba m9
  obtain ⟨m12, m13⟩ := He.ba m11
  obtain ⟨m14, m15⟩ := He.ba m13
  have d01 := of_decide_eq_true m4
  have d02 := of_decide_eq_true m6
  have d03 := of_decide_eq_true m8
  have d12 := of_decide_eq_true m10
  have d13 := of_decide_eq_true m12
  have d23 := of_decide_eq_true m14
  have od := fn_obj (of_decide_eq_true m15)
  obtain ⟨fdI, FI⟩ := fun_ofD (x := "is_integer") (q := "is_integer") (st := topS 15) (f := He.ga K "is_integer") (d.def_ 0 rfl)
  obtain ⟨fdN, FN⟩ := fun_ofD (x := "is_number") (q := "is_number") (st := topS 16) (f := He.ga K "is_number") (d.def_ 1 rfl)
  obtain ⟨fdL, FL⟩ := fun_ofD (x := "is_list") (q := "is_list") (st := topS 17) (f := He.ga K "is_list") (d.def_ 2 rfl)
  obtain ⟨fdPl, FPl⟩ := fun_ofD (x := "is_place") (q := "is_place") (st := topS 20) (f := He.ga K "is_place") (d.def_ 3 rfl)
  obtain ⟨fdR, FR⟩ := fun_ofD (x := "is_road") (q := "is_road") (st := topS 21) (f := He.ga K "is_road") (d.def_ 4 rfl)
  obtain ⟨fdD0, FD0⟩ := fun_ofD (x := "is_door") (q := "is_door") (st := topS 22) (f := He.ga K "is_door") (d.def_ 5 rfl)
  obtain ⟨fdWR, FWR⟩ := fun_ofD (x := "first_wrong_road") (q := "first_wrong_road") (st := topS 23) (f := He.ga K "first_wrong_road") (d.def_ 6 rfl)
  obtain ⟨fdCo, FCo⟩ := fun_ofD (x := "comes_to") (q := "comes_to") (st := topS 24) (f := He.ga K "comes_to") (d.def_ 7 rfl)
  obtain ⟨fdWD, FWD⟩ := fun_ofD (x := "first_wrong_door") (q := "first_wrong_door") (st := topS 25) (f := He.ga K "first_wrong_door") (d.def_ 8 rfl)
  obtain ⟨fdNH, FNH⟩ := fun_ofD (x := "need_house") (q := "need_house") (st := topS 27) (f := He.ga K "need_house") (d.def_ 9 rfl)
  obtain ⟨fdNB, FNB⟩ := fun_ofD (x := "need_bell") (q := "need_bell") (st := topS 28) (f := He.ga K "need_bell") (d.def_ 10 rfl)
  obtain ⟨fdGL, FGL⟩ := fun_ofD (x := "given_lot") (q := "given_lot") (st := topS 29) (f := He.ga K "given_lot") (d.def_ 11 rfl)
  obtain ⟨fdIL, FIL⟩ := fun_ofD (x := "is_lot") (q := "is_lot") (st := topS 30) (f := He.ga K "is_lot") (d.def_ 12 rfl)
  obtain ⟨fdM, FM⟩ := fun_ofD (x := "most") (q := "most") (st := topS 36) (f := He.ga K "most") (d.def_ 13 rfl)
  obtain ⟨fdMP, FMP⟩ := fun_ofD (x := "most_plan") (q := "most_plan") (st := topS 37) (f := He.ga K "most_plan") (d.def_ 14 rfl)
  obtain ⟨fdLV, FLV⟩ := fun_ofD (x := "levels") (q := "levels") (st := topS 38) (f := He.ga K "levels") (d.def_ 15 rfl)
  obtain ⟨fdSD, FSD⟩ := fun_ofD (x := "steady") (q := "steady") (st := topS 39) (f := He.ga K "steady") (d.def_ 16 rfl)
  obtain ⟨fdLB, FLB⟩ := fun_ofD (x := "lot_bell") (q := "lot_bell") (st := topS 40) (f := He.ga K "lot_bell") (d.def_ 17 rfl)
  obtain ⟨fdIM, FIM⟩ := fun_ofD (x := "is_moments") (q := "is_moments") (st := topS 46) (f := He.ga K "is_moments") (d.def_ 18 rfl)
  obtain ⟨fdLM, FLM⟩ := fun_ofD (x := "is_list_of_moments") (q := "is_list_of_moments") (st := topS 47) (f := He.ga K "is_list_of_moments") (d.def_ 19 rfl)
  obtain ⟨fdWo, FWo⟩ := fun_ofD (x := "worth") (q := "worth") (st := topS 48) (f := He.ga K "worth") (d.def_ 20 rfl)
  obtain ⟨fdMF, FMF⟩ := fun_ofD (x := "moments_for") (q := "moments_for") (st := topS 49) (f := He.ga K "moments_for") (d.def_ 21 rfl)
  obtain ⟨fdSt, FSt⟩ := fun_ofD (x := "_law_stream") (q := "_law_stream") (st := topS 51) (f := He.ga K "_law_stream") (d.def_ 22 rfl)
  obtain ⟨fdD, FD⟩ := fun_ofD (x := "_law_draw") (q := "_law_draw") (st := topS 52) (f := He.ga K "_law_draw") (d.def_ 23 rfl)
  obtain ⟨fdP, FP⟩ := fun_ofD (x := "_law_pick") (q := "_law_pick") (st := topS 53) (f := He.ga K "_law_pick") (d.def_ 24 rfl)
  obtain ⟨fdMx, FMx⟩ := fun_ofD (x := "_law_mixed") (q := "_law_mixed") (st := topS 54) (f := He.ga K "_law_mixed") (d.def_ 25 rfl)
  obtain ⟨fdSm, FSm⟩ := fun_ofD (x := "_law_same") (q := "_law_same") (st := topS 55) (f := He.ga K "_law_same") (d.def_ 26 rfl)
  obtain ⟨fdLo, FLo⟩ := fun_ofD (x := "_law_loose") (q := "_law_loose") (st := topS 56) (f := He.ga K "_law_loose") (d.def_ 27 rfl)
  obtain ⟨fdS, FS⟩ := fun_ofD (x := "_law_stepping") (q := "_law_stepping") (st := topS 57) (f := He.ga K "_law_stepping") (d.def_ 28 rfl)
  obtain ⟨fdH, FH⟩ := fun_ofD (x := "_law_house") (q := "_law_house") (st := topS 58) (f := He.ga K "_law_house") (d.def_ 29 rfl)
  obtain ⟨fdMa, FMa⟩ := fun_ofD (x := "_law_made") (q := "_law_made") (st := topS 59) (f := He.ga K "_law_made") (d.def_ 30 rfl)
  obtain ⟨fdHa, FHa⟩ := fun_ofD (x := "_law_handed") (q := "_law_handed") (st := topS 60) (f := He.ga K "_law_handed") (d.def_ 31 rfl)
  obtain ⟨fdLt, FLt⟩ := fun_ofD (x := "_law_lot") (q := "_law_lot") (st := topS 61) (f := He.ga K "_law_lot") (d.def_ 32 rfl)
  obtain ⟨fdMe, FMe⟩ := fun_ofD (x := "_law_met") (q := "_law_met") (st := topS 62) (f := He.ga K "_law_met") (d.def_ 33 rfl)
  obtain ⟨fdAs, FAs⟩ := funC_ofD (x := "_law_asks") (q := "_law_asks") (st := topS 63) (p := pAs) (d.def_ 34 rfl)
  obtain ⟨fdLe, FLe⟩ := funC_ofD (x := "_law_less") (q := "_law_less") (st := topS 64) (p := pLe) (d.def_ 35 rfl)
  obtain ⟨fdNL, FNL⟩ := fun_ofD (x := "_law_no_lots") (q := "_law_no_lots") (st := topS 65) (f := He.ga K "_law_no_lots") (d.def_ 36 rfl)
  obtain ⟨fdHR, FHR⟩ := funC_ofD (x := "_law_houses_right") (q := "_law_houses_right") (st := topS 66) (p := pHR) (d.def_ 37 rfl)
  obtain ⟨fdLR, FLR⟩ := fun_ofD (x := "_law_lots_right") (q := "_law_lots_right") (st := topS 67) (f := He.ga K "_law_lots_right") (d.def_ 38 rfl)
  obtain ⟨fdRR, FRR⟩ := funC_ofD (x := "_law_rest_right") (q := "_law_rest_right") (st := topS 68) (p := pRR) (d.def_ 39 rfl)
  obtain ⟨fdLw, FLw⟩ := fun_ofD (x := "law") (q := "law") (st := topS 69) (f := He.ga K "law") (d.def_ 40 rfl)
  obtain ⟨fiEp, IEp⟩ := fun_ofD (x := "__init__") (q := "BadPlaces.__init__") (st := inClass (topS 7) 0) (f := He.ma K (He.ga K "BadPlaces") "__init__") (d.def_ 41 rfl)
  obtain ⟨fiEr, IEr⟩ := fun_ofD (x := "__init__") (q := "BadRoads.__init__") (st := inClass (topS 8) 0) (f := He.ma K (He.ga K "BadRoads") "__init__") (d.def_ 42 rfl)
  obtain ⟨fiEd, IEd⟩ := fun_ofD (x := "__init__") (q := "BadDoors.__init__") (st := inClass (topS 9) 0) (f := He.ma K (He.ga K "BadDoors") "__init__") (d.def_ 43 rfl)
  obtain ⟨fiEh, IEh⟩ := fun_ofD (x := "__init__") (q := "BadHouse.__init__") (st := inClass (topS 6) 0) (f := He.ma K (He.ga K "BadHouse") "__init__") (d.def_ 44 rfl)
  obtain ⟨fiEl, IEl⟩ := fun_ofD (x := "__init__") (q := "BadLot.__init__") (st := inClass (topS 10) 0) (f := He.ma K (He.ga K "BadLot") "__init__") (d.def_ 45 rfl)
  obtain ⟨fiEb, IEb⟩ := fun_ofD (x := "__init__") (q := "BadBell.__init__") (st := inClass (topS 11) 0) (f := He.ma K (He.ga K "BadBell") "__init__") (d.def_ 46 rfl)
  obtain ⟨fiEa, IEa⟩ := fun_ofD (x := "__init__") (q := "BadAmount.__init__") (st := inClass (topS 12) 0) (f := He.ma K (He.ga K "BadAmount") "__init__") (d.def_ 47 rfl)
  obtain ⟨fiEm, IEm⟩ := fun_ofD (x := "__init__") (q := "BadMoments.__init__") (st := inClass (topS 13) 0) (f := He.ma K (He.ga K "BadMoments") "__init__") (d.def_ 48 rfl)
  obtain ⟨fiHo, IHo⟩ := fun_ofD (x := "__init__") (q := "House.__init__") (st := inClass (topS 19) 0) (f := He.ma K (He.ga K "House") "__init__") (d.def_ 49 rfl)
  obtain ⟨fmp, Mp⟩ := fun_ofD (x := "places") (q := "House.places") (st := inClass (topS 19) 1) (f := He.ma K (He.ga K "House") "places") (d.def_ 50 rfl)
  obtain ⟨fmd, Md⟩ := fun_ofD (x := "doors") (q := "House.doors") (st := inClass (topS 19) 3) (f := He.ma K (He.ga K "House") "doors") (d.def_ 51 rfl)
  obtain ⟨fme, Me⟩ := fun_ofD (x := "__eq__") (q := "House.__eq__") (st := inClass (topS 19) 4) (f := He.ma K (He.ga K "House") "__eq__") (d.def_ 52 rfl)
  have gI : mg "is_integer" = some (.ref (He.ga K "is_integer")) := He.glo_ok KX G (d.fact 0 (f := .glo "is_integer") rfl)
  have gN : mg "is_number" = some (.ref (He.ga K "is_number")) := He.glo_ok KX G (d.fact 1 (f := .glo "is_number") rfl)
  have gL : mg "is_list" = some (.ref (He.ga K "is_list")) := He.glo_ok KX G (d.fact 2 (f := .glo "is_list") rfl)
  have gPl : mg "is_place" = some (.ref (He.ga K "is_place")) := He.glo_ok KX G (d.fact 3 (f := .glo "is_place") rfl)
  have gR : mg "is_road" = some (.ref (He.ga K "is_road")) := He.glo_ok KX G (d.fact 4 (f := .glo "is_road") rfl)
  have gD0 : mg "is_door" = some (.ref (He.ga K "is_door")) := He.glo_ok KX G (d.fact 5 (f := .glo "is_door") rfl)
  have gWR : mg "first_wrong_road" = some (.ref (He.ga K "first_wrong_road")) := He.glo_ok KX G (d.fact 6 (f := .glo "first_wrong_road") rfl)
  have gCo : mg "comes_to" = some (.ref (He.ga K "comes_to")) := He.glo_ok KX G (d.fact 7 (f := .glo "comes_to") rfl)
  have gWD : mg "first_wrong_door" = some (.ref (He.ga K "first_wrong_door")) := He.glo_ok KX G (d.fact 8 (f := .glo "first_wrong_door") rfl)
  have gNH : mg "need_house" = some (.ref (He.ga K "need_house")) := He.glo_ok KX G (d.fact 9 (f := .glo "need_house") rfl)
  have gNB : mg "need_bell" = some (.ref (He.ga K "need_bell")) := He.glo_ok KX G (d.fact 10 (f := .glo "need_bell") rfl)
  have gGL : mg "given_lot" = some (.ref (He.ga K "given_lot")) := He.glo_ok KX G (d.fact 11 (f := .glo "given_lot") rfl)
  have gIL : mg "is_lot" = some (.ref (He.ga K "is_lot")) := He.glo_ok KX G (d.fact 12 (f := .glo "is_lot") rfl)
  have gM : mg "most" = some (.ref (He.ga K "most")) := He.glo_ok KX G (d.fact 13 (f := .glo "most") rfl)
  have gMP : mg "most_plan" = some (.ref (He.ga K "most_plan")) := He.glo_ok KX G (d.fact 14 (f := .glo "most_plan") rfl)
  have gLV : mg "levels" = some (.ref (He.ga K "levels")) := He.glo_ok KX G (d.fact 15 (f := .glo "levels") rfl)
  have gSD : mg "steady" = some (.ref (He.ga K "steady")) := He.glo_ok KX G (d.fact 16 (f := .glo "steady") rfl)
  have gLB : mg "lot_bell" = some (.ref (He.ga K "lot_bell")) := He.glo_ok KX G (d.fact 17 (f := .glo "lot_bell") rfl)
  have gIM : mg "is_moments" = some (.ref (He.ga K "is_moments")) := He.glo_ok KX G (d.fact 18 (f := .glo "is_moments") rfl)
  have gLM : mg "is_list_of_moments" = some (.ref (He.ga K "is_list_of_moments")) := He.glo_ok KX G (d.fact 19 (f := .glo "is_list_of_moments") rfl)
  have gWo : mg "worth" = some (.ref (He.ga K "worth")) := He.glo_ok KX G (d.fact 20 (f := .glo "worth") rfl)
  have gMF : mg "moments_for" = some (.ref (He.ga K "moments_for")) := He.glo_ok KX G (d.fact 21 (f := .glo "moments_for") rfl)
  have gSt : mg "_law_stream" = some (.ref (He.ga K "_law_stream")) := He.glo_ok KX G (d.fact 22 (f := .glo "_law_stream") rfl)
  have gD : mg "_law_draw" = some (.ref (He.ga K "_law_draw")) := He.glo_ok KX G (d.fact 23 (f := .glo "_law_draw") rfl)
  have gP : mg "_law_pick" = some (.ref (He.ga K "_law_pick")) := He.glo_ok KX G (d.fact 24 (f := .glo "_law_pick") rfl)
  have gMx : mg "_law_mixed" = some (.ref (He.ga K "_law_mixed")) := He.glo_ok KX G (d.fact 25 (f := .glo "_law_mixed") rfl)
  have gSm : mg "_law_same" = some (.ref (He.ga K "_law_same")) := He.glo_ok KX G (d.fact 26 (f := .glo "_law_same") rfl)
  have gLo : mg "_law_loose" = some (.ref (He.ga K "_law_loose")) := He.glo_ok KX G (d.fact 27 (f := .glo "_law_loose") rfl)
  have gS : mg "_law_stepping" = some (.ref (He.ga K "_law_stepping")) := He.glo_ok KX G (d.fact 28 (f := .glo "_law_stepping") rfl)
  have gH : mg "_law_house" = some (.ref (He.ga K "_law_house")) := He.glo_ok KX G (d.fact 29 (f := .glo "_law_house") rfl)
  have gMa : mg "_law_made" = some (.ref (He.ga K "_law_made")) := He.glo_ok KX G (d.fact 30 (f := .glo "_law_made") rfl)
  have gHa : mg "_law_handed" = some (.ref (He.ga K "_law_handed")) := He.glo_ok KX G (d.fact 31 (f := .glo "_law_handed") rfl)
  have gLt : mg "_law_lot" = some (.ref (He.ga K "_law_lot")) := He.glo_ok KX G (d.fact 32 (f := .glo "_law_lot") rfl)
  have gMe : mg "_law_met" = some (.ref (He.ga K "_law_met")) := He.glo_ok KX G (d.fact 33 (f := .glo "_law_met") rfl)
  have gAs : mg "_law_asks" = some (.ref (He.ga K "_law_asks")) := He.glo_ok KX G (d.fact 34 (f := .glo "_law_asks") rfl)
  have gLe : mg "_law_less" = some (.ref (He.ga K "_law_less")) := He.glo_ok KX G (d.fact 35 (f := .glo "_law_less") rfl)
  have gNL : mg "_law_no_lots" = some (.ref (He.ga K "_law_no_lots")) := He.glo_ok KX G (d.fact 36 (f := .glo "_law_no_lots") rfl)
  have gHR : mg "_law_houses_right" = some (.ref (He.ga K "_law_houses_right")) := He.glo_ok KX G (d.fact 37 (f := .glo "_law_houses_right") rfl)
  have gLR : mg "_law_lots_right" = some (.ref (He.ga K "_law_lots_right")) := He.glo_ok KX G (d.fact 38 (f := .glo "_law_lots_right") rfl)
  have gRR : mg "_law_rest_right" = some (.ref (He.ga K "_law_rest_right")) := He.glo_ok KX G (d.fact 39 (f := .glo "_law_rest_right") rfl)
  have gLw : mg "law" = some (.ref (He.ga K "law")) := He.glo_ok KX G (d.fact 40 (f := .glo "law") rfl)
  have gHo : mg "House" = some (.ref (He.ga K "House")) := He.glo_ok KX G (d.fact 41 (f := .glo "House") rfl)
  have gEp : mg "BadPlaces" = some (.ref (He.ga K "BadPlaces")) := He.glo_ok KX G (d.fact 42 (f := .glo "BadPlaces") rfl)
  have gEr : mg "BadRoads" = some (.ref (He.ga K "BadRoads")) := He.glo_ok KX G (d.fact 43 (f := .glo "BadRoads") rfl)
  have gEd : mg "BadDoors" = some (.ref (He.ga K "BadDoors")) := He.glo_ok KX G (d.fact 44 (f := .glo "BadDoors") rfl)
  have gEh : mg "BadHouse" = some (.ref (He.ga K "BadHouse")) := He.glo_ok KX G (d.fact 45 (f := .glo "BadHouse") rfl)
  have gEl : mg "BadLot" = some (.ref (He.ga K "BadLot")) := He.glo_ok KX G (d.fact 46 (f := .glo "BadLot") rfl)
  have gEb : mg "BadBell" = some (.ref (He.ga K "BadBell")) := He.glo_ok KX G (d.fact 47 (f := .glo "BadBell") rfl)
  have gEa : mg "BadAmount" = some (.ref (He.ga K "BadAmount")) := He.glo_ok KX G (d.fact 48 (f := .glo "BadAmount") rfl)
  have gEm : mg "BadMoments" = some (.ref (He.ga K "BadMoments")) := He.glo_ok KX G (d.fact 49 (f := .glo "BadMoments") rfl)
  have z0 : mg "abs" = none := He.free_ok KX G (d.fact 50 (f := .free "abs") rfl)
  have z1 : mg "int" = none := He.free_ok KX G (d.fact 51 (f := .free "int") rfl)
  have z2 : mg "list" = none := He.free_ok KX G (d.fact 52 (f := .free "list") rfl)
  have z3 : mg "len" = none := He.free_ok KX G (d.fact 53 (f := .free "len") rfl)
  have z4 : mg "isinstance" = none := He.free_ok KX G (d.fact 54 (f := .free "isinstance") rfl)
  have z5 : mg "tuple" = none := He.free_ok KX G (d.fact 55 (f := .free "tuple") rfl)
  have z6 : mg "dict" = none := He.free_ok KX G (d.fact 56 (f := .free "dict") rfl)
  have z7 : mg "bool" = none := He.free_ok KX G (d.fact 57 (f := .free "bool") rfl)
  have z8 : mg "all" = none := He.free_ok KX G (d.fact 58 (f := .free "all") rfl)
  have z9 : mg "zip" = none := He.free_ok KX G (d.fact 59 (f := .free "zip") rfl)
  have z10 : mg "range" = none := He.free_ok KX G (d.fact 60 (f := .free "range") rfl)
  have z11 : mg "enumerate" = none := He.free_ok KX G (d.fact 61 (f := .free "enumerate") rfl)
  have z12 : mg "max" = none := He.free_ok KX G (d.fact 62 (f := .free "max") rfl)
  have z13 : mg "str" = none := He.free_ok KX G (d.fact 63 (f := .free "str") rfl)
  have z14 : mg "min" = none := He.free_ok KX G (d.fact 64 (f := .free "min") rfl)
  have z15 : mg "repr" = none := He.free_ok KX G (d.fact 65 (f := .free "repr") rfl)
  have z16 : mg "sorted" = none := He.free_ok KX G (d.fact 66 (f := .free "sorted") rfl)
  have z17 : mg "sum" = none := He.free_ok KX G (d.fact 67 (f := .free "sum") rfl)
  have cl := He.cls_ok (d.fact 68 (f := .cls "House") rfl)
  have n1 := He.noat_ok (d.fact 69 (f := .noat "House" "_places") rfl)
  have n2 := He.noat_ok (d.fact 70 (f := .noat "House" "_roads") rfl)
  have n3 := He.noat_ok (d.fact 71 (f := .noat "House" "_doors") rfl)
  have mk := He.mkr_ok (d.fact 72 (f := .mkr "House") rfl)
  have tp := He.meth_ok (d.fact 73 (f := .meth "House" "places") rfl)
  have td := He.meth_ok (d.fact 74 (f := .meth "House" "doors") rfl)
  have te := He.meth_ok (d.fact 75 (f := .meth "House" "__eq__") rfl)
  have xm0 := He.exm_ok (d.fact 76 (f := .exm "BadHouse" "BadHouse" true) rfl)
  have xm1 := He.exm_ok (d.fact 77 (f := .exm "BadLot" "BadHouse" false) rfl)
  have xm2 := He.exm_ok (d.fact 78 (f := .exm "BadLot" "BadLot" true) rfl)
  have xm3 := He.exm_ok (d.fact 79 (f := .exm "BadBell" "BadHouse" false) rfl)
  have xm4 := He.exm_ok (d.fact 80 (f := .exm "BadBell" "BadLot" false) rfl)
  have xm5 := He.exm_ok (d.fact 81 (f := .exm "BadBell" "BadBell" true) rfl)
  have xm6 := He.exm_ok (d.fact 82 (f := .exm "BadAmount" "BadHouse" false) rfl)
  have xm7 := He.exm_ok (d.fact 83 (f := .exm "BadAmount" "BadLot" false) rfl)
  have xm8 := He.exm_ok (d.fact 84 (f := .exm "BadAmount" "BadBell" false) rfl)
  have xm9 := He.exm_ok (d.fact 85 (f := .exm "BadAmount" "BadAmount" true) rfl)
  have xm10 := He.exm_ok (d.fact 86 (f := .exm "BadMoments" "BadHouse" false) rfl)
  have xm11 := He.exm_ok (d.fact 87 (f := .exm "BadMoments" "BadLot" false) rfl)
  have xm12 := He.exm_ok (d.fact 88 (f := .exm "BadMoments" "BadBell" false) rfl)
  have xm13 := He.exm_ok (d.fact 89 (f := .exm "BadMoments" "BadAmount" false) rfl)
  have xm14 := He.exm_ok (d.fact 90 (f := .exm "BadMoments" "BadMoments" true) rfl)
  have B : Bt mg := ⟨z0, z1, z2, z3, z4, z5, z6, z7, z8, z9, z10, z11, z12, z13, z14⟩
  obtain ⟨iEp, xfEp, noEp⟩ := initB_at m1 (c := "BadPlaces") (f := "places") (by decide +kernel)
  obtain ⟨iEr, xfEr, noEr⟩ := initB_at m1 (c := "BadRoads") (f := "index") (by decide +kernel)
  obtain ⟨iEd, xfEd, noEd⟩ := initB_at m1 (c := "BadDoors") (f := "index") (by decide +kernel)
  obtain ⟨iEh, xfEh, noEh⟩ := initB_at m1 (c := "BadHouse") (f := "thing") (by decide +kernel)
  obtain ⟨iEl, xfEl, noEl⟩ := initB_at m1 (c := "BadLot") (f := "lot") (by decide +kernel)
  obtain ⟨iEb, xfEb, noEb⟩ := initB_at m1 (c := "BadBell") (f := "bell") (by decide +kernel)
  obtain ⟨iEa, xfEa, noEa⟩ := initB_at m1 (c := "BadAmount") (f := "amount") (by decide +kernel)
  obtain ⟨iEm, xfEm, noEm⟩ := initB_at m1 (c := "BadMoments") (f := "moments") (by decide +kernel)
  have bI := FI.binds (ps := ["thing"]) fun _ _ _ _ _ _ us hl => match us, hl with | [_], _ => rfl
  have bN := FN.binds (ps := ["thing"]) fun _ _ _ _ _ _ us hl => match us, hl with | [_], _ => rfl
  have bL := FL.binds (ps := ["thing"]) fun _ _ _ _ _ _ us hl => match us, hl with | [_], _ => rfl
  have bPl := FPl.binds (ps := ["places", "thing"]) fun _ _ _ _ _ _ us hl => match us, hl with | [_, _], _ => rfl
  have bR := FR.binds (ps := ["places", "thing"]) fun _ _ _ _ _ _ us hl => match us, hl with | [_, _], _ => rfl
  have bD0 := FD0.binds (ps := ["places", "thing"]) fun _ _ _ _ _ _ us hl => match us, hl with | [_, _], _ => rfl
  have bWR := FWR.binds (ps := ["places", "roads"]) fun _ _ _ _ _ _ us hl => match us, hl with | [_, _], _ => rfl
  have bCo := FCo.binds (ps := ["onward", "begin", "end"]) fun _ _ _ _ _ _ us hl => match us, hl with | [_, _, _], _ => rfl
  have bWD := FWD.binds (ps := ["places", "doors"]) fun _ _ _ _ _ _ us hl => match us, hl with | [_, _], _ => rfl
  have bNH := FNH.binds (ps := ["house"]) fun _ _ _ _ _ _ us hl => match us, hl with | [_], _ => rfl
  have bNB := FNB.binds (ps := ["bell"]) fun _ _ _ _ _ _ us hl => match us, hl with | [_], _ => rfl
  have bGL := FGL.binds (ps := ["house", "lot"]) fun _ _ _ _ _ _ us hl => match us, hl with | [_, _], _ => rfl
  have bIL := FIL.binds (ps := ["house", "thing"]) fun _ _ _ _ _ _ us hl => match us, hl with | [_, _], _ => rfl
  have bM := FM.binds (ps := ["house", "lot", "bell"]) fun _ _ _ _ _ _ us hl => match us, hl with | [_, _, _], _ => rfl
  have bMP := FMP.binds (ps := ["house", "lot", "bell"]) fun _ _ _ _ _ _ us hl => match us, hl with | [_, _, _], _ => rfl
  have bLV := FLV.binds (ps := ["house", "lot"]) fun _ _ _ _ _ _ us hl => match us, hl with | [_, _], _ => rfl
  have bSD := FSD.binds (ps := ["house", "lot"]) fun _ _ _ _ _ _ us hl => match us, hl with | [_, _], _ => rfl
  have bLB := FLB.binds (ps := ["house", "lot", "amount"]) fun _ _ _ _ _ _ us hl => match us, hl with | [_, _, _], _ => rfl
  have bIM := FIM.binds (ps := ["house", "lot", "bell", "thing"]) fun _ _ _ _ _ _ us hl => match us, hl with | [_, _, _, _], _ => rfl
  have bLM := FLM.binds (ps := ["house", "thing"]) fun _ _ _ _ _ _ us hl => match us, hl with | [_, _], _ => rfl
  have bWo := FWo.binds (ps := ["house", "moments"]) fun _ _ _ _ _ _ us hl => match us, hl with | [_, _], _ => rfl
  have bMF := FMF.binds (ps := ["house", "lot", "bell"]) fun _ _ _ _ _ _ us hl => match us, hl with | [_, _, _], _ => rfl
  have bSt := FSt.binds (ps := ["_law_script"]) fun _ _ _ _ _ _ us hl => match us, hl with | [_], _ => rfl
  have bD := FD.binds (ps := ["_law_stream_here", "_law_many"]) fun _ _ _ _ _ _ us hl => match us, hl with | [_, _], _ => rfl
  have bP := FP.binds (ps := ["_law_stream_here", "_law_things"]) fun _ _ _ _ _ _ us hl => match us, hl with | [_, _], _ => rfl
  have bMx := FMx.binds (ps := ["_law_stream_here", "_law_things"]) fun _ _ _ _ _ _ us hl => match us, hl with | [_, _], _ => rfl
  have bSm := FSm.binds (ps := ["_law_found", "_law_due"]) fun _ _ _ _ _ _ us hl => match us, hl with | [_, _], _ => rfl
  have bLo := FLo.binds (ps := ["_law_stream_here", "_law_thing"]) fun _ _ _ _ _ _ us hl => match us, hl with | [_, _], _ => rfl
  have bS := FS.binds (ps := ["_law_stream_here", "_law_begin", "_law_end", "_law_order", "_law_wide"]) fun _ _ _ _ _ _ us hl => match us, hl with | [_, _, _, _, _], _ => rfl
  have bH := FH.binds (ps := ["_law_stream_here", "_law_places", "_law_full", "_law_doors"]) fun _ _ _ _ _ _ us hl => match us, hl with | [_, _, _, _], _ => rfl
  have bMa := FMa.binds (ps := ["_law_stream_here", "_law_house_here"]) fun _ _ _ _ _ _ us hl => match us, hl with | [_, _], _ => rfl
  have bHa := FHa.binds (ps := ["_law_stream_here", "_law_lot_here"]) fun _ _ _ _ _ _ us hl => match us, hl with | [_, _], _ => rfl
  have bLt := FLt.binds (ps := ["_law_stream_here", "_law_house_here"]) fun _ _ _ _ _ _ us hl => match us, hl with | [_, _], _ => rfl
  have bMe := FMe.binds (ps := ["_law_ask"]) fun _ _ _ _ _ _ us hl => match us, hl with | [_], _ => rfl
  have bAs := FAs.binds (ps := ["_law_house_here", "_law_lot_here", "_law_bell"]) fun _ _ _ _ _ _ us hl => match us, hl with | [_, _, _], _ => rfl
  have bLe := FLe.binds (ps := ["_law_house_here", "_law_lot_here"]) fun _ _ _ _ _ _ us hl => match us, hl with | [_, _], _ => rfl
  have bNL := FNL.binds (ps := ["_law_stream_here", "_law_house_here"]) fun _ _ _ _ _ _ us hl => match us, hl with | [_, _], _ => rfl
  have bHR := FHR.binds (ps := ["_law_house_here"]) fun _ _ _ _ _ _ us hl => match us, hl with | [_], _ => rfl
  have bLR := FLR.binds (ps := ["_law_stream_here", "_law_house_here", "_law_made_here"]) fun _ _ _ _ _ _ us hl => match us, hl with | [_, _, _], _ => rfl
  have bRR := FRR.binds (ps := ["_law_stream_here", "_law_house_here", "_law_made_here"]) fun _ _ _ _ _ _ us hl => match us, hl with | [_, _, _], _ => rfl
  have bLw := FLw.binds (ps := ["_law_script"]) fun _ _ _ _ _ _ us hl => match us, hl with | [_], _ => rfl
  have bHo := IHo.binds (ps := ["self", "places", "roads", "doors"]) fun _ _ _ _ _ _ us hl => match us, hl with | [_, _, _, _], _ => rfl
  have bp := Mp.binds (ps := ["self"]) fun _ _ _ _ _ _ us hl => match us, hl with | [_], _ => rfl
  have bd := Md.binds (ps := ["self"]) fun _ _ _ _ _ _ us hl => match us, hl with | [_], _ => rfl
  have be := Me.binds (ps := ["self", "other"]) fun _ _ _ _ _ _ us hl => match us, hl with | [_, _], _ => rfl
  have e := hfa.symm.trans gLw
  cases e
  have hC : HC K (He.ga K "House") := ⟨cl, n1, n2, n3⟩
  obtain ⟨k0', k0, nt, kc, ne⟩ := houB_ok m2 hC
  have S0 : Eqs K (He.ga K "House") (He.ma K (He.ga K "House") "__eq__") := ⟨te.at_, te.fn, ne, k0.hm⟩
  have hm0 : ((He.cT K pAs).2, qAs) ∈ tT K := by simp [tT]
  have hm1 : ((He.cT K pLe).2, qLe) ∈ tT K := by simp [tT]
  have hm2 : ((He.cT K pHR).2, qHR) ∈ tT K := by simp [tT]
  have hm3 : ((He.cT K pRR).2, qRR) ∈ tT K := by simp [tT]
  have four : ∀ {p : Addr × Str}, p ∈ tT K → p = ((He.cT K pAs).2, qAs) ∨ p = ((He.cT K pLe).2, qLe) ∨ p = ((He.cT K pHR).2, qHR) ∨ p = ((He.cT K pRR).2, qRR) := fun {p} hp => by
    simpa only [tT, List.mem_cons, List.not_mem_nil, or_false] using hp
  have hu0 : ∀ p ∈ tT K, p.1 = (He.cT K pAs).2 → p.2 = qAs := fun p hp e => by
    rcases four hp with rfl | rfl | rfl | rfl
    · rfl
    · exact absurd e.symm d01
    · exact absurd e.symm d02
    · exact absurd e.symm d03
  have hu1 : ∀ p ∈ tT K, p.1 = (He.cT K pLe).2 → p.2 = qLe := fun p hp e => by
    rcases four hp with rfl | rfl | rfl | rfl
    · exact absurd e d01
    · rfl
    · exact absurd e.symm d12
    · exact absurd e.symm d13
  have hu2 : ∀ p ∈ tT K, p.1 = (He.cT K pHR).2 → p.2 = qHR := fun p hp e => by
    rcases four hp with rfl | rfl | rfl | rfl
    · exact absurd e d02
    · exact absurd e d12
    · rfl
    · exact absurd e.symm d23
  have hu3 : ∀ p ∈ tT K, p.1 = (He.cT K pRR).2 → p.2 = qRR := fun p hp e => by
    rcases four hp with rfl | rfl | rfl | rfl
    · exact absurd e d03
    · exact absurd e d13
    · exact absurd e d23
    · rfl
  have two : ∀ {p : Addr × Addr}, p ∈ [He.cT K pAs, He.cT K pLe, He.cT K pHR, He.cT K pRR] → ∃ q, q ∈ tfD ∧ p = He.cT K q := fun {p} hp => by
    simp only [List.mem_cons, List.not_mem_nil, or_false] at hp
    rcases hp with rfl | rfl | rfl | rfl
    · exact ⟨pAs, by simp [tfD], rfl⟩
    · exact ⟨pLe, by simp [tfD], rfl⟩
    · exact ⟨pHR, by simp [tfD], rfl⟩
    · exact ⟨pRR, by simp [tfD], rfl⟩
  refine ⟨fdLw, [He.cT K pAs, He.cT K pLe, He.cT K pHR, He.cT K pRR], spLaw K (tT K), fun p hp => ?_, fun p hp => ?_, fun p hp => ?_, fun s u => ?_, fun H a ns hl hH hS => ⟨a, ns, rfl, hS, hl, fun p hp => ?_, fun _ => rfl⟩, fun base KB GB TB => ?_⟩
  · obtain ⟨q, hq, rfl⟩ := two hp
    exact c.empty q hq
  · obtain ⟨q, hq, rfl⟩ := two hp
    exact c.out q hq
  · obtain ⟨q, hq, rfl⟩ := two hp
    exact PySem.W.codeHd_of_K KX (c.hd q hq)
  · obtain ⟨oc, od, kV, doc, pm, an, cdv, ct, osl, rfl, _, _⟩ := FLw.ex
    exact .of_eq rfl
  · rcases four hp with rfl | rfl | rfl | rfl
    · exact TabS.nil (hH (He.cT K pAs) (by simp))
    · exact TabS.nil (hH (He.cT K pLe) (by simp))
    · exact TabS.nil (hH (He.cT K pHR) (by simp))
    · exact TabS.nil (hH (He.cT K pRR) (by simp))
  · have tb0 := TB (He.cT K pAs) (by simp)
    have tb1 := TB (He.cT K pLe) (by simp)
    have tb2 := TB (He.cT K pHR) (by simp)
    have tb3 := TB (He.cT K pRR) (by simp)
    have EP := ei_BadPlaces (P := PySem.Challenge.rw_lastbell_k17_lots_refused.prog) (w := w) (base := base) (mg := mg) IEp gEp iEp noEp
    have ER := ei_BadRoads (P := PySem.Challenge.rw_lastbell_k17_lots_refused.prog) (w := w) (base := base) (mg := mg) IEr gEr iEr noEr
    have ED := ei_BadDoors (P := PySem.Challenge.rw_lastbell_k17_lots_refused.prog) (w := w) (base := base) (mg := mg) IEd gEd iEd noEd
    have EH := ei_BadHouse (P := PySem.Challenge.rw_lastbell_k17_lots_refused.prog) (w := w) (base := base) (mg := mg) IEh gEh iEh noEh
    have EL := ei_BadLot (P := PySem.Challenge.rw_lastbell_k17_lots_refused.prog) (w := w) (base := base) (mg := mg) IEl gEl iEl noEl
    have EB := ei_BadBell (P := PySem.Challenge.rw_lastbell_k17_lots_refused.prog) (w := w) (base := base) (mg := mg) IEb gEb iEb noEb
    have EA := ei_BadAmount (P := PySem.Challenge.rw_lastbell_k17_lots_refused.prog) (w := w) (base := base) (mg := mg) IEa gEa iEa noEa
    have EM := ei_BadMoments (P := PySem.Challenge.rw_lastbell_k17_lots_refused.prog) (w := w) (base := base) (mg := mg) IEm gEm iEm noEm
    have CA : Cau K mg _ _ _ _ _ := ⟨gEh, gEl, gEb, gEa, gEm, xfEh, xfEl, xfEb, xfEa, xfEm, noEh, noEl, noEb, noEa, noEm, xm0, xm1, xm2, xm3, xm4, xm5, xm6, xm7, xm8, xm9, xm10, xm11, xm12, xm13, xm14⟩
    have GI := ok_hinit IHo B FI gI bI FN gN bN FL gL bL FPl gPl bPl FR gR bR FCo gCo bCo FD0 gD0 bD0 FWR gWR bWR FWD gWD bWD EP ER ED
    have GNH := ok_needH FNH B gHo EH
    have GNB := ok_needB FNB B FI gI bI FN gN bN EB
    have GGL := ok_givenLot FGL B z16 k0 FI gI bI FL gL bL td Md bd FIL gIL bIL EL
    have GM := ok_most FM FNH gNH bNH GNH FGL gGL bGL GGL FNB gNB bNB GNB
    have GMP := ok_most_plan FMP FNH gNH bNH GNH FGL gGL bGL GGL FNB gNB bNB GNB
    have GIM := ok_is_moments FIM FNH gNH bNH GNH FGL gGL bGL GGL FNB gNB bNB GNB
    have GMF := ok_moments_for FMF FNH gNH bNH GNH FGL gGL bGL GGL FNB gNB bNB GNB
    have GLV := ok_levels FLV FNH gNH bNH GNH FGL gGL bGL GGL
    have GN := ok_isNum (P := PySem.Challenge.rw_lastbell_k17_lots_refused.prog) (w := w) (base := base) (mg := mg) FN B FI gI bI
    have GLB := ok_lot_bell FLB FNH gNH bNH GNH FGL gGL bGL GGL FN gN bN GN EA
    have GSD := ok_steady FSD z17 FLV gLV bLV GLV
    have GLM := ok_lm (P := PySem.Challenge.rw_lastbell_k17_lots_refused.prog) (w := w) (base := base) (mg := mg) FLM B k0 FI gI bI FL gL bL FN gN bN tp Mp bp
    have GWo := ok_worth FWo FNH gNH bNH GNH FLM gLM bLM GLM EM
    have GE := ok_heq4 (P := PySem.Challenge.rw_lastbell_k17_lots_refused.prog) (w := w) (base := base) (mg := mg) k0' Me B gHo
    have GSm := ok_same k0' S0 GE be FSm B gSm bSm 10
    have GL1 := ok_lo1 (P := PySem.Challenge.rw_lastbell_k17_lots_refused.prog) (w := w) (base := base) (mg := mg) FLo B FD gD bD gLo bLo
    have GL2 := ok_lo2 (P := PySem.Challenge.rw_lastbell_k17_lots_refused.prog) (w := w) (base := base) (mg := mg) FLo B FD gD bD gLo bLo
    have GH := ok_house (P := PySem.Challenge.rw_lastbell_k17_lots_refused.prog) (w := w) (base := base) (mg := mg) FH B FD gD bD FP gP bP FMx gMx bMx FS gS bS
    have GMa := ok_made FMa mk hC GI gHo bHo FLo GL2 gLo bLo
    have GMe := ok_met (P := PySem.Challenge.rw_lastbell_k17_lots_refused.prog) (w := w) (base := base) (mg := mg) FMe CA
    have GAs := ok_asks (T0 := tT K) FAs nt k0 kc FM gM bM GM FMP gMP bMP GMP FIM gIM bIM GIM FMF gMF bMF GMF tb0 hm0 hu0
    have GLe := ok_less (T0 := tT K) FLe nt k0 kc FLV gLV bLV GLV FSD gSD bSD GSD FLB gLB bLB GLB tb1 hm1 hu1
    have GHR := ok_hr (T0 := tT K) FHR B nt k0 kc FAs gAs bAs GAs FLe gLe bLe GLe FSm gSm bSm GSm FMe gMe bMe GMe FWo gWo bWo GWo gP od tb2 hm2 hu2
    have GNL := ok_nl (P := PySem.Challenge.rw_lastbell_k17_lots_refused.prog) (w := w) (base := base) (mg := mg) (C := He.ga K "House") FNL B FD gD bD FLo gLo bLo GL1
    have GLt := ok_lt (P := PySem.Challenge.rw_lastbell_k17_lots_refused.prog) (w := w) (base := base) (mg := mg) FLt B z16 FD gD bD FMx gMx bMx
    have GHa := ok_ha (P := PySem.Challenge.rw_lastbell_k17_lots_refused.prog) (w := w) (base := base) (mg := mg) FHa B FD gD bD FMx gMx bMx FLo gLo bLo GL1
    have GLR := ok_lr (T0 := tT K) FLR B FNL gNL bNL GNL FAs gAs bAs GAs FLe gLe bLe GLe FSm gSm bSm GSm FMe gMe bMe GMe
    have GRR := ok_rr (T0 := tT K) FRR B nt k0 kc FLt gLt bLt GLt FHa gHa bHa GHa FAs gAs bAs GAs FSm gSm bSm GSm FMe gMe bMe GMe CA FM gM bM GM FLB gLB bLB GLB FWo gWo bWo GWo tb3 hm3 hu3
    obtain ⟨oc, od2, kV, doc, pm, an, cdv, ct, osl, rfl, lk, hcd⟩ := FLw.ex
    refine ⟨fun vs H Q E h => ?_, fun A outer s H args us vs Q E hG0 hr0 e0 hb r hsp => ?_⟩
    · obtain ⟨a, ns, rfl, _⟩ := h
      rfl
    · obtain ⟨a, ns, rfl, hS, hl, hT, k⟩ := hsp
      refine LamX.run_ofS (k := 14) (N := NLaw) (ps := ["_law_script"]) lk hcd scLaw hr0 e0 hb r rfl fun hr => ?_
      obtain ⟨t, ht, hq⟩ := law_body (fD := He.ga K "_law_draw") (fdD := fdD) B FSt gSt bSt FH gH bH GH FMa gMa bMa GMa FHR.kp gHR bHR GHR FLR gLR bLR GLR FRR.kp gRR bRR GRR (outer := outer) (E := E) hr hS hl hT k
      exact ⟨t, ht.nox, hq⟩
end
end K17
open PySem PySem.W PySem.Calls PyProof.Rows
theorem PySem.Challenge.cw_lastbell_k17_lots_refused_holds : PySem.Challenge.rw_lastbell_k17_lots_refused.Holds := by
  w_on; o_law
  refine HandSHeadRun.head_any (r := K17.R) (q := view K17.R.prog [69]) (H := K17.hk) (ob := K17.ob) (M := 9000) (loose := K17.looseN) (d := HandSHeadRun.topDef K17.R.prog 69) (kwd := []) K17.ob_eq
    (by kernel_rfl) (fun s => by kernel_rfl) K17.run (by kernel_rfl) (by kernel_rfl) (by kernel_rfl) (by rfl) (by first | assumption | decide +kernel) (by decide +kernel) ⟨rfl, rfl, rfl, rfl, rfl, by decide +kernel⟩ ?hw ?hc
  case hw => w_witness2
  case hc =>
    refine Own.walk_G (l := PySem.Challenge.rw_lastbell_k17_lots_refused) (n := 63) (k := 15) (x := "_law_script") rfl (by decide) (by kernel_rfl) ⟨rfl, by decide, by decide⟩ ?F
    intro w mg fa h Y G hmg0
    obtain ⟨K, KX, c⟩ := Y
    have hmg : mg ("law" : PySem.Str) = some (.ref fa) := by
      have e : (HandSHeadRun.topDef K17.R.prog 69).name = ("law" : PySem.Str) := by kernel_rfl
      rw [← e]
      exact hmg0
    exact ⟨K, KX, K17.facts KX G hmg c⟩

