import PyProof.Rows.All
import Wide.All
import OpenK.AllK
import Wide.FinOn
import HandS.ForMost
import HandS.ExcInit
import HandS.Lambda
import HandS.CallLocal
import HandS.ExcIs
import HandS.ExcValue
import HandS.IsInst
import HandS.ForExc
import HandS.TryMany
import HandS.ExcField
import HandS.Words
import HandS.Walk
import HandS.Zip
import HandS.ListItems
import HandS.Evl
import HandS.EndTab
import HandS.Style
import HandS.Conv
import HandS.NoneIn
import HandS.Small
import HandS.SetKeys
import HandS.Wide
import KE.GoesEnum
import PyProof.IsiBase
import KE.KIsAll
import HandS.More
import HandS.OwnEq
import HandS.Deep
import HandS.TupAny
import HandS.MakeKwOnly
import HandS.List
import HandS.WordsExc
import PyProof.ReprRoads
import PyProof.ReprLen
import HandS.Dict
import HandS.SortInts
import KE.KDictSum
import KE.KDictPairs
import HandS.HeadHook4
import HandS.Head3
import HandS.Defaults
import HandS.HeadHook1
import HandS.HeadHook2
import HandS.HeadHook3
import HandS.HeadWalk
import HandS.HeadEnd
import HandS.Head0
import HandS.Head1
import HandS.Head2
import PySem.Challenge.RW_lastbell_k05_whole_added_and_later
set_option Elab.async false
set_option linter.all false
set_option maxRecDepth 100000
set_option maxHeartbeats 2000000
/-! lambdas with parameters and without captured names, as tracked objects -/
namespace Own
open PySem PySem.Spec PyProof.Rows L2 LamX
/-- at f: the function object of a lambda, its code object at c -/
def LamO (f c : Addr) (q : Str) (ps : Arguments) (bd : Expr) (sc : Scope) : HO :=
  .ext fun h => ∃ pm ctv, h.get? f = some (PySem.W.kla_obj "<lambda>" q ps bd sc [] pm c ctv)
def LamAt (H : Hp) (f : Addr) (q : Str) (ps : Arguments) (bd : Expr) (sc : Scope) : Prop :=
  ∃ c, H f = some (LamO f c q ps bd sc) ∧ H c = some (CodeO c q)
theorem lamO_ok {P : Program} {w : World} {H : Hp} {h : Heap} {f c : Addr} {q : Str} {ps : Arguments} {bd : Expr} {sc : Scope} {pm ctv : Value}
    (e : h.get? f = some (PySem.W.kla_obj "<lambda>" q ps bd sc [] pm c ctv)) : ObjOk P w H h f (LamO f c q ps bd sc) :=
  ⟨⟨pm, ctv, e⟩, ⟨_, e⟩, fun _ _ ⟨p, t, z⟩ k => ⟨p, t, k _ z⟩⟩
theorem lamO_ne {f c : Addr} {q : Str} {ps : Arguments} {bd : Expr} {sc : Scope} (t : Array Value) : LamO f c q ps bd sc ≠ .tbl t := fun z => by
  unfold LamO at z
  cases z
theorem LamAt.ext {H H' : Hp} {f : Addr} {q : Str} {ps : Arguments} {bd : Expr} {sc : Scope} (l : LamAt H f q ps bd sc) (e : ExtN H H') : LamAt H' f q ps bd sc := by
  obtain ⟨c, h1, h2⟩ := l
  exact ⟨c, e _ _ h1 lamO_ne, e _ _ h2 codeO_ne⟩
section
variable {X : Cx} {pins : List (Addr × Obj)} {σ : L2.St} {H : Hp} {s : Shared}
theorem lam_new {T : List (Addr × Str)} {c P : Addr} {ps : Arguments} {bd : Expr} {sc : Scope} {pos : Pos} {E Q : Value → Shared → Prop} (I : Inv X pins σ H s) (TB : TabB X.base X.mg c P)
    (hcode : X.env.code = .ref c) (hm : (P, X.env.qual ++ "<lambda>") ∈ T) (hu : ∀ p ∈ T, p.1 = P → p.2 = X.env.qual ++ "<lambda>") (hT : Tabs T H) (hdef : defaultsOf ps X.env = ([], []))
    (hclo : cloFrom X.env.cells sc.names [] = []) (hnf : ∀ y ∈ sc.names, y.2 ≠ .free)
    (k : ∀ (f : Addr) (H2 : Hp) (s' : Shared), Inv X pins σ H2 s' → ExtN H H2 → Tabs T H2 → H f = none → LamAt H2 f (X.env.qual ++ "<lambda>") ps bd sc → Q (.ref f) s') :
    wpAny (model X.prog X.w) X.A (eval (.Lambda ps bd sc pos) X.env) Q E s := by
  obtain ⟨tb, tP, tt, tc⟩ := hT _ hm
  have bP := TB.bm.keeps I.bk
  have gP : s.heap.get? P = some { cls := .none, data := .fields tb } := I.hok P _ tP
  have clo : closureFor sc X.env = pure [] := by
    have z := closure_ok (env := X.env) (scope := sc) (fun y hy e => absurd e (hnf y hy))
    rw [hclo] at z
    exact z
  refine PySem.W.kla_eval hdef ?_
  rcases among : codeAmong pos tb.toList with _ | cv
  · refine PySem.W.kla_makeFunction clo I.ok.glob (I.mod.glob.keeps I.bk) hcode (TB.code.keeps I.bk) gP tt among TB.gP bP (fun c1 ctv h1 tk e1 ge lt rc ta => ?_)
    obtain ⟨c2, oc, vs, t, ec, goc, doc, vq⟩ := rc
    obtain rfl : c1 = c2 := Value.ref.inj ec
    have nC : H c1 = none := I.hok.fresh ge
    have le1 : s.heap.objs.size ≤ h1.objs.size := Nat.le_of_lt (Nat.lt_of_le_of_lt ge lt)
    have I1 := inv_table (t' := tk) (q := X.env.qual ++ "<lambda>") (more := #[rawInt pos.line, rawInt pos.col, .ref c1]) I tP e1 ta ge ⟨oc, vs, t, goc, doc, vq⟩
    have I2 := I1.laid (t' := tk) (o := LamO h1.objs.size c1 (X.env.qual ++ "<lambda>") ps bd sc) (h' := h1.push (PySem.W.kla_obj "<lambda>" (X.env.qual ++ "<lambda>") ps bd sc [] ((X.mg "__name__").getD .none) c1 ctv))
      (fun b o e => Heap.get?_push_of_some _ e) (Nat.le_refl _) (lamO_ok (Heap.get?_push_size _ rfl))
    have hF : upd (upd H P (.tbl (tb ++ #[rawInt pos.line, rawInt pos.col, .ref c1]))) c1 (CodeO c1 (X.env.qual ++ "<lambda>")) h1.objs.size = none := I1.hok.fresh (Nat.le_refl _)
    have hf : H h1.objs.size = none := I.hok.fresh le1
    have e12 : ExtN H (upd (upd H P (.tbl (tb ++ #[rawInt pos.line, rawInt pos.col, .ref c1]))) c1 (CodeO c1 (X.env.qual ++ "<lambda>"))) := fun b o e n => by
      have nb : b ≠ P := fun z => by
        rw [z, tP] at e
        exact n tb (Option.some.inj e).symm
      rw [upd_ne (ne_of_none e nC), upd_ne nb]
      exact e
    have e2 : ∀ b o, upd (upd H P (.tbl (tb ++ #[rawInt pos.line, rawInt pos.col, .ref c1]))) c1 (CodeO c1 (X.env.qual ++ "<lambda>")) b = some o → upd (upd (upd H P (.tbl (tb ++ #[rawInt pos.line, rawInt pos.col, .ref c1]))) c1 (CodeO c1 (X.env.qual ++ "<lambda>"))) h1.objs.size (LamO h1.objs.size c1 (X.env.qual ++ "<lambda>") ps bd sc) b = some o := fun b o e => by
      rw [upd_ne (ne_of_none e hF)]
      exact e
    have eL : (tb ++ #[rawInt pos.line, rawInt pos.col, .ref c1]).toList = tb.toList ++ [rawInt pos.line, rawInt pos.col, .ref c1] := by simp
    have T1 : Tabs T (upd (upd H P (.tbl (tb ++ #[rawInt pos.line, rawInt pos.col, .ref c1]))) c1 (CodeO c1 (X.env.qual ++ "<lambda>"))) := fun p hp => by
      by_cases hb : p.1 = P
      · refine ⟨tb ++ #[rawInt pos.line, rawInt pos.col, .ref c1], ?_, ?_, fun p2 cv hcv => ?_⟩
        · rw [hb, upd_ne (ne_of_none tP nC)]
          exact upd_same
        · rw [eL]
          exact PySem.TriplesOk_snoc _ _ _ _ tt
        · rw [eL] at hcv
          rw [hu p hp hb]
          rcases among_app _ tt hcv with z | z
          · obtain ⟨c0, y1, y2⟩ := tc p2 cv z
            exact ⟨c0, y1, e12 _ _ y2 codeO_ne⟩
          · exact ⟨c1, z, upd_same⟩
      · obtain ⟨t2, a1, a2, a3⟩ := hT p hp
        refine ⟨t2, ?_, a2, fun p2 cv hcv => ?_⟩
        · rw [upd_ne (ne_of_none a1 nC), upd_ne hb]
          exact a1
        · obtain ⟨c0, y1, y2⟩ := a3 p2 cv hcv
          exact ⟨c0, y1, e12 _ _ y2 codeO_ne⟩
    exact k _ _ _ I2 (e12.trans (ExtN.of e2)) (T1.ext e2) hf ⟨c1, upd_same, e2 _ _ upd_same⟩
  · obtain ⟨c1, rfl, hco⟩ := tc pos cv among
    refine PySem.W.kla_makeFunctionHit clo I.ok.glob (I.mod.glob.keeps I.bk) hcode (TB.code.keeps I.bk) gP tt among bP (fun ctv h1 tk kp le1 => ?_)
    have hf : H h1.objs.size = none := I.hok.fresh le1
    have I2 := I.laid (t' := tk) (o := LamO h1.objs.size c1 (X.env.qual ++ "<lambda>") ps bd sc) (h' := h1.push (PySem.W.kla_obj "<lambda>" (X.env.qual ++ "<lambda>") ps bd sc [] ((X.mg "__name__").getD .none) c1 ctv))
      (fun b o e => Heap.get?_push_of_some _ (kp b o e)) le1 (lamO_ok (Heap.get?_push_size _ rfl))
    have e2 : ∀ b o, H b = some o → upd H h1.objs.size (LamO h1.objs.size c1 (X.env.qual ++ "<lambda>") ps bd sc) b = some o := fun b o e => by
      rw [upd_ne (ne_of_none e hf)]
      exact e
    exact k _ _ _ I2 (ExtN.of e2) (hT.ext e2) hf ⟨c1, upd_same, e2 _ _ hco⟩
end
end Own

set_option Elab.async false
set_option linter.all false
set_option maxRecDepth 100000
set_option maxHeartbeats 2000000
namespace Own
open PySem PySem.Spec PyProof.Rows L2 LamX
abbrev LSp := List V → Hp → VK → Prop
/-- the text of a lambda keeps the promise sp -/
structure LamCode (P : Program) (w : World) (K : PySem.W.Frag) (mg : Str → Option Value) (base : Heap) (k : Nat) (q : Str) (ps : Arguments) (bd : Expr) (sc : Scope) (sp : LSp) : Prop where
  ex : ∃ N pn : List Str, FnScope N pn sc ∧
    (∀ (us : List Value) (pm cv ctv : Value), us.length = pn.length → bindArgs (PySem.W.kla_fn "<lambda>" q ps bd sc [] pm cv ctv) ⟨us, []⟩ = pure (pn.zip us)) ∧
    (∀ vs H Q, sp vs H Q → vs.length = pn.length) ∧
    ∀ (f c : Addr) (A : Around) (outer : List Env) (s : Shared) (H : Hp) (vs : List V) (Q : VK), Room k (A.deeper (envOfC q sc s.heap.objs.size f (.ref c))) → sp vs H Q →
      ∃ t, PE (cxOf CX0 P w K mg base N q sc f (.ref c) A outer s H E0) bd t ∧ t (L2.start N vs) H Q
theorem run_lam {P : Program} {w : World} {K : PySem.W.Frag} {mg : Str → Option Value} {base : Heap} {k : Nat} {q : Str} {ps : Arguments} {bd : Expr} {sc : Scope} {sp : LSp} (C : LamCode P w K mg base k q ps bd sc sp)
    {A : Around} {outer : List Env} {s : Shared} {H : Hp} {f : Addr} {us : List Value} {vs : List V} {Q : VK} (la : LamAt H f q ps bd sc) (e0 : Env0 P w K mg base A outer s H) (hr : Room (k + 1) A) (r : Vals vs us) (h : sp vs H Q) :
    codeAny (model P w) A (.call (.ref f) ⟨us, []⟩) (CR CX0 outer P w H s Q E0) s := by
  obtain ⟨N, pn, S, bi, len, body⟩ := C.ex
  obtain ⟨c, hf, hc⟩ := la
  have hl := len _ _ _ h
  have lu : us.length = pn.length := r.length.symm.trans hl
  have lim : s.heap.NoLimit := e0.mod.nolimit.keeps fun b o e => (e0.bs b o e).1
  obtain ⟨⟨pm, ctv, ho⟩, _, _⟩ := e0.hok f _ hf
  obtain ⟨⟨oc, vs', t', e1, e2, e3⟩, _, _⟩ := e0.hok c _ hc
  have kinds : ∀ y ∈ pn.zip us, sc.names.lookup y.1 = some .local ∨ (sc.names.lookup y.1 = some .cell ∧ ((cellsFrom (s.heap.objs.size + 1) sc.names []).lookup y.1).isSome = true) := fun ⟨n, v⟩ hy => by
    rcases S.par n (List.of_mem_zip hy).1 with z | z
    · exact .inl z
    · exact .inr ⟨z, PySem.W.cellsFrom_some _ _ _ (.inl z)⟩
  refine PySem.W.kla_callFunE hr.depth ho rfl S.co S.gen rfl ⟨c, oc, vs', t', rfl, e1, e2, e3⟩ ?_
  rw [bi us _ _ _ lu]
  refine wpAny_pure (wpAny_newFunctionEnv_cells S.kind kinds fun env he s1 x => ?_)
  subst he
  refine ⟨lim.keeps x.toInCall.keep, ?_⟩
  show codeAny _ _ (.expr bd (envOfC q sc s.heap.objs.size f (.ref c))) _ _
  obtain ⟨t, ht, hq⟩ := body f c A outer s H vs Q (hr.deeper _) h
  have I : Inv (cxOf CX0 P w K mg base N q sc f (.ref c) A outer s H E0) [] (L2.start N vs) H s1 := inv_start S hr.hd e0 hl r x
  refine PySem.W.kla_codeExpr (wpAny_mono (ht.run [] s1 (L2.start N vs) H Q I hq) (fun v s' hs => ?_) fun e s' hs => hs)
  obtain ⟨w', H', J, rv, z⟩ := hs
  exact ⟨w', H', J.os, J.bare, J.base, J.hok, rv, z⟩
/-- x(e, ..), x a local name that holds a lambda -/
def tLamCall (P : Program) (w : World) (K : PySem.W.Frag) (mg : Str → Option Value) (base : Heap) (k i : Nat) (ta : TA) : TE := fun σ H Q =>
  ∃ (f : Addr) (q : Str) (ps : Arguments) (bd : Expr) (sc : Scope) (sp : LSp), σ[i]? = some (some (.ref f)) ∧ LamAt H f q ps bd sc ∧ LamCode P w K mg base k q ps bd sc sp ∧
    ta σ H fun vs H1 => LamAt H1 f q ps bd sc ∧ sp vs H1 Q
section
variable {X : Cx} {k i : Nat} {x : Str} {p pos : Pos} {e : Expr} {es : List Expr} {ta : TA}
theorem fnAt_of {H : Hp} {s : Shared} {f : Addr} {q : Str} {ps : Arguments} {bd : Expr} {sc : Scope} (hok : HOk X.prog X.w H s.heap) (l : LamAt H f q ps bd sc) : PySem.W.FnAt f s.heap := by
  obtain ⟨c, hf, _⟩ := l
  obtain ⟨⟨pm, ctv, ho⟩, _, _⟩ := hok f _ hf
  exact ⟨_, _, _, _, ho⟩
theorem pe_callLam (hr : Room (k + 1) X.A) (hN : X.N[i]? = some x) (hv : Vis X.env.scope x) (ha : PA X (e :: es) ta)
    (hdb : (x == ("__debug__" : Str)) = false := by decide) (hcd : (x == ("__classdict__" : Str)) = false := by decide)
    (he : starEach (e :: es) X.env = (false, eval e X.env) :: starEach es X.env := by rfl) (hpl : (backTo pos (starEach es X.env)).any (·.1) = false := by rfl) :
    PE X (.Call (.Name x p) (e :: es) [] pos) (tLamCall X.prog X.w X.K X.mg X.base k i ta) := by
  refine ⟨fun pins s σ H Q I h => ?_⟩
  obtain ⟨f, q, ps, bd, sc, sp, hs, la, C, ht⟩ := h
  refine wpAny_Call_Name_kw (thn ((pe_var (pos := p) hN hv hdb hcd).run pins s σ H (fun v H1 => v = .ref f ∧ H1 = H) I ⟨.ref f, hs, rfl, rfl⟩) fun u s1 ⟨v, H1, I1, r1, q1⟩ => ?_)
  obtain ⟨rfl, rfl⟩ := q1
  obtain rfl : u = Value.ref f := r1
  refine PySem.W.callWith_F (fnAt_of I1.hok la) (thn (ha.run pos pins s1 σ _ _ I1 ht) fun us s2 ⟨vs, H2, I2, r, la2, hq⟩ => ⟨fnAt_of I2.hok la2, ?_⟩) he hpl
  show wpAny _ _ (call (.ref f) us) _ _ _
  refine wpAny_call (codeAny_mono (run_lam C la2 I2.env0 hr r hq) fun r' s' z => ?_)
  cases r' with
  | error e => exact (show False from z).elim
  | ok fl =>
    cases fl with
    | ret u => exact I2.after z
    | next => exact False.elim z
    | brk => exact False.elim z
    | cont => exact False.elim z
/-- a lambda's making, as an expression -/
def tLamNew (T : List (Addr × Str)) (q : Str) (ps : Arguments) (bd : Expr) (sc : Scope) : TE := fun σ H Q =>
  Tabs T H ∧ ∀ (f : Addr) (H2 : Hp), ExtN H H2 → Tabs T H2 → H f = none → LamAt H2 f q ps bd sc → Q (.ref f) H2
theorem pe_lam {T : List (Addr × Str)} {c P : Addr} {ps : Arguments} {bd : Expr} {sc : Scope} (TB : TabB X.base X.mg c P)
    (hcode : X.env.code = .ref c) (hm : (P, X.env.qual ++ "<lambda>") ∈ T) (hu : ∀ p ∈ T, p.1 = P → p.2 = X.env.qual ++ "<lambda>")
    (hdef : defaultsOf ps X.env = ([], []) := by rfl) (hclo : cloFrom X.env.cells sc.names [] = [] := by rfl) (hnf : ∀ y ∈ sc.names, y.2 ≠ .free := by decide +kernel) :
    PE X (.Lambda ps bd sc pos) (tLamNew T (X.env.qual ++ "<lambda>") ps bd sc) := by
  refine ⟨fun pins s σ H Q I h => ?_⟩
  exact lam_new I TB hcode hm hu h.1 hdef hclo hnf fun f H2 s' I2 e2 T2 nf la => ⟨.ref f, H2, I2, rfl, h.2 f H2 e2 T2 nf la⟩
end
end Own

set_option Elab.async false
set_option linter.all false
set_option maxRecDepth 100000
set_option maxHeartbeats 4000000
/-! exceptions of own classes held as values: made, their fields read, asked for their class -/
namespace PySem.W
open PySem PySem.Spec PySem.Calls PyProof.Rows
section
variable {prog : Program} {w : World} {A : Around} {E : Value → Shared → Prop} {s : Shared} {K : Frag} {x D : Addr} {ox : Obj} {od : Option Obj}
theorem own_bound {name : Str} {a g : Value} (hc : (clsIn K D).isSome = true) (ha : findIn K (.ref D) name = some (some a)) (hg : specialIn K a "__get__" = some (some g)) (ht : takesIn K a = some true) :
    findObj K D od name = some (.bind g a) := by
  rcases Option.isSome_iff_exists.mp hc with ⟨cd, hcd⟩
  simp [findObj, hcd, ha, hg, ht]
/-- e.__class__ of an exception, with or without a dict of its own -/
theorem own_class {Q : Option Value → Shared → Prop} (T : L2.ExcC K D) (X : K.In s.heap) (I : InstAt s.heap x ox D od) (h : Q (some (.ref D)) { s with toks := s.toks + 1 }) :
    wpAny (model prog w) A (getAttr? (.ref x) "__class__") Q E s := by
  have isCls : (clsIn K D).isSome = true := by
    rcases any_some T.hd with ⟨cd, hcd, _⟩
    rw [hcd]
    rfl
  have f0 := own_bound (od := od) isCls T.ha T.hn T.ht
  rcases s with ⟨hp, g, d, t, os⟩
  have a0 := I.type (M := model prog w)
  have a1 := looks_findIn (M := model prog w) X T.hg
  have a2 := looks_findIn (M := model prog w) X T.hk
  have a3 := looks_find (M := model prog w) X I f0
  have isB : Looks (model prog w) hp (isInstance (.ref x) (.type "BaseException")) true := a0.andThen (looks_subIn X T.hs)
  have n1 : (onTheHeap (Value.ref D) && Value.builtin "BaseException.__getattribute__" == Value.builtin "object.__getattribute__") = false := by
    have z : (Value.builtin "BaseException.__getattribute__" == Value.builtin "object.__getattribute__") = false := by decide +kernel
    rw [z]
    rfl
  have n2 : (false && onTheHeap (Value.builtin "BaseException.__getattribute__")) = false := rfl
  unfold getAttr? getAttrBy? getAttrBy
  refine wpAny_bind (wpAny_mkText (wpAny_bind (wpAny_attempt (wpAny_holding (wpAny_bind (a0.at (wpAny_bind (a1.at ?_))))))))
  show wpAny _ _ (if (onTheHeap (Value.ref D) && Value.builtin "BaseException.__getattribute__" == Value.builtin "object.__getattribute__") = true then _ else _) _ _ _
  rw [n1, if_neg Bool.false_ne_true]
  unfold getAttrByItsOwn hookBefore
  refine wpAny_bind ?_
  rw [if_pos (show onTheHeap (Value.ref D) = true from rfl)]
  refine a2.at (wpAny_bind (wpAny_attempt (wpAny_holding ?_)))
  unfold callGetattribute
  rw [n2, if_neg Bool.false_ne_true]
  unfold boundAndCalled
  rw [PySem.F.excAttr_ValueError.ga.bind (.ref x)]
  refine wpAny_bind (wpAny_pure ?_)
  show wpAny _ _ (call (.builtin "BaseException.__getattribute__") [.ref x, .str "__class__" t]) _ _ _
  refine wpAny_call (codeAny_call_builtin PySem.F.excAttr_ValueError.ga.plain PySem.F.entry_bexc_ga ?_)
  refine @check_slot (model prog w) _ _ ⟨hp, g, d, t + 1, os⟩ "BaseException.__getattribute__" "BaseException" "__getattribute__" (.ref x) [.str "__class__" t] [] _ (by decide +kernel) (by decide +kernel) isB (PySem.F.args_bexc_ga (.ref x) (.str "__class__" t)) ?_
  unfold Builtin.«object.__getattribute__»
  refine wpAny_bind (wpAny_of_eq (a := ((Value.ref x : Value), [Value.str "__class__" t])) (by first | rfl | (simp only [slotArgs]; rfl)) ?_)
  refine wpAny_bind (wpAny_pure (wpAny_bind (a0.at (wpAny_bind (a3.at ?_)))))
  show wpAny _ _ (holding [Value.builtin "object.__class__"] (call (.builtin "getset_descriptor.__get__") [.builtin "object.__class__", .ref x, .ref D]) >>= ret) _ _ _
  refine wpAny_bind (wpAny_holding (wpAny_call (class_get (s := ⟨hp, g, d, t + 1, os⟩) (ox := ox) (od := od) X I T.hm (wpAny_pure ?_))))
  show wpAny _ _ (handedOut (.ref D)) _ _ _
  rw [handedOut_of (v := .ref D) rfl]
  first
    | exact wpAny_pure (wpAny_pure h)
    | exact wpAny_pure h
    | exact wpAny_pure (wpAny_bind (wpAny_pure (wpAny_pure h)))
theorem own_kit (T : L2.ExcC K D) : KitX K (.ref x) (.ref D) (fun h => ∃ ox od, InstAt h x ox D od) where
  ty := fun _ _ _ ⟨_, _, I⟩ => I.type
  it := fun _ _ X _ => by
    rcases any_some T.hd with ⟨cd, hcd, _⟩
    unfold clsIn at hcd
    split at hcd
    · rename_i c1 d1 cd1 sl1 ho
      intro A1 Q1 E1 s1 k q
      unfold isType loadHead
      exact wpAny_bind (wpAny_loadPart (k _ _ (X _ _ ho)) (wpAny_pure q))
    · cases hcd
  ne := fun h tp dd its n sl X htp => by
    rcases any_some T.hd with ⟨cd, hcd, _⟩
    refine Bool.eq_false_iff.mpr fun q => ?_
    obtain rfl : D = tp := Value.ref.inj (beq_iff_eq.mp q)
    unfold clsIn at hcd
    split at hcd
    · rename_i c1 d1 cd1 sl1 ho
      have z := (X _ _ ho).symm.trans htp
      cases z
    · cases hcd
  ca := fun X ⟨_, _, I⟩ k => own_class T X I k
end
end PySem.W
namespace Own
open PySem PySem.Spec PyProof.Rows L2
/-- at e: an exception of the class at C, made and not raised, whose own dict (where it has one) holds fs -/
structure ExcAt (H : Hp) (e C : Addr) (fs : List (Str × V)) : Prop where
  ex : ∃ d, H e = some (exo e C d) ∧ ((d = none ∧ fs = []) ∨ ∃ dd, d = some dd ∧ H dd = some (exd dd fs))
theorem exd_ne {d : Addr} {fs : List (Str × V)} {t : Array Value} : exd d fs ≠ .tbl t := fun z => by
  have z' : HO.ext _ = HO.tbl t := z
  cases z'
theorem ExcAt.keep {H H' : Hp} {e C : Addr} {fs : List (Str × V)} (x : ExcAt H e C fs) (k : ∀ b o, H b = some o → (∀ t, o ≠ .tbl t) → H' b = some o) : ExcAt H' e C fs := by
  obtain ⟨d, h1, h2⟩ := x.ex
  refine ⟨d, k _ _ h1 fun t => exo_tbl, ?_⟩
  rcases h2 with h2 | ⟨dd, e2, h2⟩
  · exact .inl h2
  · exact .inr ⟨dd, e2, k _ _ h2 fun t => exd_ne⟩
theorem ExcAt.inst {P : Program} {w : World} {H : Hp} {h : Heap} {e C : Addr} {fs : List (Str × V)} (x : ExcAt H e C fs) (hok : HOk P w H h) : ∃ ox od, PySem.W.InstAt h e ox C od := by
  obtain ⟨d, h1, h2⟩ := x.ex
  obtain ⟨t, ho⟩ := exo_at hok h1
  rcases h2 with ⟨rfl, _⟩ | ⟨dd, rfl, h2⟩
  · exact ⟨_, none, ho, rfl, rfl, trivial⟩
  · obtain ⟨mA, hn, _⟩ := exd_at hok h2
    obtain ⟨od, hd, _⟩ := lookIn_ns hn
    exact ⟨_, some od, ho, rfl, rfl, hd⟩
/-- isinstance(e, c) -/
def rIsE (K : PySem.W.Frag) : List V → Hp → VK → Prop := fun xs H Q =>
  ∃ (a D : Addr) (fs : List (Str × V)) (c : V) (cv : Value) (b : Bool), xs = [.ref a, c] ∧ ExcAt H a D fs ∧ ExcC K D ∧ ClsV c cv ∧ PySem.W.kitOne K (.ref D) cv = some b ∧ Q (.bl b) H
theorem call_isE {X : Cx} : CallR X (.builtin "isinstance") (rIsE X.K) := by
  intro pins s σ H xs us Q I r h
  obtain ⟨a, D, fs, c, cv, b, rfl, x, T, k, e, q⟩ := h
  obtain ⟨u1, u2, rfl, r1, r2⟩ := vals2 r
  obtain rfl : u1 = Value.ref a := r1
  obtain rfl := k.eq r2
  exact PySem.W.kia_one (PySem.W.own_kit T) I.kIn (x.inst I.hok) e (fun z => nomatch z) fun tk => ⟨.bl b, H, I.tok tk, rfl, q⟩
/-- e.f -/
def tExF (K : PySem.W.Frag) (ta : TE) (f : Str) : TE := fun σ H Q => ta σ H fun x H1 =>
  ∃ (a C : Addr) (fs : List (Str × V)) (v : V), x = .ref a ∧ ExcAt H1 a C fs ∧ ExcC K C ∧ PySem.W.findIn K (.ref C) f = some none ∧ fs.lookup f = some v ∧ Q v H1
section
variable {X : Cx} {e : Expr} {es : List Expr} {ta : TE} {t tk : TA} {f x : Str} {p pos kpos : Pos}
theorem pe_exF (he : PE X e ta) (hb : attributeBase e f X.env (eval e X.env) = eval e X.env := by rfl) : PE X (.Attribute e f pos) (tExF X.K ta f) := by
  refine ⟨fun pins s σ H Q I h => attr_of hb (thn (he.run pins s σ H _ I h) fun u s1 hh => ?_)⟩
  obtain ⟨y, H1, I1, ry, a, C, fs, v, rfl, xa, T, hno, hl, q⟩ := hh
  obtain rfl : u = Value.ref a := ry
  obtain ⟨d, h1, h2⟩ := xa.ex
  obtain ⟨t1, ho⟩ := exo_at I1.hok h1
  rcases h2 with ⟨_, rfl⟩ | ⟨dd, rfl, h2⟩
  · cases hl
  · obtain ⟨mA, hn, rel⟩ := exd_at I1.hok h2
    obtain ⟨od, hd, lk⟩ := lookIn_ns hn
    have r0 := rel f
    rw [hl] at r0
    obtain ⟨w0, hw, rw0⟩ := RelO.some_of r0
    have J : PySem.W.InstAt s1.heap a _ C (some od) := ⟨ho, rfl, rfl, hd⟩
    exact HandSPX.exc_get I1.kIn J T.hg T.hk T.hs (PySem.W.findObj_own T.hd hno rfl (by rw [lk, hw])) (handed_of rw0) ⟨v, H1, I1.tok _, rw0, q⟩
end
end Own

set_option Elab.async false
set_option linter.all false
set_option maxRecDepth 100000
set_option maxHeartbeats 4000000
/-! C(e, ..), C(k = e, ..), C() of an own exception class, as values -/
namespace PySem.HandSPX
open Builtin Builtin.ObjectAttr
section
variable {M : Model} {prog : Program} {w : World} {A : Around} {E : Value → Shared → Prop} {R : Result → Shared → Prop} {h : Heap} {g : Array GenState} {d : Drawn} {t : Nat} {os : OsState}
variable {nm q : Str} {C N : Addr} {bs bm bmB : List Value} {hdct : Bool} {sn : List Str} {sub : List Value} {ab : Bool} {col : Option Bool} {dd : Option Addr} {k0 k1 k2 k3 k5 : Option Value} {B newId initId : String}
theorem kw_check (F : ExcBaseFacts B newId initId bmB) (hT : ∀ X : String, bm.contains (.type X) = bmB.contains (.type X)) {us : List Value} {kw : List (Str × Value)} {Q : Unit → Shared → Prop}
    (hC : h.get? C = some (excClassObj nm q C N bs bm hdct sn sub ab col dd k0 k1 k2 k3 k5 newId)) (k : Q () ⟨h, g, d, t, os⟩) : wpAny M A (checkBuiltinCall newId ⟨.ref C :: us, kw⟩) Q E ⟨h, g, d, t, os⟩ := by
  have inB : (Value.ref C :: bm).contains (.type B) = true := by
    rw [List.contains_cons, hT, F.hasB]
    exact Bool.or_true _
  have st := F.noStar
  simp only [checkBuiltinCall, F.newKind, F.newSplit, F.newRow]
  repeat (first
    | refine wpAny_loadPart_at hC ?_
    | (refine wpAny_isSubtype_exc hC ?_; rw [inB])
    | refine wpAny_staticBase_exc hC ?_
    | refine wpAny_madeBy_exc hC ?_
    | simp only [bne_self_eq_false, Bool.false_eq_true, if_false]
    | wp_step)
  exact k
theorem kw_new (F : ExcBaseFacts B newId initId bmB) (hT : ∀ X : String, bm.contains (.type X) = bmB.contains (.type X)) {us : List Value} {kw : List (Str × Value)}
    (hC : h.get? C = some (excClassObj nm q C N bs bm hdct sn sub ab col dd k0 k1 k2 k3 k5 newId))
    (k : R (.ok (.ret (.ref (h.objs.size + 1)))) ⟨(h.push (W.kdv_tup us)).push (excO C h.objs.size), g, d, t, os⟩) (hl : us.length ≤ sizeLine) :
    codeAny (model prog w) A (.builtin newId ⟨.ref C :: us, kw⟩) R ⟨h, g, d, t, os⟩ := by
  have fe := F.ends
  have inB : (Value.ref C :: bm).contains (.type B) = true := by
    rw [List.contains_cons, hT, F.hasB]
    exact Bool.or_true _
  have inA : (Value.ref C :: bm).contains (.type "AttributeError") = false := by
    rw [List.contains_cons, hT, F.noAttr]
    rfl
  have inN : (Value.ref C :: bm).contains (.type "NameError") = false := by
    rw [List.contains_cons, hT, F.noName]
    rfl
  refine codeAny_builtinAt F.entry ?_
  unfold Builtin.«BaseException.__new__»
  refine wpAt_bind ?_
  show wpAt _ _ _ (stack >>= _) _ _ _
  refine wpAt_bind (wpAt_stack fun p below => wpAt_of_wpAny ?_)
  wp_walk
  refine wpAt_of_wpAny ?_
  rw [F.owner]
  repeat (first
    | with_reducible refine wpAny_madeHere_exc F.canon hC ?_
    | with_reducible refine wpAny_loadPart_at hC ?_
    | (with_reducible refine wpAny_isSubtype_exc hC ?_; first | rw [inB] | rw [inA] | rw [inN])
    | wp_step)
  show R _ _
  rw [Heap.size_push]
  exact k
theorem kw_typecall (F : ExcBaseFacts B newId initId bmB) (hT : ∀ X : String, bm.contains (.type X) = bmB.contains (.type X)) {us : List Value} {kw : List (Str × Value)} {fI : Addr} {Q : Fin → Shared → Prop}
    (hC : h.get? C = some (excClassObj nm q C N bs bm hdct sn sub ab col dd k0 k1 k2 k3 k5 newId))
    (hi : W.Looks (model prog w) h (typeLookup (.ref C) "__init__") (some (.ref fI))) (hb : ∀ self, W.Looks (model prog w) h (bindSpecial (.ref fI) self) (.ref fI, [self])) (hl : us.length ≤ sizeLine)
    (k : codeAny (model prog w) A (.call (.ref fI) ⟨.ref (h.objs.size + 1) :: us, kw⟩)
      (fun r s' => match r with | .ok (.ret v) => v = .none ∧ Q (.done (.ret (.ref (h.objs.size + 1)))) s' | .ok _ => False | .error e => E e s')
      ⟨(h.push (W.kdv_tup us)).push (excO C h.objs.size), g, d, t, os⟩) :
    wpAny (model prog w) A (Builtin.«type.__call__» ⟨.ref C :: us, kw⟩) Q E ⟨h, g, d, t, os⟩ := by
  repeat (first
    | with_reducible refine wpAny_loadPart_at hC ?_
    | with_reducible refine wpAny_madeBy_exc hC ?_
    | wp_step)
  refine codeAny_call_builtin_code (Code.quiet_builtin _ F.quiet) (kw_check F hT hC (kw_new F hT hC ?_ hl))
  show wpAny _ _ _ _ _ _
  have kp : ∀ b o, h.get? b = some o → ((h.push (W.kdv_tup us)).push (excO C h.objs.size)).get? b = some o := fun b o e => Heap.get?_push_of_some _ (Heap.get?_push_of_some _ e)
  have hC1 := kp _ _ hC
  have hE : ((h.push (W.kdv_tup us)).push (excO C h.objs.size)).get? (h.objs.size + 1) = some (excO C h.objs.size) := by heap_get
  have inC : (Value.ref C :: bm).contains (.ref C) = true := by simp
  have ii := hi.keeps kp
  have bb := (hb (.ref (h.objs.size + 1))).keeps kp
  unfold isInstance
  repeat (first
    | with_reducible refine wpAny_loadPart_at hE ?_
    | (with_reducible refine wpAny_isSubtype_exc hC1 ?_; rw [inC])
    | wp_step)
  show wpAny _ _ (typeLookup (.ref C) _) _ _ _
  refine ii.at (wpAny_holding (wpAny_bind (bb.at (wpAny_bind (wpAny_call (codeAny_mono k fun r s' z => ?_))))))
  rcases r with e | (v | _ | _ | _) <;> first | exact z | exact z.elim | skip
  obtain ⟨rfl, z⟩ := z
  first
    | exact wpAny_pure (wpAny_pure z)
    | (wp_walk; exact z)
theorem kw_call (F : ExcBaseFacts B newId initId bmB) (hT : ∀ X : String, bm.contains (.type X) = bmB.contains (.type X)) {us : List Value} {kw : List (Str × Value)} {fI : Addr}
    (hC : h.get? C = some (excClassObj nm q C N bs bm hdct sn sub ab col dd k0 k1 k2 k3 k5 newId))
    (hi : W.Looks (model prog w) h (typeLookup (.ref C) "__init__") (some (.ref fI))) (hb : ∀ self, W.Looks (model prog w) h (bindSpecial (.ref fI) self) (.ref fI, [self])) (hl : us.length ≤ sizeLine)
    (k : codeAny (model prog w) (A.under (.builtin "type.__call__" ⟨.ref C :: us, kw⟩)) (.call (.ref fI) ⟨.ref (h.objs.size + 1) :: us, kw⟩) (W.InitBack (h.objs.size + 1) R)
      ⟨(h.push (W.kdv_tup us)).push (excO C h.objs.size), g, d, t, os⟩) :
    codeAny (model prog w) A (.call (.ref C) ⟨us, kw⟩) R ⟨h, g, d, t, os⟩ := by
  have l1 := tc_lookup
  have l2 := tc_bind (.ref C)
  have ty : (⟨h, g, d, t, os⟩ : Shared).TypeIs (.ref C) "type" := ⟨_, hC, rfl⟩
  refine codeAny_of_tree ?_
  show wpAny _ _ (callAny (.ref C) _) _ _ _
  repeat (any_goals (first
    | assumption
    | with_reducible refine wpAny_loadPart_at hC ?_
    | wp_step))
  refine ⟨rfl, ?_⟩
  refine codeAny_call_builtin_at (Code.quiet_builtin _ (by decide +kernel)) entry_typeCall (wpAny_check_type_call_sub hC (kw_typecall F hT hC hi hb hl ?_))
  refine codeAny_mono k fun r s' z => ?_
  rcases r with e | (v | _ | _ | _) <;> exact z
end
end PySem.HandSPX

set_option Elab.async false
set_option linter.all false
set_option maxRecDepth 100000
set_option maxHeartbeats 4000000
namespace Own
open PySem PySem.Spec PyProof.Rows L2
/-- a class with its own __init__ (at fI), over ValueError -/
structure ExcI (K : PySem.W.Frag) (C fI : Addr) : Prop where
  ox : OexC K C
  init : PySem.W.findIn K (.ref C) "__init__" = some (some (.ref fI))
  fn : PySem.W.typeIn K (.ref fI) = some (.type "function")
/-- a new exception of the class at C, its __init__ called with it and the values -/
def tMkE (C : Addr) (sp : Sp) (ta : TA) : TE := fun σ H Q => ta σ H fun vs H1 => vs.length ≤ 1000 ∧ ∀ a, H1 a = none →
  sp (.ref a :: vs) (upd H1 a (exo a C none)) (fun v H2 => v = .non ∧ Q (.ref a) H2) E0
def tMkK (C : Addr) (sp : Sp) (rV : List V → List V) (tk : TA) : TE := fun σ H Q => tk σ H fun zs H1 => ∀ a, H1 a = none →
  sp (.ref a :: rV zs) (upd H1 a (exo a C none)) (fun v H2 => v = .non ∧ Q (.ref a) H2) E0
section
variable {X : Cx} {e : Expr} {es : List Expr} {kws : List Keyword} {t tk : TA} {x : Str} {p pos : Pos} {C fI : Addr} {k : Nat} {fd : FuncData} {ps ks : List Str} {sp : Sp}
/-- the making, behind the arguments -/
theorem run_mkE {us ws : List Value} {kw : List (Str × Value)} {vs : List V} {pins : List (Addr × Obj)} {σ : L2.St} {H : Hp} {s : Shared} {Q : VK} (T : ExcI X.K C fI) (G : FnOk X.prog X.w X.K X.mg X.base CX0 k fI fd ps sp) (hr : Room (k + 1) X.A)
    (I : Inv X pins σ H s) (hl : us.length ≤ sizeLine) (rel : ∀ a : Addr, Vals (.ref a :: vs) (.ref a :: ws)) (bind : ∀ (a : Addr) (s' : Shared), X.K.In s'.heap → (Value.ref a :: ws).length = ps.length → BindsTo s' fd ⟨.ref a :: us, kw⟩ (ps.zip (.ref a :: ws)))
    (h : ∀ a, H a = none → sp (.ref a :: vs) (upd H a (exo a C none)) (fun v H2 => v = .non ∧ Q (.ref a) H2) E0) :
    wpAny (model X.prog X.w) X.A (call (.ref C) us kw) (EP X pins σ Q) X.xe s := by
  obtain ⟨nm, q, N, bs, bm, sn, sub, ab, col, dd, k0, k1, k2, k3, k5, hC, hbm⟩ := T.ox.cls
  obtain ⟨hp, g, dr, tt, os⟩ := s
  have lt : hp.objs.size ≤ hp.objs.size + 1 := Nat.le_succ _
  have q0 := h (hp.objs.size + 1) (I.hok.fresh lt)
  have kp : ∀ b o, hp.get? b = some o → ((hp.push (PySem.W.kdv_tup us)).push (PySem.HandSPX.excO C hp.objs.size)).get? b = some o := fun b o z => Heap.get?_push_of_some _ (Heap.get?_push_of_some _ z)
  have hE : ((hp.push (PySem.W.kdv_tup us)).push (PySem.HandSPX.excO C hp.objs.size)).get? (hp.objs.size + 1) = some (PySem.HandSPX.excO C hp.objs.size) := by heap_get
  have I2 : Inv X pins σ (upd H (hp.objs.size + 1) (exo (hp.objs.size + 1) C none)) ⟨(hp.push (PySem.W.kdv_tup us)).push (PySem.HandSPX.excO C hp.objs.size), g, dr, tt, os⟩ :=
    I.laid (t' := tt) (a := hp.objs.size + 1) (o := exo (hp.objs.size + 1) C none) (h' := (hp.push (PySem.W.kdv_tup us)).push (PySem.HandSPX.excO C hp.objs.size)) kp lt (exo_ok hE)
  have rv := rel (hp.objs.size + 1)
  have ll : (Value.ref (hp.objs.size + 1) :: ws).length = ps.length := rv.length.symm.trans (G.len _ _ _ _ q0)
  refine wpAny_call (PySem.HandSPX.kw_call F.excBase_ValueError (fun Y => PySem.HandSPX.refsVE_contains Y bm hbm) (I.kIn _ _ hC) (PySem.W.looks_findIn I.kIn T.init) (fun self => PySem.W.bind_fn I.kIn self T.fn) hl ?_)
  refine codeAny_mono (G.run _ X.stack _ _ ⟨Value.ref (hp.objs.size + 1) :: us, kw⟩ (Value.ref (hp.objs.size + 1) :: ws) _ _ E0 (hr.make C us kw) (I2.env0.make C us kw) (bind _ _ I2.kIn ll) rv q0) fun r s' z => ?_
  cases r with
  | error er => exact (show False from z).elim
  | ok fl =>
    cases fl with
    | ret u =>
      obtain ⟨v, H2, os2, bare2, un2, hok2, rv2, ev, q2⟩ := z
      subst ev
      exact ⟨rv2, I2.after ⟨V.ref (hp.objs.size + 1), H2, os2, bare2, un2, hok2, rfl, q2⟩⟩
    | next => exact False.elim z
    | brk => exact False.elim z
    | cont => exact False.elim z
theorem pe_mkE (T : ExcI X.K C fI) (G : FnOk X.prog X.w X.K X.mg X.base CX0 k fI fd ps sp) (hr : Room (k + 1) X.A) (hb : Binds X.K fd ps []) (hg : Gl X x) (hm : X.mg x = some (.ref C)) (ha : PA X (e :: es) t)
    (hdb : (x == ("__debug__" : Str)) = false := by decide) (he : starEach (e :: es) X.env = (false, eval e X.env) :: starEach es X.env := by rfl) (hpl : (backTo pos (starEach es X.env)).any (·.1) = false := by rfl) :
    PE X (.Call (.Name x p) (e :: es) [] pos) (tMkE C sp t) := by
  refine ⟨fun pins s σ H Q I h => ?_⟩
  refine wpAny_Call_Name_kw (ld_glob I hg hm ?_ hdb)
  refine PySem.W.callWith_K (h₀ := X.base) I.ok.mod.kin T.ox.kC (thn (ha.run pos pins s σ H _ I h) fun us s1 ⟨vs, H1, I1, r1, hz, q1⟩ => ⟨I1.kIn, ?_⟩) he hpl
  show wpAny _ _ (call (.ref C) us) _ _ _
  have hl : us.length ≤ sizeLine := by
    rw [← Paired.length r1, sizeLine_eq]
    omega
  refine run_mkE T G hr I1 hl (fun a => .cons rfl r1) (fun a s' kin ll => ?_) q1
  have b := hb s' (.ref a :: us) kin (by rw [List.append_nil]; exact ll)
  rw [List.append_nil] at b
  exact b
theorem pe_mkK {r : List Value → List Value} {rV : List V → List V} (T : ExcI X.K C fI) (G : FnOk X.prog X.w X.K X.mg X.base CX0 k fI fd ps sp) (hr : Room (k + 1) X.A)
    (hb : ∀ (a : Addr) (ws : List Value) (s' : Shared), X.K.In s'.heap → (Value.ref a :: r ws).length = ps.length → BindsTo s' fd ⟨[.ref a], ks.zip ws⟩ (ps.zip (.ref a :: r ws)))
    (hrel : ∀ {zs : List V} {ws : List Value}, Vals zs ws → Vals (rV zs) (r ws)) (hg : Gl X x) (hm : X.mg x = some (.ref C)) (hkw : PK X kws tk)
    (hall : (backToKw pos (keywordEach kws X.env)).all (·.1.isSome) = true := by rfl) (hks : (backToKw pos (keywordEach kws X.env)).filterMap (·.1) = ks := by rfl)
    (hdb : (x == ("__debug__" : Str)) = false := by decide) (hpl : ((backTo pos (starEach [] X.env)).any (·.1) || (backToKw pos (keywordEach kws X.env)).any (·.1.isNone)) = false := by rfl) :
    PE X (.Call (.Name x p) [] kws pos) (tMkK C sp rV tk) := by
  refine ⟨fun pins s σ H Q I h => ?_⟩
  refine wpAny_Call_Name_kw (ld_glob I hg hm ?_ hdb)
  refine PySem.W.callWith_KW0 (h₀ := X.base) I.ok.mod.kin T.ox.kC hall ?_ hpl
  refine thn (hkw.run pos pins s σ H _ I h) fun ws s2 ⟨zs, H2, I2, rz, q2⟩ => ⟨I2.kIn, ?_⟩
  rw [hks]
  exact run_mkE (us := []) T G hr I2 (Nat.zero_le _) (fun a => .cons rfl (hrel rz)) (fun a s' kin ll => hb a ws s' kin ll) q2
/-- C(), C without an __init__ of its own -/
def tMk0 (C : Addr) : TE := fun _ H Q => ∀ a, H a = none → Q (.ref a) (upd H a (exo a C none))
theorem pe_mk0 {bmB : List Value} {B newId initId : String} (F : ExcBaseFacts B newId initId bmB) (q : PySem.W.excIn X.K C bmB newId = true) (gC : X.mg x = some (.ref C)) (kC : PySem.W.keepIn X.K (.ref C) = true) (hg : Gl X x)
    (hdb : (x == ("__debug__" : Str)) = false := by decide) : PE X (.Call (.Name x p) [] [] pos) (tMk0 C) := by
  refine ⟨fun pins s σ H Q I h => ?_⟩
  refine wpAny_Call_Name_kw (ld_glob I hg gC ?_ hdb)
  refine PySem.W.callWith_K0 I.kIn kC ?_
  show wpAny _ _ (call (.ref C) []) _ _ _
  obtain ⟨bm, N, nm, qn, bs, hdct, sn, sub, ab, col, dd, k0, k1, k2, k3, k5, mN, hC, hN, hni, T⟩ := exc_obj I.kIn q
  refine wpAny_call_exc_subT F T hC hN hni (fun h' a hm => ?_) (Nat.zero_le _)
  have hn : H a = none := I.hok.gone hm.new
  obtain ⟨t0, ht, _, _⟩ := hm.there
  exact ⟨.ref a, upd H a (exo a C none), I.laidN hm.keeps hm.new hn (exo_ok ht), rfl, h a hn⟩
end
end Own

set_option Elab.async false
set_option linter.all false
set_option maxRecDepth 100000
set_option maxHeartbeats 4000000
/-! error classes whose __init__ keeps its arguments as fields: made by place and by names -/
namespace Own
open PySem PySem.Spec PyProof.Rows L2
/-- all but what stands at a (and tables) stays -/
def But1 (a : Addr) (H H' : Hp) : Prop := ∀ b o, b ≠ a → H b = some o → H' b = some o
def spInit1 (C : Addr) (f : Str) : Sp := fun vs H Q _ => ∃ (a : Addr) (v : V), vs = [.ref a, v] ∧ H a = some (exo a C none) ∧ ∀ H', But1 a H H' → ExcAt H' a C [(f, v)] → Q .non H'
def spInit2 (C : Addr) (f g : Str) : Sp := fun vs H Q _ => ∃ (a : Addr) (v w : V), vs = [.ref a, v, w] ∧ H a = some (exo a C none) ∧ ∀ H', But1 a H H' → ExcAt H' a C [(g, w), (f, v)] → Q .non H'
theorem init1_end {H : Hp} {a C dx : Addr} {f : Str} {v : V} (ha : H a = some (exo a C none)) (hd : H dx = none) (ne : dx ≠ a) :
    But1 a H (upd (upd H dx (exd dx [(f, v)])) a (exo a C (some dx))) ∧ ExcAt (upd (upd H dx (exd dx [(f, v)])) a (exo a C (some dx))) a C [(f, v)] := by
  refine ⟨fun b o hb e => ?_, ⟨some dx, upd_same, .inr ⟨dx, rfl, ?_⟩⟩⟩
  · rw [upd_ne hb, upd_ne (ne_of_none e hd)]
    exact e
  · rw [upd_ne ne]
    exact upd_same
theorem init2_end {H : Hp} {a C dx : Addr} {f g : Str} {v w : V} (ha : H a = some (exo a C none)) (hd : H dx = none) (ne : dx ≠ a) :
    But1 a H (upd (upd (upd H dx (exd dx [(f, v)])) a (exo a C (some dx))) dx (exd dx [(g, w), (f, v)])) ∧ ExcAt (upd (upd (upd H dx (exd dx [(f, v)])) a (exo a C (some dx))) dx (exd dx [(g, w), (f, v)])) a C [(g, w), (f, v)] := by
  refine ⟨fun b o hb e => ?_, ⟨some dx, ?_, .inr ⟨dx, rfl, upd_same⟩⟩⟩
  · have nb := ne_of_none e hd
    rw [upd_ne nb, upd_ne hb, upd_ne nb]
    exact e
  · rw [upd_ne ne.symm]
    exact upd_same
/-- what is known of a class of one field -/
structure E1 (P : Program) (w : World) (K : PySem.W.Frag) (mg : Str → Option Value) (base : Heap) (x f : Str) (C : Addr) : Prop where
  g : mg x = some (.ref C)
  ec : ExcC K C
  no : PySem.W.findIn K (.ref C) f = some none
  ex : ∃ (fI : Addr) (fd : FuncData), ExcI K C fI ∧ FnOk P w K mg base CX0 1 fI fd ["self", f] (spInit1 C f) ∧ Binds K fd ["self", f] [] ∧ ∀ (a : Addr) (u : Value) (s' : Shared), BindsTo s' fd ⟨[.ref a], [(f, u)]⟩ [("self", .ref a), (f, u)]
structure E2 (P : Program) (w : World) (K : PySem.W.Frag) (mg : Str → Option Value) (base : Heap) (x f h : Str) (C : Addr) : Prop where
  g : mg x = some (.ref C)
  ec : ExcC K C
  no : PySem.W.findIn K (.ref C) f = some none
  no2 : PySem.W.findIn K (.ref C) h = some none
  ex : ∃ (fI : Addr) (fd : FuncData), ExcI K C fI ∧ FnOk P w K mg base CX0 1 fI fd ["self", f, h] (spInit2 C f h) ∧ Binds K fd ["self", f, h] [] ∧ ∀ (a : Addr) (u v : Value) (s' : Shared), BindsTo s' fd ⟨[.ref a], [(h, v), (f, u)]⟩ [("self", .ref a), (f, u), (h, v)]
/-- a new exception that holds the value -/
def tE1 (C : Addr) (f : Str) (te : TE) : TE := fun σ H Q => te σ H fun v H1 => ∀ a H2, H1 a = none → (∀ b o, H1 b = some o → H2 b = some o) → ExcAt H2 a C [(f, v)] → Q (.ref a) H2
def tE2 (C : Addr) (f h : Str) (te tu : TE) : TE := fun σ H Q => te σ H fun v H1 => tu σ H1 fun u H2 => ∀ a H3, H2 a = none → (∀ b o, H2 b = some o → H3 b = some o) → ExcAt H3 a C [(h, u), (f, v)] → Q (.ref a) H3
def tE2k (C : Addr) (f h : Str) (te tu : TE) : TE := fun σ H Q => te σ H fun u H1 => tu σ H1 fun v H2 => ∀ a H3, H2 a = none → (∀ b o, H2 b = some o → H3 b = some o) → ExcAt H3 a C [(h, u), (f, v)] → Q (.ref a) H3
def tE0 (C : Addr) : TE := fun _ H Q => ∀ a H2, H a = none → (∀ b o, H b = some o → H2 b = some o) → ExcAt H2 a C [] → Q (.ref a) H2
theorem but_new {H H' : Hp} {a : Addr} {o : HO} (n : H a = none) (b : But1 a (upd H a o) H') : ∀ c u, H c = some u → H' c = some u := fun c u e => b c u (ne_of_none e n) (by rw [upd_ne (ne_of_none e n)]; exact e)
section
variable {X : Cx} {e e2 : Expr} {te tu : TE} {x f h : Str} {p pos kp kp2 : Pos} {C : Addr}
theorem PE.imp {t t' : TE} (hp : PE X e t) (k : ∀ σ H Q, t' σ H Q → t σ H Q) : PE X e t' := ⟨fun pins s σ H Q I q => hp.run pins s σ H Q I (k σ H Q q)⟩
theorem TE_mono_of {te : TE} : True := trivial
theorem pe_E1 (E : E1 X.prog X.w X.K X.mg X.base x f C) (hr : Room 2 X.A) (hg : Gl X x) (he : PE X e te) (mono : ∀ σ H Q Q', (∀ v H1, Q v H1 → Q' v H1) → te σ H Q → te σ H Q')
    (hdb : (x == ("__debug__" : Str)) = false := by decide) (hs : starEach [e] X.env = (false, eval e X.env) :: starEach [] X.env := by rfl) : PE X (.Call (.Name x p) [e] [] pos) (tE1 C f te) := by
  obtain ⟨fI, fd, T, G, hb, _⟩ := E.ex
  refine PE.imp (pe_mkE (k := 1) T G hr hb hg E.g (pa_cons he pa_nil hs) hdb hs (by rfl)) fun σ H Q q => ?_
  refine mono σ H _ _ (fun v H1 q1 => ?_) q
  refine ⟨by show 1 ≤ 1000; decide, fun a na => ⟨a, v, rfl, upd_same, fun H2 b x2 => ⟨rfl, q1 a H2 na (but_new na b) x2⟩⟩⟩
theorem pe_E1k (E : E1 X.prog X.w X.K X.mg X.base x f C) (hr : Room 2 X.A) (hg : Gl X x) (he : PE X e te) (mono : ∀ σ H Q Q', (∀ v H1, Q v H1 → Q' v H1) → te σ H Q → te σ H Q')
    (hdb : (x == ("__debug__" : Str)) = false := by decide) : PE X (.Call (.Name x p) [] [⟨some f, e, kp⟩] pos) (tE1 C f te) := by
  obtain ⟨fI, fd, T, G, _, hb⟩ := E.ex
  refine PE.imp (pe_mkK (k := 1) (ks := [f]) (r := id) (rV := id) T G hr (fun a ws s' _ hl => ?_) (fun z => z) hg E.g (pk_cons he pk_nil) (by rfl) (by rfl) hdb (by rfl)) fun σ H Q q => ?_
  · match ws, hl with
    | [u], _ => exact hb a u s'
  · refine mono σ H _ _ (fun v H1 q1 => ?_) q
    exact fun a na => ⟨a, v, rfl, upd_same, fun H2 b x2 => ⟨rfl, q1 a H2 na (but_new na b) x2⟩⟩
theorem pe_E2 (E : E2 X.prog X.w X.K X.mg X.base x f h C) (hr : Room 2 X.A) (hg : Gl X x) (he : PE X e te) (he2 : PE X e2 tu) (mono : ∀ σ H Q Q', (∀ v H1, Q v H1 → Q' v H1) → te σ H Q → te σ H Q') (mono2 : ∀ σ H Q Q', (∀ v H1, Q v H1 → Q' v H1) → tu σ H Q → tu σ H Q')
    (hdb : (x == ("__debug__" : Str)) = false := by decide) (hs : starEach [e, e2] X.env = (false, eval e X.env) :: starEach [e2] X.env := by rfl) (hs2 : starEach [e2] X.env = (false, eval e2 X.env) :: starEach [] X.env := by rfl) (hpl : (backTo pos (starEach [e2] X.env)).any (·.1) = false := by rfl) :
    PE X (.Call (.Name x p) [e, e2] [] pos) (tE2 C f h te tu) := by
  obtain ⟨fI, fd, T, G, hb, _⟩ := E.ex
  refine PE.imp (pe_mkE (k := 1) T G hr hb hg E.g (pa_cons he (pa_cons he2 pa_nil hs2) hs) hdb hs hpl) fun σ H Q q => ?_
  refine mono σ H _ _ (fun v H1 q1 => mono2 σ H1 _ _ (fun u H2 q2 => ?_) q1) q
  exact ⟨by show 2 ≤ 1000; decide, fun a na => ⟨a, v, u, rfl, upd_same, fun H3 b x3 => ⟨rfl, q2 a H3 na (but_new na b) x3⟩⟩⟩
/-- x(h = e, f = e2) -/
theorem pe_E2k (E : E2 X.prog X.w X.K X.mg X.base x f h C) (hr : Room 2 X.A) (hg : Gl X x) (he : PE X e te) (he2 : PE X e2 tu) (mono : ∀ σ H Q Q', (∀ v H1, Q v H1 → Q' v H1) → te σ H Q → te σ H Q') (mono2 : ∀ σ H Q Q', (∀ v H1, Q v H1 → Q' v H1) → tu σ H Q → tu σ H Q')
    (hdb : (x == ("__debug__" : Str)) = false := by decide) : PE X (.Call (.Name x p) [] [⟨some h, e, kp⟩, ⟨some f, e2, kp2⟩] pos) (tE2k C f h te tu) := by
  obtain ⟨fI, fd, T, G, _, hb⟩ := E.ex
  refine PE.imp (pe_mkK (k := 1) (ks := [h, f]) (r := List.reverse) (rV := List.reverse) T G hr (fun a ws s' _ hl => ?_) (fun z => ?_) hg E.g (pk_cons he (pk_cons he2 pk_nil)) (by rfl) (by rfl) hdb (by rfl)) fun σ H Q q => ?_
  · have hl2 : ws.length = 2 := by simpa using hl
    match ws, hl2 with
    | [u, v], _ => exact hb a v u s'
  · rename_i zs ws
    induction z with
    | nil => exact .nil
    | cons r1 r2 ih =>
      rw [List.reverse_cons, List.reverse_cons]
      exact ih.append (.cons r1 .nil)
  · refine mono σ H _ _ (fun u H1 q1 => mono2 σ H1 _ _ (fun v H2 q2 => ?_) q1) q
    exact fun a na => ⟨a, v, u, rfl, upd_same, fun H3 b x3 => ⟨rfl, q2 a H3 na (but_new na b) x3⟩⟩
theorem pe_E0 {bmB : List Value} {B newId initId : String} (F : ExcBaseFacts B newId initId bmB) (q : PySem.W.excIn X.K C bmB newId = true) (gC : X.mg x = some (.ref C)) (kC : PySem.W.keepIn X.K (.ref C) = true) (hg : Gl X x)
    (hdb : (x == ("__debug__" : Str)) = false := by decide) : PE X (.Call (.Name x p) [] [] pos) (tE0 C) := by
  refine PE.imp (pe_mk0 F q gC kC hg hdb) fun σ H Q q a na => q a _ na (fun b o z => ?_) ⟨none, upd_same, .inl ⟨rfl, rfl⟩⟩
  rw [upd_ne (ne_of_none z na)]
  exact z
end
theorem mono_var (i : Nat) : ∀ (σ : L2.St) (H : Hp) (Q Q' : VK), (∀ v H1, Q v H1 → Q' v H1) → tVar i σ H Q → tVar i σ H Q' := fun σ H Q Q' k ⟨v, h, q⟩ => ⟨v, h, k _ _ q⟩
end Own

set_option Elab.async false
set_option linter.all false
set_option maxRecDepth 100000
set_option maxHeartbeats 4000000
/-! raise C(e), C an error class of one field: the error's own dict is new and holds the value -/
namespace Own
open PySem PySem.Spec PyProof.Rows L2
def spIni (C : Addr) (f : Str) : Sp := fun vs H Q _ => ∃ (a : Addr) (v : V), vs = [.ref a, v] ∧ H a = some (exo a C none) ∧ ∀ dx, H dx = none → dx ≠ a → Q .non (upd (upd H dx (exd dx [(f, v)])) a (exo a C (some dx)))
/-- what is known of a class of one field that is raised -/
structure EI (P : Program) (w : World) (K : PySem.W.Frag) (mg : Str → Option Value) (base : Heap) (x f : Str) (C : Addr) : Prop where
  g : mg x = some (.ref C)
  ex : ∃ (fI : Addr) (fd : FuncData), ExcI K C fI ∧ FnOk P w K mg base CX0 1 fI fd ["self", f] (spIni C f) ∧ Binds K fd ["self", f] []
def tRs (C : Addr) (f : Str) (te : TE) : L2.St → Hp → XK → Prop := fun σ H Q => te σ H fun v H1 => ∀ d H2, H1 d = none → (∀ b o, H1 b = some o → H2 b = some o) → H2 d = some (.xd [(f, v)]) → Q (.ref C) (some d) H2
section
variable {X : Cx} {e : Expr} {te : TE} {x f : Str} {p pos pos2 : Pos} {C : Addr}
theorem pmk_EI (E : EI X.prog X.w X.K X.mg X.base x f C) (hr : Room 2 X.A) (hg : Gl X x) (he : PE X e te) (mono : ∀ σ H Q Q', (∀ v H1, Q v H1 → Q' v H1) → te σ H Q → te σ H Q')
    (hdb : (x == ("__debug__" : Str)) = false := by decide) (hs : starEach [e] X.env = (false, eval e X.env) :: starEach [] X.env := by rfl) (hpl : (backTo pos (starEach [] X.env)).any (·.1) = false := by rfl) : PMk X (.Call (.Name x p) [e] [] pos) (tRs C f te) := by
  obtain ⟨fI, fd, T, G, hb⟩ := E.ex
  intro pins s σ H Q I h
  refine pmk_oex (CX := CX0) (ps := ["self", f]) (dvs := []) T.ox T.init T.fn G hr hb .nil pass0 hg E.g (pa_cons he pa_nil hs) hdb hs hpl pins s σ H Q I ?_
  refine mono σ H _ _ (fun v H1 q1 => ?_) h
  refine ⟨by show 1 ≤ 1000; decide, fun a na => ⟨a, v, rfl, upd_same, fun dx nd ne => ⟨rfl, dx, [(f, v)], upd_same, ?_, ?_, ?_⟩⟩⟩
  · rw [upd_ne ne]
    exact upd_same
  · rw [upd_ne ne] at nd
    exact nd
  · have nd1 : H1 dx = none := by
      rw [upd_ne ne] at nd
      exact nd
    refine q1 dx _ nd1 (fun b o e => ?_) upd_same
    have n1 := ne_of_none e nd1
    have n2 := ne_of_none e na
    rw [upd_ne n1, del_ne n2, upd_ne n2, upd_ne n1, upd_ne n2]
    exact e
theorem ps_EI {W : WX} (hc : X.calm = true) (tk : Takes X W) (E : EI X.prog X.w X.K X.mg X.base x f C) (hr : Room 2 X.A) (hg : Gl X x) (he : PE X e te) (mono : ∀ σ H Q Q', (∀ v H1, Q v H1 → Q' v H1) → te σ H Q → te σ H Q')
    (hdb : (x == ("__debug__" : Str)) = false := by decide) (hs : starEach [e] X.env = (false, eval e X.env) :: starEach [] X.env := by rfl) (hpl : (backTo pos (starEach [] X.env)).any (·.1) = false := by rfl) :
    PS X (.Raise (some (.Call (.Name x p) [e] [] pos)) none pos2) (fun _ σ H => tRs C f te σ H fun cls d H' => W cls d σ H') := ps_raise hc tk (pmk_EI E hr hg he mono hdb hs hpl)
end
end Own

set_option Elab.async false
set_option linter.all false
set_option maxRecDepth 100000
set_option maxHeartbeats 4000000
/-! try: .. except A as n: .. except B as n: .. (several clauses, each with its name) -/
namespace Own
open PySem PySem.Spec PyProof.Rows L2
abbrev Sui := Addr → Value → Option Addr → TS
/-- behind a suite its name's slot is empty -/
def gone (i : Nat) (D : Ends) : Ends := { nx := fun σ H => D.nx (σ.set i none) H, rt := D.rt, bk := fun σ H => D.bk (σ.set i none) H, ct := fun σ H => D.ct (σ.set i none) H }
/-- what the clauses wish, one behind the other: class, slot of the name, suite -/
def wAll (K : PySem.W.Frag) (out : WX) (D : Ends) : List (Value × Nat × Sui) → WX
  | [] => out
  | (c, i, ts) :: r => fun k d σ H => ∃ b, PySem.W.exmOne K k c = some b ∧ (b = true → ∀ a, H a = none → ts a k d (gone i D) (σ.set i (some (.ref a))) H) ∧ (b = false → wAll K out D r k d σ H)
inductive Clauses (X : Cx) : List ExceptHandler → List (Value × Nat × Sui) → Prop
  | nil : Clauses X [] []
  | cons {x n : Str} {c : Value} {i : Nat} {ts : Sui} {b : Stmt} {bs : List Stmt} {p q : Pos} {hs : List ExceptHandler} {l : List (Value × Nat × Sui)} (names : Names X x c) (slot : X.N[i]? = some n) (loc : X.env.kindOf n = some .local)
      (body : ∀ (a : Addr) (o : Obj) (k : Value) (d : Option Addr) (pn : List (Addr × Obj)), Zc k d o → (∃ vs, o.data = .fields vs) → PSs (X.suite a ((a, o) :: pn)) (b :: bs) (ts a k d)) (rest : Clauses X hs l) :
      Clauses X (.ExceptHandler (some (.Name x p)) (some n) (b :: bs) q :: hs) ((c, i, ts) :: l)
/-- an exception of the class k (its dict d) lies at a, caught by this frame; sI is the state without it -/
structure Come (X : Cx) (pins : List (Addr × Obj)) (σ : L2.St) (H : Hp) (B : Heap) (a : Addr) (k : Value) (d : Option Addr) (sI s : Shared) : Prop where
  inv : Inv X pins σ H sI
  base : ∀ c o, sI.heap.get? c = some o → c ∉ frs X.stack → B.get? c = some o
  fly : HandSPX.FlyingZ B (X.env :: X.outer) a (Zc k d) s.heap
  slots : sI.heap.UpToSlots s.heap
  off : H a = none
  os : s.os = sI.os
  bare : AllBare s.gens
section
variable {X : Cx} {pins : List (Addr × Obj)} {σ : L2.St} {H : Hp} {B : Heap} {a : Addr} {k : Value} {d : Option Addr} {sI s : Shared}
theorem Come.now (c : Come X pins σ H B a k d sI s) : Inv X pins σ H s := Inv.landed c.inv c.base c.fly.1 c.slots c.os c.bare
theorem Come.again (c : Come X pins σ H B a k d sI s) {h : Heap} (f : HandSPX.FlyingZ B (X.env :: X.outer) a (Zc k d) h) (u : s.heap.UpToSlots h) : Come X pins σ H B a k d sI { s with heap := h } :=
  ⟨c.inv, c.base, f, Heap.UpToSlots.trans c.slots u, c.off, c.os, c.bare⟩
theorem Come.held (c : Come X pins σ H B a k d sI s) (hf : X.env.frame = some X.env.locals) : ∃ o vs, s.heap.get? a = some o ∧ Zc k d o ∧ o.data = .fields vs ∧ Inv (X.suite a ((a, o) :: (X.pn ++ pins))) [] σ H s := by
  obtain ⟨o, vs, e, z, dt⟩ := c.fly.there
  have out : a ∉ frs (X.env :: X.outer) := by
    intro m
    obtain ⟨_, o2, e2, bad⟩ := c.fly.2.2.1.mem m
    rw [e] at e2
    rw [← Option.some.inj e2] at bad
    exact bad _ dt
  have mem : ∀ v ∈ X.env :: X.outer, v.frame = some a → False := fun v hv e3 => out (List.mem_filterMap.mpr ⟨v, hv, e3⟩)
  refine ⟨o, vs, e, z, dt, Inv.suite c.now e dt c.off (fun q => mem X.env List.mem_cons_self (by rw [hf, q])) fun q => ?_⟩
  obtain ⟨v, hv, e3⟩ := List.mem_filterMap.mp q
  exact mem v (List.mem_cons_of_mem _ hv) e3
theorem run_clauses {hds : List ExceptHandler} {l : List (Value × Nat × Sui)} {out : WX} {D : Ends} (st : X.stack = X.env :: X.outer) (hf : X.env.frame = some X.env.locals) (nd : X.N.Nodup) (tk : Takes X out) (C : Clauses X hds l) (c : Come X pins σ H B a k d sI s)
    (w : wAll X.K out D l k d σ H) : wpAny (model X.prog X.w) X.A (handleBy (.ref a) X.env hds) (SP X pins D) X.xe s := by
  have ok := c.inv.ok
  induction C with
  | nil =>
    obtain ⟨_, _, _, o, vs, T, oT, ts, e, z, dt, e1, _⟩ := id c.fly
    refine wpAny_handleBy_nil ?_
    unfold PySem.passOn
    refine wpAny_bind (wpAny_field e dt e1 ?_)
    have noT : ¬ (Value.ref T == Value.none) = true := by simp
    rw [if_neg noT]
    have go : wpAny (model X.prog X.w) X.A (setFlight (.ref a) X.env.frame) (fun _ s2 => wpAny (model X.prog X.w) X.A (throw (.ref a) : Sem Flow) (SP X pins D) X.xe s2) X.xe s := by
      rw [hf]
      refine HandSPX.setFlight_upZ c.fly fun g hg ug => wpAny_throw (tk _ _ ⟨a, B, sI, pins, σ, H, k, d, rfl, c.inv, c.base, Heap.UpToSlots.trans c.slots ug, .inr (.inr ?_), c.off, c.os, c.bare, w⟩)
      rw [st]
      exact hg
    first
      | exact wpAny_bind (wpAny_pure (wpAny_bind go))
      | exact wpAny_bind go
  | @cons x n cv i ts b0 bs p q hs2 l2 names slot loc body rest ih =>
    obtain ⟨b, hit, yes, no⟩ := w
    obtain ⟨o, vs, e, z, dt, S⟩ := c.held hf
    refine wpAny_handleBy_cons (codeAny_handlers_test ?_) (fun q => by cases q)
    have ty : PySem.W.Looks (model X.prog X.w) s.heap (typeOf (.ref a)) k := by
      intro A Q E s2 keep q
      refine wpAny_typeOf_ref (keep _ _ e) ?_
      rw [z.1]
      exact q
    have look := PySem.W.exm_one (M := model X.prog X.w) c.now.kIn ty hit
    have named : ∀ {Q E : Value → Shared → Prop}, Q cv s → wpAny (model X.prog X.w) (X.A.mark (some (.ref a))) (eval (.Name x p) X.env) Q E s := by
      intro Q E q
      obtain ⟨h1, h2, h3⟩ := names
      rcases h3 with h3 | ⟨h3, h4, h5⟩
      · exact ld_glob (X := X.suite a ((a, o) :: (X.pn ++ pins))) S h1 h3 q h2
      · exact ld_blt (X := X.suite a ((a, o) :: (X.pn ++ pins))) S h1 h3 h4 q h5 h2
    refine named (look.here ?_)
    cases b with
    | false => exact ih (no rfl)
    | true =>
      refine codeAny_handlers_suite_as (HandSPX.lands_againZ c.fly fun g fg ug => ?_)
      have c2 := c.again fg ug
      obtain ⟨o2, vs2, e2, z2, dt2, S2⟩ := c2.held hf
      refine store_ok (X := X.suite a ((a, o2) :: (X.pn ++ pins))) (v := .ref a) S2 nd slot (.inl loc) rfl (fun s5 S5 => ?_) (.inr loc)
      refine wpAny_mono ((body a o2 k d (X.pn ++ pins) z2 ⟨_, dt2⟩).run [] s5 _ H _ S5 (yes rfl a c.off)) (fun f s6 r => ?_) fun _ _ bad => bad.elim
      have leave : ∀ {σ6 : L2.St} {H6 : Hp} {R : Shared → Prop}, Inv (X.suite a ((a, o2) :: (X.pn ++ pins))) [] σ6 H6 s6 → (∀ s7, Inv X pins (σ6.set i none) H6 s7 → R s7) → wpAny (model X.prog X.w) X.A (do bindName X.env n .none; unbindBehindTheSuite X.env n q) (fun _ s7 => R s7) X.xe s6 := by
        intro σ6 H6 R S6 r
        exact gone_ok (Inv.unsuite S6 ok) nd slot loc r
      match f, r with
      | .next, ⟨_, _, S6, r⟩ => exact leave S6 fun _ J => ⟨_, _, J, r⟩
      | .brk, ⟨_, _, S6, r⟩ => exact leave S6 fun _ J => ⟨_, _, J, r⟩
      | .cont, ⟨_, _, S6, r⟩ => exact leave S6 fun _ J => ⟨_, _, J, r⟩
      | .ret u, ⟨_, _, _, S6, rv, r⟩ => exact leave S6 fun _ J => ⟨_, _, _, J, rv, r⟩
theorem ps_tryAll {body : List Stmt} {h0 : ExceptHandler} {hds : List ExceptHandler} {l : List (Value × Nat × Sui)} {pos : Pos} {tb : WX → TS} {out : WX} (st : X.stack = X.env :: X.outer) (hf : X.env.frame = some X.env.locals) (nd : X.N.Nodup) (tk : Takes X out)
    (hb : ∀ (W : WX) (pn : List (Addr × Obj)) (xe : Value → Shared → Prop), Takes (X.tr pn xe) W → PassesOwn (model X.prog X.w) X.A X.env xe → PSs (X.tr pn xe) body (tb W)) (C : Clauses X (h0 :: hds) l) :
    PS X (.Try body (h0 :: hds) [] [] pos) (fun D σ H => tb (fun k d σ1 H1 => σ1.length = X.N.length → wAll X.K out D l k d σ1 H1) D σ H) := by
  refine ⟨fun pins s σ H D I w => wpAny_Try_except ?_⟩
  have ok := I.ok
  have fr : X.A.frames = some (X.env :: X.outer) := by rw [ok.frames, st]
  let xe : Value → Shared → Prop := fun e s1 => wpAny (model X.prog X.w) X.A (noteFrame e X.env) (fun _ s2 => wpAny (model X.prog X.w) X.A (setFlight e none) (fun _ s3 => wpAny (model X.prog X.w) X.A (handleBy e X.env (h0 :: hds)) (SP X pins D) X.xe s3) X.xe s2) X.xe s1
  have tk2 : Takes (X.tr (X.pn ++ pins) xe) (fun k d σ1 H1 => σ1.length = X.N.length → wAll X.K out D l k d σ1 H1) := by
    rintro u s1 ⟨a, B, sI, pins1, σ1, H1, k, d, rfl, J, nb, up, sky, na, os, ag, w1⟩
    have sky1 : Sky B (X.env :: X.outer) a (Zc k d) X.env.locals s1.heap := by
      rw [← st]
      exact sky
    refine Sky.land Zc.steady fr hf sky1 fun g fg ug => ?_
    exact run_clauses st hf nd tk C ⟨Inv.ofTry J ok, nb, fg, Heap.UpToSlots.trans up ug, na, os, ag⟩ (w1 J.len)
  refine wpAny_mono ((hb _ (X.pn ++ pins) xe tk2 PassesOwn.looking).run [] s σ H D (Inv.toTry I _) w) (fun f s1 r => ?_) fun _ _ x => x
  match f, r with
  | .next, ⟨_, _, J, r⟩ => exact wpAny_execs_nil ⟨_, _, Inv.ofTry J ok, r⟩
  | .brk, ⟨_, _, J, r⟩ => exact ⟨_, _, Inv.ofTry J ok, r⟩
  | .cont, ⟨_, _, J, r⟩ => exact ⟨_, _, Inv.ofTry J ok, r⟩
  | .ret u, ⟨_, _, _, J, rv, r⟩ => exact ⟨_, _, _, Inv.ofTry J ok, rv, r⟩
end
end Own

set_option Elab.async false
set_option linter.all false
set_option maxRecDepth 100000
namespace K05
open PySem PySem.Spec PyProof.Rows L2 Own
def topS (i : Nat) : Stmt := PySem.Challenge.pw_lastbell_k05_whole_added_and_later.main.body.getD i (.Pass ⟨0, 0, 0, 0⟩)
abbrev s_change_from : Stmt := topS 1
abbrev s_change_by_steps : Stmt := topS 2
abbrev s_steps_of : Stmt := topS 3
abbrev sIsInt : Stmt := topS 15
abbrev sIsNum : Stmt := topS 16
abbrev sIsList : Stmt := topS 17
abbrev sIsPlace : Stmt := topS 20
abbrev sIsRoad : Stmt := topS 21
abbrev sIsDoor : Stmt := topS 22
abbrev sWrongRoad : Stmt := topS 23
abbrev sComes : Stmt := topS 24
abbrev sWrongDoor : Stmt := topS 25
abbrev s_is_steps : Stmt := topS 27
abbrev s_need_steps : Stmt := topS 28
abbrev s_together : Stmt := topS 29
abbrev s_later : Stmt := topS 30
abbrev sStream : Stmt := topS 32
abbrev sDraw : Stmt := topS 33
abbrev sPick : Stmt := topS 34
abbrev sMixed : Stmt := topS 35
abbrev sSame : Stmt := topS 36
abbrev sLoose : Stmt := topS 37
abbrev s_l_is_number : Stmt := topS 38
abbrev s_l_is_list : Stmt := topS 39
abbrev s_l_is_steps : Stmt := topS 40
abbrev s_l_rate : Stmt := topS 41
abbrev s_l_p_steps : Stmt := topS 42
abbrev s_l_p_added : Stmt := topS 43
abbrev s_l_p_parts : Stmt := topS 44
abbrev s_l_p_deep : Stmt := topS 45
abbrev s_l_p_odd : Stmt := topS 46
abbrev s_l_p_bent : Stmt := topS 47
abbrev s_l_p_shifted : Stmt := topS 48
abbrev s_l_p_tried : Stmt := topS 49
abbrev s_l_due : Stmt := topS 50
abbrev s_l_later_due : Stmt := topS 51
abbrev s_l_later_right : Stmt := topS 52
abbrev s_l_changed_right : Stmt := topS 53
abbrev s_l_refused_right : Stmt := topS 54
abbrev sLaw : Stmt := topS 55
abbrev sInit : Stmt := inClass (topS 19) 0
abbrev sPlaces : Stmt := inClass (topS 19) 1
abbrev sRoads : Stmt := inClass (topS 19) 2
abbrev sDoors : Stmt := inClass (topS 19) 3
abbrev sHEq : Stmt := inClass (topS 19) 4
/-- the names that the law's helpers use must be the built-in ones -/
structure Bt (mg : Str → Option Value) : Prop where
  abs : mg "abs" = none
  int : mg "int" = none
  list : mg "list" = none
  len : mg "len" = none
  isi : mg "isinstance" = none
  tuple : mg "tuple" = none
  dict : mg "dict" = none
  bool : mg "bool" = none
  all : mg "all" = none
  zip : mg "zip" = none
  range : mg "range" = none
  enum : mg "enumerate" = none
  max : mg "max" = none
  str : mg "str" = none
  min : mg "min" = none
/-- all that was tracked stays but what stands at a and l -/
def But2 (a l : Addr) (H H' : Hp) : Prop := ∀ b o, b ≠ a → b ≠ l → H b = some o → H' b = some o
theorem But2.trans {a l : Addr} {H H1 H2 : Hp} (x : But2 a l H H1) (y : But2 a l H1 H2) : But2 a l H H2 := fun b o h1 h2 e => y b o h1 h2 (x b o h1 h2 e)
/-- the stream of draws: its list at a, the cells that are left at l -/
structure Strm (N : Int) (H : Hp) (a l : Addr) : Prop where
  ex : ∃ (xs : List Int) (c n m : Int), H a = some (.lst [.ref l, .int c, .int n, .int m]) ∧ H l = some (.lst (xs.map V.int)) ∧ xs.length ≤ 63 ∧ 0 ≤ c ∧ 0 ≤ n ∧ n ≤ N ∧ 0 ≤ m ∧ m < 2147483647
theorem Strm.ne {N : Int} {H : Hp} {a l : Addr} (x : Strm N H a l) : a ≠ l := by
  obtain ⟨xs, c, n, m, h1, h2, _⟩ := x.ex
  refine ne_of h1 h2 fun z => ?_
  have z1 := HO.lst.inj z
  cases xs with
  | nil => cases z1
  | cons y ys => cases z1
theorem Strm.mono {N M : Int} {H : Hp} {a l : Addr} (x : Strm N H a l) (h : N ≤ M) : Strm M H a l := by
  obtain ⟨xs, c, n, m, h1, h2, h3, h4, h5, h6, h7⟩ := x.ex
  exact ⟨xs, c, n, m, h1, h2, h3, h4, h5, Int.le_trans h6 h, h7⟩
theorem Strm.keep {N : Int} {H H' : Hp} {a l : Addr} (x : Strm N H a l) (k : ∀ b o, H b = some o → (∀ t, o ≠ .tbl t) → H' b = some o) : Strm N H' a l := by
  obtain ⟨xs, c, n, m, h1, h2, h3⟩ := x.ex
  exact ⟨xs, c, n, m, k _ _ h1 (fun t z => by cases z), k _ _ h2 (fun t z => by cases z), h3⟩
/-! ### lists of ints and of bools as data -/
theorem dp_ints {K : PySem.W.Frag} {H : Hp} : ∀ xs : List Int, DpAll K H (xs.map V.int) (xs.map PyData.int)
  | [] => .nil
  | x :: r => .cons (.int x) (dp_ints r)
theorem dp_bls {K : PySem.W.Frag} {H : Hp} : ∀ xs : List Bool, DpAll K H (xs.map V.bl) (xs.map PyData.bool)
  | [] => .nil
  | x :: r => .cons (.bl x) (dp_bls r)
theorem lay_ints : ∀ xs : List Int, PyData.canLayAll0 (xs.map PyData.int) = true ∧ PyData.depthAll (xs.map PyData.int) = 0
  | [] => ⟨rfl, rfl⟩
  | x :: r => by
    obtain ⟨h1, h2⟩ := lay_ints r
    constructor
    · show (PyData.canLay0 (.int x) && PyData.canLayAll0 (r.map PyData.int)) = true
      rw [h1] <;> rfl
    · show max (PyData.depth (.int x)) (PyData.depthAll (r.map PyData.int)) = 0
      rw [h2] <;> rfl
theorem lay_bls : ∀ xs : List Bool, PyData.canLayAll0 (xs.map PyData.bool) = true ∧ PyData.depthAll (xs.map PyData.bool) = 0
  | [] => ⟨rfl, rfl⟩
  | x :: r => by
    obtain ⟨h1, h2⟩ := lay_bls r
    constructor
    · show (PyData.canLay0 (.bool x) && PyData.canLayAll0 (r.map PyData.bool)) = true
      rw [h1] <;> rfl
    · show max (PyData.depth (.bool x)) (PyData.depthAll (r.map PyData.bool)) = 0
      rw [h2] <;> rfl
theorem sh_list {ds : List PyData} (h1 : PyData.canLayAll0 ds = true) (h2 : PyData.depthAll ds = 0) : SeqAt.shaped (.list ds) = true := by
  show (PyData.canLayAll0 ds && decide (PyData.depthAll ds + 1 ≤ 64)) = true
  rw [h1, h2]
  rfl
theorem sh_ints (xs : List Int) : SeqAt.shaped (.list (xs.map PyData.int)) = true := sh_list (lay_ints xs).1 (lay_ints xs).2
theorem sh_bls (xs : List Bool) : SeqAt.shaped (.list (xs.map PyData.bool)) = true := sh_list (lay_bls xs).1 (lay_bls xs).2
theorem eqv_bls : ∀ xs : List Bool, PyData.eqvAll (xs.map PyData.bool) (xs.map PyData.bool) = true
  | [] => rfl
  | x :: r => by
    show ((x == x) && PyData.eqvAll (r.map PyData.bool) (r.map PyData.bool)) = true
    rw [eqv_bls r, beq_self_eq_true] <;> rfl
end K05

set_option Elab.async false
set_option linter.all false
set_option maxRecDepth 100000
set_option maxHeartbeats 2000000
namespace K05
open PySem PySem.Spec PyProof.Rows L2 Own
theorem scDraw : FnScope ["_law_stream_here", "_law_many", "_law_cell", "_law_digit", "_law_mixed_here"] ["_law_stream_here", "_law_many"] (defScope sDraw) := ⟨rfl, rfl, rfl, by decide +kernel, rfl, by decide +kernel, by decide +kernel⟩
theorem scPick : FnScope ["_law_stream_here", "_law_things"] ["_law_stream_here", "_law_things"] (defScope sPick) := ⟨rfl, rfl, rfl, by decide +kernel, rfl, by decide +kernel, by decide +kernel⟩
theorem scStream : FnScope ["_law_script"] ["_law_script"] (defScope sStream) := ⟨rfl, rfl, rfl, by decide +kernel, rfl, by decide +kernel, by decide +kernel⟩
theorem log_lt {m : Int} (h0 : 0 < m) (h : m < 1152921504606846976) : m.natAbs.log2 < 9000 := by
  have : m.natAbs.log2 < 60 := (Nat.log2_lt (by omega)).mpr (by omega)
  omega
def spStream (K : PySem.W.Frag) : Sp := fun vs H Q _ => ∃ (s : Addr) (ns : List Int), vs = [.ref s] ∧ SqL K H s (ns.map V.int) ∧ ns.length ≤ 63 ∧
  ∀ H' a l, Same H H' → H a = none → H l = none → Strm 0 H' a l → Q (.ref a) H'
def spDraw : Sp := fun vs H Q _ => ∃ (a l : Addr) (N many : Int), vs = [.ref a, .int many] ∧ Strm N H a l ∧ 0 ≤ N ∧ N ≤ 1000000000 ∧ 0 < many ∧ many < 1152921504606846976 ∧
  ∀ H' d, 0 ≤ d → d < many → But2 a l H H' → Strm (N + 1) H' a l → Q (.int d) H'
def spPick : Sp := fun vs H Q _ => ∃ (a l p : Addr) (N : Int) (xs : List V), vs = [.ref a, .ref p] ∧ Strm N H a l ∧ 0 ≤ N ∧ N ≤ 1000000000 ∧ p ≠ a ∧ p ≠ l ∧ H p = some (.lst xs) ∧ 0 < xs.length ∧ xs.length ≤ 1000 ∧
  ∀ H' v, v ∈ xs → But2 a l H H' → Strm (N + 1) H' a l → Q v H'
section
variable {P : Program} {w : World} {K : PySem.W.Frag} {mg : Str → Option Value} {base : Heap}
theorem ok_stream {f : Addr} {fd : FuncData} (F : Fun K "_law_stream" "_law_stream" sStream f fd) (T : Bt mg) : FnOk P w K mg base CX0 1 f fd ["_law_script"] (spStream K) := by
  refine F.ok scStream (fun vs H Q E h => ?_) (fun cdv A outer s H vs Q E hr h => ?_)
  · obtain ⟨s, ns, rfl, _⟩ := h
    rfl
  · obtain ⟨s0, ns, rfl, hS, hl, k⟩ := h
    refine ⟨_, pss_one (ps_ret (pe_lst (pa_cons (pe_callTy call_list_of (by rfl) T.list (by decide +kernel) (pa_cons (pv 0) pa_nil)) (pa_cons pe_int (pa_cons pe_int (pa_cons pe_int pa_nil)))))), ?_⟩
    refine ⟨_, rfl, s0, _, rfl, .inl hS, fun l hl0 => ⟨by show 4 ≤ sizeLine; decide, fun a ha => ?_⟩⟩
    have nal : a ≠ l := fun z => by
      rw [z, upd_same] at ha
      cases ha
    have ha0 : H a = none := by
      rw [upd_ne nal] at ha
      exact ha
    refine k _ a l (fun b o e => ?_) ha0 hl0 ⟨ns, 0, 0, 17, upd_same, ?_, hl, by decide, by decide, by decide, by decide, by decide⟩
    · rw [upd_ne (ne_of_none e ha0), upd_ne (ne_of_none e hl0)]
      exact e
    · rw [upd_ne nal.symm]
      exact upd_same
theorem but2_set {a l : Addr} {H H1 : Hp} {o : HO} (b : But2 a l H H1) : But2 a l H (upd H1 a o) := fun x y h1 h2 e => by
  rw [upd_ne h1]
  exact b x y h1 h2 e
theorem but2_setl {a l : Addr} {H H1 : Hp} {o : HO} (b : But2 a l H H1) : But2 a l H (upd H1 l o) := fun x y h1 h2 e => by
  rw [upd_ne h2]
  exact b x y h1 h2 e
theorem but2_new {a l p : Addr} {H H1 : Hp} {o : HO} (b : But2 a l H H1) (hp : H1 p = none) : But2 a l H (upd H1 p o) := fun x y h1 h2 e => by
  have z := b x y h1 h2 e
  rw [upd_ne (ne_of_none z hp)]
  exact z
theorem seq0 (n : Nat) : seqIndex? 0 (n + 1) = some 0 := by
  refine (ixN_seq (n := n + 1) (i := 0) (j := 0) ?_).1
  unfold ixN
  rw [if_pos (Int.le_refl 0), if_pos (by omega)]
  rfl
/-- the stream's state within a draw -/
structure Mid (a l : Addr) (n : Int) (H H' : Hp) (xs : List Int) (c m : Int) : Prop where
  ha : H' a = some (.lst [.ref l, .int c, .int n, .int m])
  hl : H' l = some (.lst (xs.map V.int))
  len : xs.length ≤ 63
  c0 : 0 ≤ c
  m0 : 0 ≤ m
  m1 : m < 2147483647
  but : But2 a l H H'
theorem Mid.ne {a l : Addr} {n : Int} {H H' : Hp} {xs : List Int} {c m : Int} (M : Mid a l n H H' xs c m) : a ≠ l := by
  refine ne_of M.ha M.hl fun z => ?_
  have z1 := HO.lst.inj z
  cases xs with
  | nil => cases z1
  | cons y ys => cases z1
theorem ok_draw {f : Addr} {fd : FuncData} (F : Fun K "_law_draw" "_law_draw" sDraw f fd) (T : Bt mg) : FnOk P w K mg base CX0 1 f fd ["_law_stream_here", "_law_many"] spDraw := by
  refine F.ok scDraw (fun vs H Q E h => ?_) (fun cdv A outer s H vs Q E hr h => ?_)
  · obtain ⟨a, l, N, many, rfl, _⟩ := h
    rfl
  · obtain ⟨a, l, N, many, rfl, S, hN0, hN1, hm0, hm1, k⟩ := h
    have nal := S.ne
    obtain ⟨xs, c, n, m, h1, h2, h3, h4, h5, h6, h7, h8⟩ := S.ex
    refine ⟨_, pss_cons (ps_asg (pe_op op_add (pe_ix ix_list (pv 0) pe_int (fun _ _ => rfl)) pe_int) (pg_sub (pv 0) pe_int set_list))
      (Evl.pss_cut (ps_while PassesOwn.never (PW.pt (pw_and (pt_cmpR op_eq (pe_ix ix_list (pv 0) pe_int (fun _ _ => rfl)) pe_int (nomark _)) (pw_and1 (pt_cmpR (op_neD hr.units) (pe_ix ix_list (pv 0) pe_int (fun _ _ => rfl)) (pe_lst pa_nil) (nomark _)))))
        (pss_cons (ps_set (i := 2) scDraw.nd rfl (Or.inl rfl) (pe_callB call_abs (by rfl) T.abs (by decide +kernel) (pa_cons (pe_bm PySem.F.plainAttrs_list PySem.F.slot_list_pop PySem.F.type_list_pop mt_popAt (pe_ix ix_list (pv 0) pe_int (fun _ _ => rfl)) (pa_cons pe_int pa_nil)) pa_nil)))
        (pss_cons (ps_asg (pe_op op_mod (pe_callTy call_int1 (by rfl) T.int (by decide +kernel) (pa_cons (pe_op op_add (pe_op op_add (pe_op op_mul (pe_ix ix_list (pv 0) pe_int (fun _ _ => rfl)) pe_int) (pv 2)) pe_int) pa_nil)) pe_int) (pg_sub (pv 0) pe_int set_list))
        (pss_one (ps_asg (pe_ifExp (pt_cmpR op_ge (pv 2) (pe_op op_pow pe_int pe_int) (nomark _)) (pv 2) pe_int) (pg_sub (pv 0) pe_int set_list))))))
      (pss_cons (ps_if (pt_cmpR op_gt (pe_ix ix_list (pv 0) pe_int (fun _ _ => rfl)) pe_int (nomark _))
        (pss_cons (ps_set (i := 3) scDraw.nd rfl (Or.inl rfl) (pe_op op_modN (pe_callTy call_int1 (by rfl) T.int (by decide +kernel) (pa_cons (pe_ix ix_list (pv 0) pe_int (fun _ _ => rfl)) pa_nil)) (pv 1)))
        (pss_cons (ps_asg (pe_op op_fdivW (pe_ix ix_list (pv 0) pe_int (fun _ _ => rfl)) (pv 1)) (pg_sub (pv 0) pe_int set_list))
        (pss_one (ps_ret (pv 3))))) pss_nil)
      (pss_cons (ps_set (i := 4) scDraw.nd rfl (Or.inl rfl) (pe_op op_mod (pe_callTy call_int1 (by rfl) T.int (by decide +kernel) (pa_cons (pe_op op_pow (pe_op op_add (pe_op op_add (pe_ix ix_list (pv 0) pe_int (fun _ _ => rfl)) (pe_op op_mul pe_int (pe_ix ix_list (pv 0) pe_int (fun _ _ => rfl)))) pe_int) pe_int) pa_nil)) pe_int))
      (pss_one (ps_ret (pe_op op_modN (pe_op op_mod (pe_callTy call_int1 (by rfl) T.int (by decide +kernel) (pa_cons (pe_op op_pow (pe_op op_add (pe_op op_add (pe_op op_mul (pv 4) pe_int) (pe_op op_mul pe_int (pe_ix ix_list (pv 0) pe_int (fun _ _ => rfl)))) pe_int) pe_int) pa_nil)) pe_int) (pv 1))))))), ?_⟩
    refine ⟨_, rfl, a, _, _, _, rfl, rfl, SqL.of h1, (by rfl), _, _, rfl, rfl, _, rfl, a, _, _, 2, rfl, rfl, h1, (by rfl), ?_⟩
    refine ⟨fun σ' H' => ∃ (xs : List Int) (c m : Int) (v : Option V), σ' = [some (.ref a), some (.int many), v, none, none] ∧ Mid a l (n + 1) H H' xs c m, ?_, ?_⟩
    · refine ⟨fun j σ' H' => ∃ (xs : List Int) (c m : Int) (v : Option V), σ' = [some (.ref a), some (.int many), v, none, none] ∧ Mid a l (n + 1) H H' xs c m ∧ j = xs.length, ⟨_, xs, c, m, none, rfl, ⟨upd_same, by rw [upd_ne nal.symm]; exact h2, h3, h4, h7, h8, fun b o q1 q2 e => by rw [upd_ne q1]; exact e⟩, rfl⟩, ?_⟩
      rintro j σ' H1 ⟨xs, c0, m0, v, rfl, M, rfl⟩
      refine ⟨_, rfl, a, _, _, _, rfl, rfl, SqL.of M.ha, (by rfl), rfl, _, rfl, ?_⟩
      refine ite2 (fun hc => ?_) (fun hc => ?_)
      · have hc0 : c0 = 0 := V.int.inj (of_decide_eq_true hc)
        refine ⟨_, rfl, a, _, _, _, rfl, rfl, SqL.of M.ha, (by rfl), Nat.zero_le _, fun p hp => ?_⟩
        have npa : a ≠ p := ne_of_none M.ha hp
        have npl : l ≠ p := ne_of_none M.hl hp
        have M2 : Mid a l (n + 1) H (upd H1 p (.lst [])) xs c0 m0 := ⟨by rw [upd_ne npa]; exact M.ha, by rw [upd_ne npl]; exact M.hl, M.len, M.c0, M.m0, M.m1, but2_new M.but hp⟩
        refine ⟨.list (xs.map PyData.int), .list [], .lst (SqL.of M2.hl) (dp_ints xs), .lst (SqL.of upd_same) .nil, sh_ints xs, rfl, _, rfl, ?_⟩
        cases xs with
        | nil =>
          refine iteF ?_
          exact ⟨[], c0, m0, v, rfl, M2⟩
        | cons y ys =>
          refine iteT ⟨fun σ2 H2 => ∃ (xs : List Int) (c m : Int) (v : Option V), σ2 = [some (.ref a), some (.int many), v, none, none] ∧ Mid a l (n + 1) H H2 xs c m ∧ ys.length = xs.length, ?_, ?_⟩
          · rintro σ2 H2 ⟨xs, c, m, v, e1, e2, e3⟩
            exact ⟨ys.length, Nat.lt_succ_self _, xs, c, m, v, e1, e2, e3⟩
          · have hl2 := M2.hl
            refine ⟨_, rfl, a, _, _, .ref l, rfl, rfl, SqL.of M2.ha, (by rfl), .inl ⟨rfl, _, SqL.of hl2⟩, l, _, 0, 0, .int y, rfl, rfl, hl2, by decide, by decide, (by rw [List.length_map]; exact seq0 _), rfl, _, rfl, ?_⟩
            have M3 : Mid a l (n + 1) H (upd (upd H1 p (.lst [])) l (.lst (ys.map V.int))) ys c0 m0 := ⟨by rw [upd_ne nal]; exact M2.ha, upd_same, by have := M2.len; simp at this; omega, M2.c0, M2.m0, M2.m1, but2_setl M2.but⟩
            have z0 : ((y :: ys).map V.int).eraseIdx 0 = ys.map V.int := rfl
            rw [z0]
            have cell0 : (0 : Int) ≤ (if y < 0 then -y else y) := by split <;> omega
            generalize (if y < 0 then -y else y) = cell at cell0 ⊢
            refine ⟨_, rfl, a, _, _, _, rfl, rfl, SqL.of M3.ha, (by rfl), _, _, rfl, rfl, .inl ⟨by have := M3.m0; omega, by have := M3.m1; omega⟩, _, rfl, _, _, rfl, rfl, _, _, rfl, rfl, .inl ⟨_, rfl, _, _, rfl, rfl, (show (0 : Int) < 2147483647 by decide), _, rfl, a, _, _, 3, rfl, rfl, M3.ha, (by rfl), ?_⟩⟩
            have r0 := Int.emod_nonneg (m0 * 8191 + cell + 3) (by decide : (2147483647 : Int) ≠ 0)
            have r1 := Int.emod_lt_of_pos (m0 * 8191 + cell + 3) (by decide : (0 : Int) < 2147483647)
            have M4 : Mid a l (n + 1) H (upd (upd (upd H1 p (.lst [])) l (.lst (ys.map V.int))) a (.lst [.ref l, .int c0, .int (n + 1), .int ((m0 * 8191 + cell + 3) % 2147483647)])) ys c0 ((m0 * 8191 + cell + 3) % 2147483647) :=
              ⟨upd_same, by rw [upd_ne nal.symm]; exact M3.hl, M3.len, M3.c0, r0, r1, but2_set M3.but⟩
            refine ⟨_, rfl, _, _, rfl, rfl, ⟨by decide, by decide, by decide⟩, _, _, rfl, rfl, _, rfl, ?_⟩
            have last : ∀ c2 : Int, 0 ≤ c2 → ∃ (xs : List Int) (c m : Int) (v : Option V), [some (V.ref a), some (V.int many), some (V.int cell), none, none] = [some (V.ref a), some (V.int many), v, none, none] ∧ Mid a l (n + 1) H (upd (upd (upd (upd H1 p (.lst [])) l (.lst (ys.map V.int))) a (.lst [.ref l, .int c0, .int (n + 1), .int ((m0 * 8191 + cell + 3) % 2147483647)])) a (.lst [.ref l, .int c2, .int (n + 1), .int ((m0 * 8191 + cell + 3) % 2147483647)])) xs c m ∧ ys.length = xs.length :=
              fun c2 hc2 => ⟨ys, c2, _, _, rfl, ⟨upd_same, by rw [upd_ne nal.symm]; exact M4.hl, M4.len, hc2, r0, r1, but2_set M4.but⟩, rfl⟩
            refine ite2 (fun hge => ?_) (fun hge => ?_)
            · exact ⟨_, rfl, _, rfl, a, _, _, 1, rfl, rfl, M4.ha, (by rfl), last _ cell0⟩
            · exact ⟨_, rfl, a, _, _, 1, rfl, rfl, M4.ha, (by rfl), last _ (Int.le_refl 0)⟩
      · refine iteF ?_
        exact ⟨xs, c0, m0, v, rfl, M⟩
    · rintro σ' H1 ⟨xs, c, m, v, rfl, M⟩
      have mod0 : ∀ z : Int, 0 ≤ z.fmod many ∧ z.fmod many < many := fun z => by
        rw [Int.fmod_eq_emod_of_nonneg z (by omega)]
        exact ⟨Int.emod_nonneg _ (by omega), Int.emod_lt_of_pos _ hm0⟩
      have c0 := M.c0
      have m0 := M.m0
      have m1 := M.m1
      have fin : ∀ (H2 : Hp) (c2 : Int), 0 ≤ c2 → H2 a = some (.lst [.ref l, .int c2, .int (n + 1), .int m]) → H2 l = some (.lst (xs.map V.int)) → Strm (N + 1) H2 a l := fun H2 c2 h0 ha hl => ⟨xs, c2, n + 1, m, ha, hl, M.len, h0, by omega, by omega, m0, m1⟩
      refine ⟨_, rfl, a, _, _, _, rfl, rfl, SqL.of M.ha, (by rfl), _, _, rfl, rfl, _, rfl, ite2 (fun hc => ?_) (fun hc => ?_)⟩
      · refine ⟨_, rfl, a, _, _, _, rfl, rfl, SqL.of M.ha, (by rfl), .inl ⟨_, rfl, _, rfl, _, _, rfl, rfl, (show many ≠ 0 by omega), ?_⟩⟩
        refine ⟨_, rfl, a, _, _, _, rfl, rfl, SqL.of M.ha, (by rfl), _, rfl, _, _, rfl, rfl, ⟨by omega, log_lt hm0 hm1⟩, _, rfl, a, _, _, 1, rfl, rfl, M.ha, (by rfl), _, rfl, ?_⟩
        refine k _ _ (mod0 c).1 (mod0 c).2 (but2_set M.but) (fin _ (c / many) ?_ upd_same (by rw [upd_ne nal.symm]; exact M.hl))
        exact Int.ediv_nonneg c0 (by omega)
      · refine ⟨_, rfl, a, _, _, _, rfl, rfl, SqL.of M.ha, (by rfl), _, rfl, a, _, _, _, rfl, rfl, SqL.of M.ha, (by rfl), _, _, rfl, rfl, .inl ⟨by decide, by decide⟩, _, _, rfl, rfl, _, _, rfl, rfl, _, _, rfl, rfl, ⟨by decide, by decide, ?_⟩, .inl ⟨_, rfl, _, _, rfl, rfl, (show (0 : Int) < 2147483629 by decide), ?_⟩⟩
        · show (m + 7919 * (n + 1) + 104729).natAbs < 2 ^ 64
          omega
        · have r0 := Int.emod_nonneg ((m + 7919 * (n + 1) + 104729) ^ (5 : Int).toNat) (by decide : (2147483629 : Int) ≠ 0)
          have r1 := Int.emod_lt_of_pos ((m + 7919 * (n + 1) + 104729) ^ (5 : Int).toNat) (by decide : (0 : Int) < 2147483629)
          refine ⟨_, rfl, _, _, rfl, rfl, .inl ⟨Int.lt_of_lt_of_le (by decide) r0, Int.lt_trans r1 (by decide)⟩, _, rfl, a, _, _, _, rfl, rfl, SqL.of M.ha, (by rfl), _, _, rfl, rfl, .inl ⟨by decide, by decide⟩, _, _, rfl, rfl, _, _, rfl, rfl, _, _, rfl, rfl, ⟨by decide, by decide, ?_⟩, .inl ⟨_, rfl, _, _, rfl, rfl, (show (0 : Int) < 1000000007 by decide), _, rfl, _, _, rfl, rfl, (show many ≠ 0 by omega), ?_⟩⟩
          · show ((m + 7919 * (n + 1) + 104729) ^ (5 : Int).toNat % 2147483629 * 48271 + 30011 * (n + 1) + 29).natAbs < 2 ^ 64
            generalize (m + 7919 * (n + 1) + 104729) ^ (5 : Int).toNat % 2147483629 = z at r0 r1
            omega
          · exact k _ _ (mod0 _).1 (mod0 _).2 M.but (fin _ c c0 M.ha M.hl)
theorem ok_pick {f fD : Addr} {fd fdD : FuncData} (F : Fun K "_law_pick" "_law_pick" sPick f fd) (T : Bt mg) (FD : Fun K "_law_draw" "_law_draw" sDraw fD fdD) (gD : mg "_law_draw" = some (.ref fD)) (bD : Binds K fdD ["_law_stream_here", "_law_many"] []) :
    FnOk P w K mg base CX0 2 f fd ["_law_stream_here", "_law_things"] spPick := by
  have GD : FnOk P w K mg base CX0 1 fD fdD ["_law_stream_here", "_law_many"] spDraw := ok_draw FD T
  refine F.ok scPick (fun vs H Q E h => ?_) (fun cdv A outer s H vs Q E hr h => ?_)
  · obtain ⟨a, l, p, N, xs, rfl, _⟩ := h
    rfl
  · obtain ⟨a, l, p, N, xs, rfl, S, hN0, hN1, hpa, hpl, hp, hx0, hx1, k⟩ := h
    refine ⟨_, pss_one (ps_ret (pe_ix ix_list (pv 1) (pe_call GD hr (by rfl) gD FD.kp bD .nil pass0 (pa_cons (pv 0) (pa_cons (pe_callB call_len_seq (by rfl) T.len PySem.boot_len (pa_cons (pv 1) pa_nil)) pa_nil))) (fun _ _ => rfl))), ?_⟩
    refine ⟨_, rfl, _, rfl, _, rfl, p, xs, rfl, .inl (SqL.of hp), a, l, N, (xs.length : Int), rfl, S, hN0, hN1, by omega, by omega, fun H' d d0 d1 b S' => ?_⟩
    have hd : d.toNat < xs.length := by omega
    have e : atI xs d = some xs[d.toNat] := at_of (j := d.toNat) (by omega) (List.getElem?_eq_getElem hd)
    exact ⟨p, xs, d, _, rfl, rfl, SqL.of (b _ _ hpa hpl hp), e, k H' _ (List.getElem_mem hd) b S'⟩
end
end K05

set_option Elab.async false
set_option linter.all false
set_option maxRecDepth 100000
set_option maxHeartbeats 4000000
namespace K05
open PySem PySem.Spec PyProof.Rows L2 Own
theorem scMixed : FnScope ["_law_stream_here", "_law_things", "_law_left", "_law_found", "_law_k"] ["_law_stream_here", "_law_things"] (defScope sMixed) := ⟨rfl, rfl, rfl, by decide +kernel, rfl, by decide +kernel, by decide +kernel⟩
/-- what was new behind a call was new ahead of it -/
theorem But2.fresh {N : Int} {a l p : Addr} {H H' : Hp} (b : But2 a l H H') (S : Strm N H' a l) (h : H' p = none) : H p = none := by
  obtain ⟨xs, c, n, m, h1, h2, _⟩ := S.ex
  cases e : H p with
  | none => rfl
  | some o =>
    rw [b p o (ne_of_none h1 h).symm (ne_of_none h2 h).symm e] at h
    cases h
theorem But2.refl {a l : Addr} {H : Hp} : But2 a l H H := fun _ _ _ _ e => e
theorem Strm.but {N : Int} {a l : Addr} {H H' : Hp} (S : Strm N H a l) (k : ∀ b o, H b = some o → H' b = some o) : Strm N H' a l := S.keep fun b o e _ => k b o e
/-- a draw's place and the list's are unlike new ones -/
theorem Strm.ne_new {N : Int} {a l p : Addr} {H : Hp} (S : Strm N H a l) (h : H p = none) : p ≠ a ∧ p ≠ l := by
  obtain ⟨xs, c, n, m, h1, h2, _⟩ := S.ex
  exact ⟨(ne_of_none h1 h).symm, (ne_of_none h2 h).symm⟩
def spMixed : Sp := fun vs H Q _ => ∃ (a l p : Addr) (N : Int) (xs : List V), vs = [.ref a, .ref p] ∧ Strm N H a l ∧ 0 ≤ N ∧ N + 100 ≤ 1000000000 ∧ p ≠ a ∧ p ≠ l ∧ H p = some (.lst xs) ∧ xs.length ≤ 100 ∧
  ∀ H' q ys, List.Perm ys xs → But2 a l H H' → H q = none → H' q = some (.lst ys) → Strm (N + 100) H' a l → Q (.ref q) H'
structure MixI (a l p pl pf : Addr) (N : Int) (xs : List V) (H0 : Hp) (i : Nat) (σ : L2.St) (H : Hp) : Prop where
  s : ∃ k, σ = [some (.ref a), some (.ref p), some (.ref pl), some (.ref pf), k]
  d : ∃ ls fs, H pl = some (.lst ls) ∧ H pf = some (.lst fs) ∧ ls.length + i = xs.length ∧ fs.length = i ∧ List.Perm (fs ++ ls) xs
  b : But2 a l H0 H
  t : Strm (N + i) H a l
theorem same_new {H : Hp} {p : Addr} {o : HO} (h : H p = none) : Same H (upd H p o) := fun b u e => by
  rw [upd_ne (ne_of_none e h)]
  exact e
theorem perm_erase : ∀ {ls : List V} {j : Nat} (h : j < ls.length), List.Perm ([ls[j]] ++ ls.eraseIdx j) ls
  | x :: r, 0, _ => .refl _
  | x :: r, j + 1, h => by
    have z := perm_erase (ls := r) (j := j) (Nat.lt_of_succ_lt_succ h)
    show List.Perm (r[j]'(Nat.lt_of_succ_lt_succ h) :: x :: r.eraseIdx j) (x :: r)
    exact .trans (.swap _ _ _) (.cons _ z)
theorem Strm.upd {N : Int} {a l p : Addr} {H : Hp} {o : HO} (S : Strm N H a l) (h1 : p ≠ a) (h2 : p ≠ l) : Strm N (L2.upd H p o) a l := by
  obtain ⟨xs, c, n, m, h3, h4, h5⟩ := S.ex
  exact ⟨xs, c, n, m, by rw [upd_ne h1.symm]; exact h3, by rw [upd_ne h2.symm]; exact h4, h5⟩
section
variable {P : Program} {w : World} {K : PySem.W.Frag} {mg : Str → Option Value} {base : Heap}
theorem ok_mixed {f fD : Addr} {fd fdD : FuncData} (F : Fun K "_law_mixed" "_law_mixed" sMixed f fd) (T : Bt mg) (FD : Fun K "_law_draw" "_law_draw" sDraw fD fdD) (gD : mg "_law_draw" = some (.ref fD)) (bD : Binds K fdD ["_law_stream_here", "_law_many"] []) :
    FnOk P w K mg base CX0 2 f fd ["_law_stream_here", "_law_things"] spMixed := by
  have GD : FnOk P w K mg base CX0 1 fD fdD ["_law_stream_here", "_law_many"] spDraw := ok_draw FD T
  refine F.ok scMixed (fun vs H Q E h => ?_) (fun cdv A outer s H vs Q E hr h => ?_)
  · obtain ⟨a, l, p, N, xs, rfl, _⟩ := h
    rfl
  · obtain ⟨a, l, p, N, xs, rfl, S, hN0, hN1, hpa, hpl, hp, hx, k⟩ := h
    refine ⟨_, (pss_cons (ps_par (i := 2) (j := 3) (by rfl) scMixed.nd rfl rfl (by decide) rfl rfl (pa_cons (pe_callTy call_list_of (by rfl) T.list (by decide +kernel) (pa_cons (pv 1) pa_nil)) (pa_cons (pe_lst pa_nil) pa_nil)) (by rfl))
  (pss_cons (ps_for PassesOwn.never rfl (pi_range1 (by rfl) T.range (pa_cons (pe_callB call_len_seq (by rfl) T.len (by decide +kernel) (pa_cons (pv 2) pa_nil)) pa_nil)) (pg_name (i := 4) (x := "_law_k") scMixed.nd rfl (Or.inl rfl)) (pss_one (ps_expr (pe_bm PySem.F.plainAttrs_list PySem.F.slot_list_append PySem.F.type_list_append mt_append (pv 3) (pa_cons (pe_bm PySem.F.plainAttrs_list PySem.F.slot_list_pop PySem.F.type_list_pop mt_popAt (pv 2) (pa_cons (pe_call GD hr (by rfl) gD FD.kp bD .nil pass0 (pa_cons (pv 0) (pa_cons (pe_callB call_len_seq (by rfl) T.len (by decide +kernel) (pa_cons (pv 2) pa_nil)) pa_nil))) pa_nil)) pa_nil)))))
  (pss_one (ps_ret (pv 3))))), ?_⟩
    refine ⟨_, rfl, p, xs, rfl, .inl (SqL.of hp), fun pl hpl0 => ⟨Nat.zero_le _, fun pf hpf => ⟨_, _, rfl, ?_⟩⟩⟩
    have ⟨n1, n2⟩ := S.ne_new hpl0
    have S1 : Strm N (upd H pl (.lst xs)) a l := S.but fun b o e => same_new hpl0 b o e
    have ⟨n3, n4⟩ := S1.ne_new hpf
    have S2 : Strm N (upd (upd H pl (.lst xs)) pf (.lst [])) a l := S1.but fun b o e => same_new hpf b o e
    have npf : pl ≠ pf := ne_of_none (H := upd H pl (.lst xs)) upd_same hpf
    have hf0 : H pf = none := by
      rw [upd_ne npf.symm] at hpf
      exact hpf
    have b0 : But2 a l H (upd (upd H pl (.lst xs)) pf (.lst [])) := but2_new (but2_new But2.refl hpl0) hpf
    refine ⟨_, rfl, pl, xs, rfl, .inl (SqL.of (by rw [upd_ne npf]; exact upd_same)), _, rfl, by omega, by omega, ?_⟩
    refine for_range (MixI a l p pl pf N xs H) ⟨⟨_, rfl⟩, ⟨xs, [], by rw [upd_ne npf]; exact upd_same, upd_same, rfl, rfl, .refl _⟩, b0, by simpa using S2⟩ (fun i σ H1 hi w => ?_) (fun σ H1 w => ?_)
    · obtain ⟨⟨k0, rfl⟩, ⟨ls, fs, hl, hf, e1, e2, pm⟩, bt, st⟩ := w
      have hi' : i < xs.length := by omega
      have e0 : (xs.length : Int).toNat = xs.length := by omega
      refine ⟨_, rfl, .inl ⟨rfl, _, SqL.of hf⟩, _, rfl, .inl ⟨rfl, _, SqL.of hl⟩, _, rfl, _, rfl, pl, ls, rfl, .inl (SqL.of hl), a, l, _, _, rfl, st, by omega, by omega, by omega, by omega, fun H2 d d0 d1 b2 st2 => ?_⟩
      have hl2 := b2 _ _ n1 n2 hl
      have hf2 := b2 _ _ n3 n4 hf
      have hd : d.toNat < ls.length := by omega
      refine ⟨pl, ls, d, d.toNat, ls[d.toNat], rfl, rfl, hl2, by omega, by omega, (ixN_seq (n := ls.length) (i := d) (j := d.toNat) ?_).1, List.getElem?_eq_getElem hd, ?_⟩
      · unfold ixN
        rw [if_pos d0, if_pos d1]
      refine ⟨pf, fs, _, rfl, rfl, ?_, ?_, ?_⟩
      · rw [upd_ne npf.symm]
        exact hf2
      · rw [e2]
        exact Nat.lt_of_lt_of_le (Nat.lt_of_lt_of_le hi' hx) (by decide)
      · refine ⟨⟨_, rfl⟩, ⟨ls.eraseIdx d.toNat, fs ++ [ls[d.toNat]], ?_, upd_same, ?_, ?_, ?_⟩, ?_, ?_⟩
        · rw [upd_ne npf]
          exact upd_same
        · rw [List.length_eraseIdx_of_lt hd]
          omega
        · rw [List.length_append, e2]
          rfl
        · refine List.Perm.trans ?_ pm
          rw [List.append_assoc]
          refine List.Perm.append_left fs ?_
          exact perm_erase hd
        · exact fun b o h1 h2 e => by
            have z := bt b o h1 h2 e
            have z1 := b2 _ _ h1 h2 z
            have q1 : b ≠ pl := ne_of_none e hpl0
            have q2 : b ≠ pf := ne_of_none e hf0
            rw [upd_ne q2, upd_ne q1]
            exact z1
        · have z : N + ((i + 1 : Nat) : Int) = N + i + 1 := by omega
          rw [z]
          refine (st2.upd n1 n2).upd n3 n4
    · obtain ⟨⟨k0, rfl⟩, ⟨ls, fs, hl, hf, e1, e2, pm⟩, bt, st⟩ := w
      have e0 : (xs.length : Int).toNat = xs.length := by omega
      rw [e0] at e1 e2 st
      have ln : ls = [] := List.eq_nil_of_length_eq_zero (by omega)
      rw [ln, List.append_nil] at pm
      refine ⟨_, rfl, k _ pf fs pm bt hf0 hf (st.mono (by omega))⟩
end
end K05

set_option Elab.async false
set_option linter.all false
set_option maxRecDepth 100000
set_option maxHeartbeats 8000000
namespace K05
open PySem PySem.Spec PyProof.Rows L2 Own
section
variable {X : Cx} {e : Expr} {g g2 : TG}
theorem pg_or (h : PG X e g) (h2 : PG X e g2) : PG X e (fun v σ H Q => g v σ H Q ∨ g2 v σ H Q) := ⟨fun pins s σ H v u Q I r hw => by
  rcases hw with hw | hw
  · exact h.run pins s σ H v u Q I r hw
  · exact h2.run pins s σ H v u Q I r hw⟩
end
/-! ### kinds of values -/
def atomV : V → Bool
  | .non => true
  | .bl _ => true
  | .int _ => true
  | .str _ => true
  | _ => false
/-- an atom, a list, a tuple or a dict -/
def Shp (H : Hp) (v : V) : Prop := atomV v = true ∨ (∃ a xs, v = .ref a ∧ H a = some (.lst xs)) ∨ (∃ a xs, v = .ref a ∧ H a = some (.tup xs)) ∨ ∃ a kvs, v = .ref a ∧ H a = some (.dK kvs)
theorem Shp.same {H H' : Hp} {v : V} (h : Shp H v) (e : Same H H') : Shp H' v := by
  rcases h with h | ⟨a, xs, h1, h2⟩ | ⟨a, xs, h1, h2⟩ | ⟨a, xs, h1, h2⟩
  · exact .inl h
  · exact .inr (.inl ⟨a, xs, h1, e _ _ h2⟩)
  · exact .inr (.inr (.inl ⟨a, xs, h1, e _ _ h2⟩))
  · exact .inr (.inr (.inr ⟨a, xs, h1, e _ _ h2⟩))
theorem shp_int {H : Hp} (i : Int) : Shp H (.int i) := .inl rfl
/-- what a list or a tuple holds -/
def seqOf (H : Hp) : V → Option (List V)
  | .ref a => match H a with
    | some (.lst xs) => some xs
    | some (.tup xs) => some xs
    | _ => none
  | _ => none
theorem seq_same {H H' : Hp} {v : V} (h : Shp H v) (e : Same H H') : seqOf H' v = seqOf H v := by
  rcases h with h | ⟨a, xs, rfl, h2⟩ | ⟨a, xs, rfl, h2⟩ | ⟨a, xs, rfl, h2⟩
  · cases v <;> first | rfl | cases h
  · show (match H' a with | some (.lst xs) => some xs | some (.tup xs) => some xs | _ => none) = (match H a with | some (.lst xs) => some xs | some (.tup xs) => some xs | _ => none)
    rw [h2, e _ _ h2]
  · show (match H' a with | some (.lst xs) => some xs | some (.tup xs) => some xs | _ => none) = (match H a with | some (.lst xs) => some xs | some (.tup xs) => some xs | _ => none)
    rw [h2, e _ _ h2]
  · show (match H' a with | some (.lst xs) => some xs | some (.tup xs) => some xs | _ => none) = (match H a with | some (.lst xs) => some xs | some (.tup xs) => some xs | _ => none)
    rw [h2, e _ _ h2]
theorem seq_lst {H : Hp} {a : Addr} {xs : List V} (h : H a = some (.lst xs)) : seqOf H (.ref a) = some xs := by
  show (match H a with | some (.lst xs) => some xs | some (.tup xs) => some xs | _ => none) = some xs
  rw [h]
theorem seq_tup {H : Hp} {a : Addr} {xs : List V} (h : H a = some (.tup xs)) : seqOf H (.ref a) = some xs := by
  show (match H a with | some (.lst xs) => some xs | some (.tup xs) => some xs | _ => none) = some xs
  rw [h]
theorem seq_atom {H : Hp} {v : V} (h : atomV v = true) : seqOf H v = none := by
  cases v <;> first | rfl | cases h
theorem seq_dic {H : Hp} {a : Addr} {kvs : List (Key × V)} (h : H a = some (.dK kvs)) : seqOf H (.ref a) = none := by
  show (match H a with | some (.lst xs) => some xs | some (.tup xs) => some xs | _ => none) = none
  rw [h]
def isI : V → Bool
  | .int _ => true
  | _ => false
def isN : V → Bool
  | .int i => decide (0 ≤ i)
  | _ => false
def isP (n : Int) : V → Bool
  | .int i => decide (0 ≤ i) && decide (i < n)
  | _ => false
/-! ### types -/
def TyS (K : PySem.W.Frag) (H : Hp) (x : V) (T : String) : Prop := ∀ H', Same H H' → TyX K H' x (.type T)
theorem TyS.grow {K : PySem.W.Frag} {H H' : Hp} {x : V} {T : String} (h : TyS K H x T) (e : Same H H') : TyS K H' x T := fun H2 e2 => h H2 (e.trans e2)
theorem TyS.now {K : PySem.W.Frag} {H : Hp} {x : V} {T : String} (h : TyS K H x T) : TyX K H x (.type T) := h H (Same.refl H)
theorem kit2 {K : PySem.W.Frag} {T a b : String} {x y r : Bool} (ha : kitB T a = some x) (hb : kitB T b = some y) (h : (x || y) = r) : PySem.W.kitAny K (.type T) [.type a, .type b] = some r := by
  subst h
  refine kitAny_cons (kit_ty ha) (fun e => ?_) (fun e => by rw [e]; rfl)
  rw [e]
  refine kitAny_cons (kit_ty hb) (fun e => ?_) (fun e => by rw [e]; rfl)
  rw [e]
  exact kitAny_nil
theorem shp_ty {K : PySem.W.Frag} {H : Hp} {v : V} (h : Shp H v) : ∃ (T : String) (i b l t s : Bool), TyS K H v T ∧ kitB T "int" = some i ∧ kitB T "bool" = some b ∧ kitB T "list" = some l ∧ kitB T "tuple" = some t ∧ kitB T "str" = some s ∧
    isI v = (i && !b) ∧ (seqOf H v).isSome = (l || t) ∧ (s = true → ∃ z, v = .str z) ∧ (∀ z, v = .str z → s = true) := by
  rcases h with h | ⟨a, xs, rfl, h2⟩ | ⟨a, xs, rfl, h2⟩ | ⟨a, xs, rfl, h2⟩
  · cases v with
    | non => exact ⟨"NoneType", false, false, false, false, false, fun _ _ => .base .non, by decide +kernel, by decide +kernel, by decide +kernel, by decide +kernel, by decide +kernel, rfl, rfl, fun z => (by cases z), fun z e => (by cases e)⟩
    | bl b => exact ⟨"bool", true, true, false, false, false, fun _ _ => .base (.bl b), by decide +kernel, by decide +kernel, by decide +kernel, by decide +kernel, by decide +kernel, rfl, rfl, fun z => (by cases z), fun z e => (by cases e)⟩
    | int i => exact ⟨"int", true, false, false, false, false, fun _ _ => .base (.int i), by decide +kernel, by decide +kernel, by decide +kernel, by decide +kernel, by decide +kernel, rfl, rfl, fun z => (by cases z), fun z e => (by cases e)⟩
    | str x => exact ⟨"str", false, false, false, false, true, fun _ _ => .base (.str x), by decide +kernel, by decide +kernel, by decide +kernel, by decide +kernel, by decide +kernel, rfl, rfl, fun _ => ⟨x, rfl⟩, fun _ _ => rfl⟩
    | _ => cases h
  · exact ⟨"list", false, false, true, false, false, fun H' e => .base (.lst (e _ _ h2)), by decide +kernel, by decide +kernel, by decide +kernel, by decide +kernel, by decide +kernel, rfl, by rw [seq_lst h2]; rfl, fun z => (by cases z), fun z e => (by cases e)⟩
  · exact ⟨"tuple", false, false, false, true, false, fun H' e => .base (.tup (e _ _ h2)), by decide +kernel, by decide +kernel, by decide +kernel, by decide +kernel, by decide +kernel, rfl, by rw [seq_tup h2]; rfl, fun z => (by cases z), fun z e => (by cases e)⟩
  · exact ⟨"dict", false, false, false, false, false, fun H' e => .base (.dK (e _ _ h2)), by decide +kernel, by decide +kernel, by decide +kernel, by decide +kernel, by decide +kernel, rfl, by rw [seq_dic h2]; rfl, fun z => (by cases z), fun z e => (by cases e)⟩
/-! ### is_integer, is_number, is_list, is_place -/
def spInt : Sp := fun vs H Q _ => ∃ v, vs = [v] ∧ Shp H v ∧ Q (.bl (isI v)) H
def spNum : Sp := fun vs H Q _ => ∃ v, vs = [v] ∧ Shp H v ∧ Q (.bl (isN v)) H
def spLst : Sp := fun vs H Q _ => ∃ v, vs = [v] ∧ Shp H v ∧ ∀ H', Same H H' → Q (.bl (seqOf H v).isSome) H'
def spPlace : Sp := fun vs H Q _ => ∃ (n : Int) (v : V), vs = [.int n, v] ∧ Shp H v ∧ Q (.bl (isP n v)) H
theorem scIsInt : FnScope ["thing"] ["thing"] (defScope sIsInt) := ⟨rfl, rfl, rfl, by decide +kernel, rfl, by decide +kernel, by decide +kernel⟩
theorem scIsNum : FnScope ["thing"] ["thing"] (defScope sIsNum) := ⟨rfl, rfl, rfl, by decide +kernel, rfl, by decide +kernel, by decide +kernel⟩
theorem scIsList : FnScope ["thing"] ["thing"] (defScope sIsList) := ⟨rfl, rfl, rfl, by decide +kernel, rfl, by decide +kernel, by decide +kernel⟩
theorem scIsPlace : FnScope ["places", "thing"] ["places", "thing"] (defScope sIsPlace) := ⟨rfl, rfl, rfl, by decide +kernel, rfl, by decide +kernel, by decide +kernel⟩
section
variable {P : Program} {w : World} {K : PySem.W.Frag} {mg : Str → Option Value} {base : Heap}
theorem ok_isInt {f : Addr} {fd : FuncData} (F : Fun K "is_integer" "is_integer" sIsInt f fd) (T : Bt mg) : FnOk P w K mg base CX0 1 f fd ["thing"] spInt := by
  refine F.ok scIsInt (fun vs H Q E h => ?_) (fun cdv A outer s H vs Q E hr h => ?_)
  · obtain ⟨v, rfl, _⟩ := h
    rfl
  · obtain ⟨v, rfl, hv, k⟩ := h
    refine ⟨_, (pss_one (ps_ret (pe_and (pe_callB call_isi (by rfl) T.isi (by decide +kernel) (pa_cons (pv 0) (pa_cons (pe_bltn (v := .ty "int") (by rfl) T.int (by decide +kernel) rfl) pa_nil))) (pe_one (pe_not (pe_callB call_isi (by rfl) T.isi (by decide +kernel) (pa_cons (pv 0) (pa_cons (pe_bltn (v := .ty "bool") (by rfl) T.bool (by decide +kernel) rfl) pa_nil)))))))), ?_⟩
    obtain ⟨Ty, i, b, l, t, s, ty, ki, kb, kl, kt, ks, e1, e2, _⟩ := shp_ty (K := K) hv
    refine ⟨_, rfl, _, _, _, _, i, rfl, .ty _, ty.now, kit_ty ki, i, rfl, ?_⟩
    cases i with
    | true =>
      refine iteT ⟨_, rfl, _, _, _, _, b, rfl, .ty _, ty.now, kit_ty kb, b, rfl, ?_⟩
      rw [e1] at k
      exact k
    | false =>
      refine iteF ?_
      rw [e1] at k
      exact k
theorem ok_isNum {f fI : Addr} {fd fdI : FuncData} (F : Fun K "is_number" "is_number" sIsNum f fd) (T : Bt mg) (FI : Fun K "is_integer" "is_integer" sIsInt fI fdI) (gI : mg "is_integer" = some (.ref fI)) (bI : Binds K fdI ["thing"] []) : FnOk P w K mg base CX0 2 f fd ["thing"] spNum := by
  have GI : FnOk P w K mg base CX0 1 fI fdI ["thing"] spInt := ok_isInt FI T
  refine F.ok scIsNum (fun vs H Q E h => ?_) (fun cdv A outer s H vs Q E hr h => ?_)
  · obtain ⟨v, rfl, _⟩ := h
    rfl
  · obtain ⟨v, rfl, hv, k⟩ := h
    refine ⟨_, (pss_one (ps_ret (pe_and (pe_call GI hr (by rfl) gI FI.kp bI .nil pass0 (pa_cons (pv 0) pa_nil)) (pe_one (pe_cmpR op_ge (pv 0) pe_int (nomark _)))))), ?_⟩
    refine ⟨_, rfl, v, rfl, hv, _, rfl, ?_⟩
    cases v with
    | int i => exact iteT ⟨_, rfl, _, _, rfl, rfl, k⟩
    | _ => exact iteF k
theorem ok_isLst {f : Addr} {fd : FuncData} (F : Fun K "is_list" "is_list" sIsList f fd) (T : Bt mg) : FnOk P w K mg base CX0 1 f fd ["thing"] spLst := by
  refine F.ok scIsList (fun vs H Q E h => ?_) (fun cdv A outer s H vs Q E hr h => ?_)
  · obtain ⟨v, rfl, _⟩ := h
    rfl
  · obtain ⟨v, rfl, hv, k⟩ := h
    refine ⟨_, (pss_one (ps_ret (pe_callB call_isiT (by rfl) T.isi (by decide +kernel) (pa_cons (pv 0) (pa_cons (pe_tup (pa_cons (pe_bltn (v := .ty "list") (by rfl) T.list (by decide +kernel) rfl) (pa_cons (pe_bltn (v := .ty "tuple") (by rfl) T.tuple (by decide +kernel) rfl) pa_nil))) pa_nil))))), ?_⟩
    obtain ⟨Ty, i, b, l, t, s, ty, ki, kb, kl, kt, ks, e1, e2, _⟩ := shp_ty (K := K) hv
    refine ⟨_, rfl, (by show 2 ≤ sizeLine; decide), fun tp htp => ?_⟩
    have e3 := same_new (o := HO.tup [V.ty "list", V.ty "tuple"]) htp
    refine ⟨_, tp, _, _, _, l || t, rfl, upd_same, .cons (.ty _) (.cons (.ty _) .nil), (ty.grow e3).now, kit2 kl kt rfl, ?_⟩
    rw [← e2]
    exact k _ e3
theorem ok_isPlace {f fI fN : Addr} {fd fdI fdN : FuncData} (F : Fun K "is_place" "is_place" sIsPlace f fd) (T : Bt mg) (FI : Fun K "is_integer" "is_integer" sIsInt fI fdI) (gI : mg "is_integer" = some (.ref fI)) (bI : Binds K fdI ["thing"] [])
    (FN : Fun K "is_number" "is_number" sIsNum fN fdN) (gN : mg "is_number" = some (.ref fN)) (bN : Binds K fdN ["thing"] []) : FnOk P w K mg base CX0 3 f fd ["places", "thing"] spPlace := by
  have GN : FnOk P w K mg base CX0 2 fN fdN ["thing"] spNum := ok_isNum FN T FI gI bI
  refine F.ok scIsPlace (fun vs H Q E h => ?_) (fun cdv A outer s H vs Q E hr h => ?_)
  · obtain ⟨n, v, rfl, _⟩ := h
    rfl
  · obtain ⟨n, v, rfl, hv, k⟩ := h
    refine ⟨_, (pss_one (ps_ret (pe_and (pe_call GN hr (by rfl) gN FN.kp bN .nil pass0 (pa_cons (pv 1) pa_nil)) (pe_one (pe_cmpR op_lt (pv 1) (pv 0) (nomark _)))))), ?_⟩
    refine ⟨_, rfl, v, rfl, hv, _, rfl, ?_⟩
    cases v with
    | int i =>
      refine ite2 (fun h0 => ?_) (fun h0 => ?_)
      · refine ⟨_, rfl, _, rfl, _, _, rfl, rfl, ?_⟩
        have e : isP n (.int i) = decide (i < n) := by
          show (decide (0 ≤ i) && decide (i < n)) = decide (i < n)
          rw [show decide (0 ≤ i) = true from h0]
          rfl
        rw [e] at k
        exact k
      · have e : isP n (.int i) = false := by
          show (decide (0 ≤ i) && decide (i < n)) = false
          rw [show decide (0 ≤ i) = false from Bool.eq_false_iff.mpr h0]
          rfl
        rw [e] at k
        exact k
    | _ => exact iteF k
end
end K05

set_option Elab.async false
set_option linter.all false
set_option maxRecDepth 100000
set_option maxHeartbeats 8000000
namespace K05
open PySem PySem.Spec PyProof.Rows L2 Own
def isRoad (n : Int) : Option (List V) → Bool
  | some [x, y, l, r] => isP n x && (isP n y && (!decide (x = y) && (isN l && (isN r && !decide (r = .int 0)))))
  | _ => false
def isIO : V → Bool
  | .str z => inV (.str z) [.str "in", .str "out"]
  | _ => false
def isDoor (n : Int) : Option (List V) → Bool
  | some [s, p, h] => isIO s && (isP n p && isN h)
  | _ => false
def spRoad : Sp := fun vs H Q _ => ∃ (n : Int) (v : V), vs = [.int n, v] ∧ Shp H v ∧ (∀ xs, seqOf H v = some xs → ∀ x ∈ xs, Shp H x) ∧ ∀ H', Same H H' → Q (.bl (isRoad n (seqOf H v))) H'
def spDoor : Sp := fun vs H Q _ => ∃ (n : Int) (v : V), vs = [.int n, v] ∧ Shp H v ∧ (∀ xs, seqOf H v = some xs → ∀ x ∈ xs, Shp H x) ∧ ∀ H', Same H H' → Q (.bl (isDoor n (seqOf H v))) H'
theorem scIsRoad : FnScope ["places", "thing", "begin", "end", "length", "room"] ["places", "thing"] (defScope sIsRoad) := ⟨rfl, rfl, rfl, by decide +kernel, rfl, by decide +kernel, by decide +kernel⟩
theorem scIsDoor : FnScope ["places", "thing", "sort", "place", "hour"] ["places", "thing"] (defScope sIsDoor) := ⟨rfl, rfl, rfl, by decide +kernel, rfl, by decide +kernel, by decide +kernel⟩
theorem sq_of {K : PySem.W.Frag} {H : Hp} {v : V} {xs : List V} (h : Shp H v) (e : seqOf H v = some xs) : ∃ a, v = .ref a ∧ (H a = some (.lst xs) ∨ H a = some (.tup xs)) := by
  rcases h with h | ⟨a, ys, rfl, h2⟩ | ⟨a, ys, rfl, h2⟩ | ⟨a, ys, rfl, h2⟩
  · rw [seq_atom h] at e
    cases e
  · rw [seq_lst h2] at e
    exact ⟨a, rfl, .inl (by rw [h2, Option.some.inj e])⟩
  · rw [seq_tup h2] at e
    exact ⟨a, rfl, .inr (by rw [h2, Option.some.inj e])⟩
  · rw [seq_dic h2] at e
    cases e
theorem isRoad_len {n : Int} {xs : List V} (h : xs.length ≠ 4) : isRoad n (some xs) = false := by
  match xs, h with
  | [], _ => rfl
  | [_], _ => rfl
  | [_, _], _ => rfl
  | [_, _, _], _ => rfl
  | [_, _, _, _], h => exact absurd rfl h
  | _ :: _ :: _ :: _ :: _ :: _, _ => rfl
theorem isDoor_len {n : Int} {xs : List V} (h : xs.length ≠ 3) : isDoor n (some xs) = false := by
  match xs, h with
  | [], _ => rfl
  | [_], _ => rfl
  | [_, _], _ => rfl
  | [_, _, _], h => exact absurd rfl h
  | _ :: _ :: _ :: _ :: _, _ => rfl
theorem isP_int {n : Int} {v : V} (h : isP n v = true) : ∃ i, v = .int i := by
  cases v <;> first | exact ⟨_, rfl⟩ | cases h
theorem isN_int {v : V} (h : isN v = true) : ∃ i, v = .int i ∧ 0 ≤ i := by
  cases v with
  | int i => exact ⟨i, rfl, of_decide_eq_true h⟩
  | _ => cases h
section
variable {P : Program} {w : World} {K : PySem.W.Frag} {mg : Str → Option Value} {base : Heap}
theorem ok_isRoad {f fI fN fL fPl : Addr} {fd fdI fdN fdL fdPl : FuncData} (F : Fun K "is_road" "is_road" sIsRoad f fd) (T : Bt mg) (FI : Fun K "is_integer" "is_integer" sIsInt fI fdI) (gI : mg "is_integer" = some (.ref fI)) (bI : Binds K fdI ["thing"] [])
    (FN : Fun K "is_number" "is_number" sIsNum fN fdN) (gN : mg "is_number" = some (.ref fN)) (bN : Binds K fdN ["thing"] []) (FL : Fun K "is_list" "is_list" sIsList fL fdL) (gL : mg "is_list" = some (.ref fL)) (bL : Binds K fdL ["thing"] [])
    (FPl : Fun K "is_place" "is_place" sIsPlace fPl fdPl) (gPl : mg "is_place" = some (.ref fPl)) (bPl : Binds K fdPl ["places", "thing"] []) : FnOk P w K mg base CX0 4 f fd ["places", "thing"] spRoad := by
  have GN : FnOk P w K mg base CX0 2 fN fdN ["thing"] spNum := ok_isNum FN T FI gI bI
  have GL : FnOk P w K mg base CX0 1 fL fdL ["thing"] spLst := ok_isLst FL T
  have GPl : FnOk P w K mg base CX0 3 fPl fdPl ["places", "thing"] spPlace := ok_isPlace FPl T FI gI bI FN gN bN
  refine F.ok scIsRoad (fun vs H Q E h => ?_) (fun cdv A outer s H vs Q E hr h => ?_)
  · obtain ⟨n, v, rfl, _⟩ := h
    rfl
  · obtain ⟨n, v, rfl, hv, hi, k⟩ := h
    refine ⟨_, (pss_cons (ps_if (PW.pt (pw_or (pt_not (pt_val (pe_call GL (hr.mono (by decide)) (by rfl) gL FL.kp bL .nil pass0 (pa_cons (pv 1) pa_nil)))) (pw_or1 (pt_cmpR op_ne (pe_callB call_len_seq (by rfl) T.len (by decide +kernel) (pa_cons (pv 1) pa_nil)) pe_int (nomark _))))) (pss_one (ps_ret pe_bl)) pss_nil)
  (Evl.pss_cut (ps_asg (pv 1) (pg_or (pg_tup rfl (pgs_cons (pg_name (i := 2) (x := "begin") scIsRoad.nd rfl (Or.inl rfl)) (pgs_cons (pg_name (i := 3) (x := "end") scIsRoad.nd rfl (Or.inl rfl)) (pgs_cons (pg_name (i := 4) (x := "length") scIsRoad.nd rfl (Or.inl rfl)) (pgs_cons (pg_name (i := 5) (x := "room") scIsRoad.nd rfl (Or.inl rfl)) pgs_nil))))) (pg_unl rfl (pgs_cons (pg_name (i := 2) (x := "begin") scIsRoad.nd rfl (Or.inl rfl)) (pgs_cons (pg_name (i := 3) (x := "end") scIsRoad.nd rfl (Or.inl rfl)) (pgs_cons (pg_name (i := 4) (x := "length") scIsRoad.nd rfl (Or.inl rfl)) (pgs_cons (pg_name (i := 5) (x := "room") scIsRoad.nd rfl (Or.inl rfl)) pgs_nil)))))))
  (pss_cons (ps_if (PW.pt (pw_or (pt_not (pt_val (pe_call GPl hr (by rfl) gPl FPl.kp bPl .nil pass0 (pa_cons (pv 0) (pa_cons (pv 2) pa_nil))))) (pw_or (pt_not (pt_val (pe_call GPl hr (by rfl) gPl FPl.kp bPl .nil pass0 (pa_cons (pv 0) (pa_cons (pv 3) pa_nil))))) (pw_or1 (pt_cmpR op_eq (pv 2) (pv 3) (nomark _)))))) (pss_one (ps_ret pe_bl)) pss_nil)
  (pss_one (ps_ret (pe_and (pe_call GN (hr.mono (by decide)) (by rfl) gN FN.kp bN .nil pass0 (pa_cons (pv 4) pa_nil)) (pe_and (pe_call GN (hr.mono (by decide)) (by rfl) gN FN.kp bN .nil pass0 (pa_cons (pv 5) pa_nil)) (pe_one (pe_cmpR op_gt (pv 5) pe_int (nomark _)))))))))), ?_⟩
    refine ⟨_, rfl, v, rfl, hv, fun H1 e1 => ⟨_, rfl, ?_⟩⟩
    cases hs : seqOf H v with
    | none =>
      rw [hs] at k
      exact k _ e1
    | some xs =>
      rw [hs] at k
      obtain ⟨a, rfl, ha⟩ := sq_of (K := K) hv hs
      refine iteF ⟨_, rfl, a, xs, rfl, ?_, rfl, _, rfl, ?_⟩
      · rcases ha with ha | ha
        · exact .inl (SqL.of (e1 _ _ ha))
        · exact .inr (SqT.of (e1 _ _ ha))
      refine ite2 (fun hc => ?_) (fun hc => ?_)
      · rw [isRoad_len (fun z => by rw [z] at hc; cases hc)] at k
        exact k _ e1
      · have hl : xs.length = 4 := by
          have z : decide (V.int (xs.length : Nat) = V.int 4) = true := by simpa using hc
          exact Int.ofNat.inj (V.int.inj (of_decide_eq_true z))
        match xs, hl with
        | [x, y, l, r], _ =>
          have sh := hi _ hs
          have sx := (sh x (by simp)).same e1
          have sy := (sh y (by simp)).same e1
          have sl := (sh l (by simp)).same e1
          have sr := (sh r (by simp)).same e1
          refine ⟨fun σ' H' => H' = H1 ∧ σ' = [some (.int n), some (.ref a), some x, some y, some l, some r], ?_, ?_⟩
          · refine ⟨_, rfl, ?_⟩
            rcases ha with ha | ha
            · exact .inr ⟨a, _, rfl, SqL.of (e1 _ _ ha), rfl, _, _, rfl, _, _, rfl, _, _, rfl, _, _, rfl, rfl, rfl, rfl⟩
            · exact .inl ⟨a, _, rfl, SqT.of (e1 _ _ ha), rfl, _, _, rfl, _, _, rfl, _, _, rfl, _, _, rfl, rfl, rfl, rfl⟩
          · rintro σ' H' ⟨rfl, rfl⟩
            have no : isRoad n (some [x, y, l, r]) = false → Q (.bl false) H' := fun z => by
              rw [z] at k
              exact k _ e1
            refine ⟨_, rfl, _, rfl, n, x, rfl, sx, _, rfl, ?_⟩
            cases hx : isP n x with
            | false => exact no (by show (isP n x && _) = false; rw [hx]; rfl)
            | true =>
              refine ⟨_, rfl, _, rfl, n, y, rfl, sy, _, rfl, ?_⟩
              cases hy : isP n y with
              | false => exact no (by show (isP n x && (isP n y && _)) = false; rw [hx, hy]; rfl)
              | true =>
                obtain ⟨xi, rfl⟩ := isP_int hx
                obtain ⟨yi, rfl⟩ := isP_int hy
                refine ⟨_, rfl, _, rfl, rfl, _, rfl, ite2 (fun hc => ?_) (fun hc => ?_)⟩
                · exact no (by show (isP n _ && (isP n _ && (!decide (V.int xi = V.int yi) && _))) = false; rw [hx, hy, hc]; rfl)
                · have hxy : decide (V.int xi = V.int yi) = false := Bool.eq_false_iff.mpr hc
                  have e : isRoad n (some [.int xi, .int yi, l, r]) = (isN l && (isN r && !decide (r = .int 0))) := by
                    show (isP n _ && (isP n _ && (!decide (V.int xi = V.int yi) && _))) = _
                    rw [hx, hy, hxy]
                    rfl
                  rw [e] at k
                  refine ⟨_, rfl, l, rfl, sl, _, rfl, ?_⟩
                  cases hl : isN l with
                  | false =>
                    rw [hl] at k
                    exact k _ e1
                  | true =>
                    rw [hl] at k
                    refine ⟨_, rfl, r, rfl, sr, _, rfl, ?_⟩
                    cases hr' : isN r with
                    | false =>
                      rw [hr'] at k
                      exact k _ e1
                    | true =>
                      rw [hr'] at k
                      obtain ⟨ri, rfl, r0⟩ := isN_int hr'
                      refine ⟨_, rfl, _, _, rfl, rfl, ?_⟩
                      have z : decide (ri > 0) = (true && (true && !decide (V.int ri = V.int 0))) := by
                        by_cases q : ri = 0
                        · rw [q]
                          rfl
                        · rw [decide_eq_true (show ri > 0 by omega), decide_eq_false (fun w => q (V.int.inj w))]
                          rfl
                      have k2 := k _ e1
                      rw [← z] at k2
                      exact k2
theorem ok_isDoor {f fI fN fL fPl : Addr} {fd fdI fdN fdL fdPl : FuncData} (F : Fun K "is_door" "is_door" sIsDoor f fd) (T : Bt mg) (FI : Fun K "is_integer" "is_integer" sIsInt fI fdI) (gI : mg "is_integer" = some (.ref fI)) (bI : Binds K fdI ["thing"] [])
    (FN : Fun K "is_number" "is_number" sIsNum fN fdN) (gN : mg "is_number" = some (.ref fN)) (bN : Binds K fdN ["thing"] []) (FL : Fun K "is_list" "is_list" sIsList fL fdL) (gL : mg "is_list" = some (.ref fL)) (bL : Binds K fdL ["thing"] [])
    (FPl : Fun K "is_place" "is_place" sIsPlace fPl fdPl) (gPl : mg "is_place" = some (.ref fPl)) (bPl : Binds K fdPl ["places", "thing"] []) : FnOk P w K mg base CX0 4 f fd ["places", "thing"] spDoor := by
  have GN : FnOk P w K mg base CX0 2 fN fdN ["thing"] spNum := ok_isNum FN T FI gI bI
  have GL : FnOk P w K mg base CX0 1 fL fdL ["thing"] spLst := ok_isLst FL T
  have GPl : FnOk P w K mg base CX0 3 fPl fdPl ["places", "thing"] spPlace := ok_isPlace FPl T FI gI bI FN gN bN
  refine F.ok scIsDoor (fun vs H Q E h => ?_) (fun cdv A outer s H vs Q E hr h => ?_)
  · obtain ⟨n, v, rfl, _⟩ := h
    rfl
  · obtain ⟨n, v, rfl, hv, hi, k⟩ := h
    refine ⟨_, (pss_cons (ps_if (PW.pt (pw_or (pt_not (pt_val (pe_call GL (hr.mono (by decide)) (by rfl) gL FL.kp bL .nil pass0 (pa_cons (pv 1) pa_nil)))) (pw_or1 (pt_cmpR op_ne (pe_callB call_len_seq (by rfl) T.len (by decide +kernel) (pa_cons (pv 1) pa_nil)) pe_int (nomark _))))) (pss_one (ps_ret pe_bl)) pss_nil)
  (Evl.pss_cut (ps_asg (pv 1) (pg_or (pg_tup rfl (pgs_cons (pg_name (i := 2) (x := "sort") scIsDoor.nd rfl (Or.inl rfl)) (pgs_cons (pg_name (i := 3) (x := "place") scIsDoor.nd rfl (Or.inl rfl)) (pgs_cons (pg_name (i := 4) (x := "hour") scIsDoor.nd rfl (Or.inl rfl)) pgs_nil)))) (pg_unl rfl (pgs_cons (pg_name (i := 2) (x := "sort") scIsDoor.nd rfl (Or.inl rfl)) (pgs_cons (pg_name (i := 3) (x := "place") scIsDoor.nd rfl (Or.inl rfl)) (pgs_cons (pg_name (i := 4) (x := "hour") scIsDoor.nd rfl (Or.inl rfl)) pgs_nil))))))
  (pss_cons (ps_if (PW.pt (pw_or (pt_not (pt_val (pe_callB call_isi (by rfl) T.isi (by decide +kernel) (pa_cons (pv 2) (pa_cons (pe_bltn (v := .ty "str") (by rfl) T.str (by decide +kernel) rfl) pa_nil))))) (pw_or1 (pt_cmpR op_notIn_seq (pv 2) (pe_tup (pa_cons pe_str (pa_cons pe_str pa_nil))) (by rfl))))) (pss_one (ps_ret pe_bl)) pss_nil)
  (pss_one (ps_ret (pe_and (pe_call GPl hr (by rfl) gPl FPl.kp bPl .nil pass0 (pa_cons (pv 0) (pa_cons (pv 3) pa_nil))) (pe_one (pe_call GN (hr.mono (by decide)) (by rfl) gN FN.kp bN .nil pass0 (pa_cons (pv 4) pa_nil))))))))), ?_⟩
    refine ⟨_, rfl, v, rfl, hv, fun H1 e1 => ⟨_, rfl, ?_⟩⟩
    cases hs : seqOf H v with
    | none =>
      rw [hs] at k
      exact k _ e1
    | some xs =>
      rw [hs] at k
      obtain ⟨a, rfl, ha⟩ := sq_of (K := K) hv hs
      refine iteF ⟨_, rfl, a, xs, rfl, ?_, rfl, _, rfl, ?_⟩
      · rcases ha with ha | ha
        · exact .inl (SqL.of (e1 _ _ ha))
        · exact .inr (SqT.of (e1 _ _ ha))
      refine ite2 (fun hc => ?_) (fun hc => ?_)
      · rw [isDoor_len (fun z => by rw [z] at hc; cases hc)] at k
        exact k _ e1
      · have hl : xs.length = 3 := by
          have z : decide (V.int (xs.length : Nat) = V.int 3) = true := by simpa using hc
          exact Int.ofNat.inj (V.int.inj (of_decide_eq_true z))
        match xs, hl with
        | [x, y, l], _ =>
          have sh := hi _ hs
          have sx := (sh x (by simp)).same e1
          have sy := (sh y (by simp)).same e1
          have sl := (sh l (by simp)).same e1
          refine ⟨fun σ' H' => H' = H1 ∧ σ' = [some (.int n), some (.ref a), some x, some y, some l], ?_, ?_⟩
          · refine ⟨_, rfl, ?_⟩
            rcases ha with ha | ha
            · exact .inr ⟨a, _, rfl, SqL.of (e1 _ _ ha), rfl, _, _, rfl, _, _, rfl, _, _, rfl, rfl, rfl, rfl⟩
            · exact .inl ⟨a, _, rfl, SqT.of (e1 _ _ ha), rfl, _, _, rfl, _, _, rfl, _, _, rfl, rfl, rfl, rfl⟩
          · rintro σ' H' ⟨rfl, rfl⟩
            obtain ⟨Ty, i, b, ll, t, s, ty, ki, kb, kl, kt, ks, e0, e2, s1, s2⟩ := shp_ty (K := K) sx
            refine ⟨_, rfl, _, _, _, _, s, rfl, .ty _, ty.now, kit_ty ks, s, rfl, ?_⟩
            cases s with
            | false =>
              have z : isDoor n (some [x, y, l]) = false := by
                cases x with
                | str q => exact absurd (s2 q rfl) (by decide)
                | _ => rfl
              rw [z] at k
              exact k _ e1
            | true =>
              obtain ⟨z, rfl⟩ := s1 rfl
              refine ⟨_, rfl, (by show 2 ≤ sizeLine; decide), fun tp htp => ?_⟩
              have e3 := same_new (o := HO.tup [V.str "in", V.str "out"]) htp
              refine ⟨tp, _, rfl, .inr (SqT.of upd_same), rfl, (by decide +kernel), _, rfl, ?_⟩
              cases hio : isIO (.str z) with
              | false =>
                have q : inV (.str z) [.str "in", .str "out"] = false := hio
                have e : isDoor n (some [.str z, y, l]) = false := by
                  show (isIO (.str z) && _) = false
                  rw [hio]
                  rfl
                rw [e] at k
                rw [q]
                exact k _ (e1.trans e3)
              | true =>
                have q : inV (.str z) [.str "in", .str "out"] = true := hio
                have e : isDoor n (some [.str z, y, l]) = (isP n y && isN l) := by
                  show (isIO (.str z) && (isP n y && isN l)) = _
                  rw [hio]
                  rfl
                rw [e] at k
                rw [q]
                refine iteF ⟨_, rfl, _, rfl, n, y, rfl, sy.same e3, _, rfl, ?_⟩
                cases hy : isP n y with
                | false =>
                  rw [hy] at k
                  exact k _ (e1.trans e3)
                | true =>
                  rw [hy] at k
                  exact ⟨_, rfl, l, rfl, sl.same e3, k _ (e1.trans e3)⟩
end
end K05

set_option Elab.async false
set_option linter.all false
set_option maxRecDepth 100000
set_option maxHeartbeats 8000000
namespace K05
open PySem PySem.Spec PyProof.Rows L2 Own
/-! ### a walk over a dict that is read off just then -/
def iKeysN (td : TE) : TI := fun σ H R => td σ H fun x H1 => ∃ d kvs, x = .ref d ∧ H1 d = some (.dK kvs) ∧ ∀ o, R (Itk d o kvs) (upd H1 d (.frz o (.dK kvs)))
section
variable {X : Cx} {tg e : Expr} {td : TE} {st : Stmt} {t t2 : TS}
theorem pi_keysN (he : PE X e td) : PI X tg e (iKeysN td) := by
  refine ⟨fun pins s σ H R I h => ?_⟩
  refine thn (he.run pins s σ H _ I h) fun u s1 ⟨x, H1, I1, rx, d, kvs, ex, hd, q⟩ => ?_
  subst ex
  obtain rfl : u = Value.ref d := rx
  obtain ⟨o, I2⟩ := I1.lock hd trivial
  obtain ⟨hs, hgd, hx, es, ep, vs, hdt, hsz, kv, hm⟩ := I2.frzK upd_same
  refine iter_keys hs hgd hx hdt (pi_one (tk := s1.toks) I2 _ (turn_keys _ hdt) ⟨_, Heap.get?_push_size _ rfl, rfl, ?_⟩ (q o))
  rw [hsz] <;> rfl
theorem ps_or (h : PS X st t) (h2 : PS X st t2) : PS X st (fun D σ H => t D σ H ∨ t2 D σ H) := ⟨fun pins s σ H D I hw => by
  rcases hw with hw | hw
  · exact h.run pins s σ H D I hw
  · exact h2.run pins s σ H D I hw⟩
end
/-! ### ways of roads of length 0 -/
inductive Rch (es : List (Int × Int)) : Int → Int → Prop
  | one {a b : Int} (h : (a, b) ∈ es) : Rch es a b
  | step {a b c : Int} (h : Rch es a b) (h2 : (b, c) ∈ es) : Rch es a c
/-- a dict of ints -/
def trueD (bs : List Int) : List (Key × V) := bs.map fun i => (Sum.inl i, V.bl true)
theorem trueD_val {x : Int} : ∀ bs : List Int, valV (trueD bs) (Sum.inl x) = if x ∈ bs then some (V.bl true) else none
  | [] => rfl
  | b :: r => by
    have ih := trueD_val (x := x) r
    show valV ((Sum.inl b, V.bl true) :: trueD r) (Sum.inl x) = _
    by_cases e : b = x
    · rw [if_pos (by rw [e]; exact List.mem_cons_self)]
      exact valV_pos (p := (Sum.inl b, V.bl true)) (by rw [e])
    · rw [valV_neg (p := (Sum.inl b, V.bl true)) (fun z => e (Sum.inl.inj z)), ih]
      by_cases m : x ∈ r
      · rw [if_pos m, if_pos (List.mem_cons_of_mem _ m)]
      · rw [if_neg m, if_neg (fun z => by
          rcases List.mem_cons.mp z with q | q
          · exact e q.symm
          · exact m q)]
theorem trueD_put {x : Int} {bs : List Int} (h : x ∉ bs) : putK (trueD bs) (Sum.inl x) (V.bl true) = trueD (bs ++ [x]) := by
  rw [putK_new _ (by rw [trueD_val, if_neg h])]
  unfold trueD
  rw [List.map_append]
  rfl
theorem trueD_len (bs : List Int) : (trueD bs).length = bs.length := List.length_map _
/-- the roads of length 0 so far, by the places where they begin -/
def Onw (H : Hp) (o : Addr) (es : List (Int × Int)) : Prop := ∃ kvs : List (Key × V), H o = some (.dK kvs) ∧ kvs.length ≤ es.length ∧
  (∀ a : Int, (valV kvs (Sum.inl a) = none ∧ ∀ b, (a, b) ∉ es) ∨ ∃ d bs, valV kvs (Sum.inl a) = some (.ref d) ∧ H d = some (.dK (trueD bs)) ∧ bs.length ≤ es.length ∧ d ≠ o ∧ ∀ b, b ∈ bs ↔ (a, b) ∈ es) ∧
  ∀ a a' d, valV kvs (Sum.inl a) = some (.ref d) → valV kvs (Sum.inl a') = some (.ref d) → a = a'
theorem Onw.same {H H' : Hp} {o : Addr} {es : List (Int × Int)} (h : Onw H o es) (e : ∀ b u, H b = some u → H' b = some u) : Onw H' o es := by
  obtain ⟨kvs, h1, h2, h3, h4⟩ := h
  refine ⟨kvs, e _ _ h1, h2, fun a => ?_, h4⟩
  rcases h3 a with h | ⟨d, bs, k1, k2, k3, k4⟩
  · exact .inl h
  · exact .inr ⟨d, bs, k1, e _ _ k2, k3, k4⟩
def spComes : Sp := fun vs H Q _ => ∃ (o : Addr) (s t : Int) (es : List (Int × Int)), vs = [.ref o, .int s, .int t] ∧ Onw H o es ∧ es.length ≤ 1000 ∧ ∀ H' c, Same H H' → (c = true ↔ Rch es s t) → Q (.bl c) H'
abbrev NComes : List Str := ["onward", "begin", "end", "seen", "waiting", "here", "place"]
theorem scComes : FnScope NComes ["onward", "begin", "end"] (defScope sComes) := ⟨rfl, rfl, rfl, by decide +kernel, rfl, by decide +kernel, by decide +kernel⟩
/-- while it is looked for: all in seen is come to, and what is seen and not waiting has all its next ones in seen, none of them the end -/
structure Look (es : List (Int × Int)) (s t : Int) (ss ws : List Int) : Prop where
  nd : ss.Nodup
  b : s ∈ ss
  w : ∀ x ∈ ws, x ∈ ss
  r : ∀ x ∈ ss, x = s ∨ Rch es s x
  c : ∀ x ∈ ss, x ∈ ws ∨ ∀ y, (x, y) ∈ es → y ∈ ss ∧ y ≠ t
  l : ws.length ≤ ss.length
theorem Look.no {es : List (Int × Int)} {s t : Int} {ss : List Int} (l : Look es s t ss []) : ¬ Rch es s t := by
  have key : ∀ {a b : Int}, Rch es a b → a = s → b ∈ ss ∧ b ≠ t := fun {a b} h => by
    induction h with
    | one h =>
      intro e
      subst e
      rcases l.c _ l.b with z | z
      · cases z
      · exact z _ h
    | step h h2 ih =>
      intro e
      rcases l.c _ (ih e).1 with z | z
      · cases z
      · exact z _ h2
  exact fun h => (key h rfl).2 rfl
theorem nd_len : ∀ {xs ys : List Int}, xs.Nodup → (∀ x ∈ xs, x ∈ ys) → xs.length ≤ ys.length
  | [], _, _, _ => Nat.zero_le _
  | x :: r, ys, h, s => by
    obtain ⟨h1, h2⟩ := List.nodup_cons.mp h
    have hx := s x List.mem_cons_self
    have ih := nd_len (xs := r) (ys := ys.erase x) h2 fun y hy => (List.mem_erase_of_ne (fun z => h1 (by rw [← z]; exact hy))).mpr (s y (List.mem_cons_of_mem _ hy))
    rw [List.length_erase_of_mem hx] at ih
    have z := List.length_pos_of_mem hx
    rw [List.length_cons]
    omega
/-- how many places there can be -/
theorem seen_len {es : List (Int × Int)} {s : Int} {ss : List Int} (nd : ss.Nodup) (r : ∀ x ∈ ss, x = s ∨ Rch es s x) : ss.length ≤ es.length + 1 := by
  have z := nd_len (ys := s :: es.map Prod.snd) nd fun x hx => by
    rcases r x hx with rfl | h
    · exact List.mem_cons_self
    · cases h with
      | one h => exact List.mem_cons_of_mem _ (List.mem_map.mpr ⟨_, h, rfl⟩)
      | step _ h => exact List.mem_cons_of_mem _ (List.mem_map.mpr ⟨_, h, rfl⟩)
  rw [List.length_cons, List.length_map] at z
  exact z
/-- while the next ones of h are gone through -/
structure Step (es : List (Int × Int)) (s t h : Int) (done : List Int) (ss ws : List Int) : Prop where
  nd : ss.Nodup
  b : s ∈ ss
  w : ∀ x ∈ ws, x ∈ ss
  r : ∀ x ∈ ss, x = s ∨ Rch es s x
  c : ∀ x ∈ ss, x ∈ ws ∨ x = h ∨ ∀ y, (x, y) ∈ es → y ∈ ss ∧ y ≠ t
  p : ∀ y ∈ done, y ∈ ss ∧ y ≠ t
  hs : h ∈ ss
  l : ws.length ≤ ss.length
theorem Look.pop {es : List (Int × Int)} {s t h : Int} {ss ws : List Int} (l : Look es s t ss (ws ++ [h])) : Step es s t h [] ss ws where
  nd := l.nd
  b := l.b
  w := fun x hx => l.w x (List.mem_append.mpr (.inl hx))
  r := l.r
  c := fun x hx => by
    rcases l.c x hx with z | z
    · rcases List.mem_append.mp z with q | q
      · exact .inl q
      · exact .inr (.inl (List.mem_singleton.mp q))
    · exact .inr (.inr z)
  p := fun y hy => by cases hy
  hs := l.w h (List.mem_append.mpr (.inr List.mem_cons_self))
  l := by
    have z := l.l
    rw [List.length_append] at z
    omega
theorem Step.old {es : List (Int × Int)} {s t h x : Int} {done ss ws : List Int} (l : Step es s t h done ss ws) (hx : x ∈ ss) (ht : x ≠ t) : Step es s t h (done ++ [x]) ss ws :=
  ⟨l.nd, l.b, l.w, l.r, l.c, fun y hy => by
    rcases List.mem_append.mp hy with q | q
    · exact l.p y q
    · rw [List.mem_singleton.mp q]
      exact ⟨hx, ht⟩, l.hs, l.l⟩
theorem Step.new {es : List (Int × Int)} {s t h x : Int} {done ss ws : List Int} (l : Step es s t h done ss ws) (hx : x ∉ ss) (ht : x ≠ t) (he : (h, x) ∈ es) : Step es s t h (done ++ [x]) (ss ++ [x]) (ws ++ [x]) := by
  have up : ∀ y, y ∈ ss → y ∈ ss ++ [x] := fun y hy => List.mem_append.mpr (.inl hy)
  have me : x ∈ ss ++ [x] := List.mem_append.mpr (.inr List.mem_cons_self)
  refine ⟨List.nodup_append.mpr ⟨l.nd, by simp, fun a ha b hb z => ?_⟩, up _ l.b, fun y hy => ?_, fun y hy => ?_, fun y hy => ?_, fun y hy => ?_, up _ l.hs, by rw [List.length_append, List.length_append]; exact Nat.succ_le_succ l.l⟩
  · rw [List.mem_singleton.mp hb] at z
    exact hx (by rw [← z]; exact ha)
  · rcases List.mem_append.mp hy with q | q
    · exact up _ (l.w y q)
    · rw [List.mem_singleton.mp q]
      exact me
  · rcases List.mem_append.mp hy with q | q
    · exact l.r y q
    · rw [List.mem_singleton.mp q]
      rcases l.r h l.hs with z | z
      · rw [z] at he
        exact .inr (.one he)
      · exact .inr (.step z he)
  · rcases List.mem_append.mp hy with q | q
    · rcases l.c y q with z | z | z
      · exact .inl (List.mem_append.mpr (.inl z))
      · exact .inr (.inl z)
      · exact .inr (.inr fun u hu => ⟨up _ (z u hu).1, (z u hu).2⟩)
    · exact .inl (List.mem_append.mpr (.inr q))
  · rcases List.mem_append.mp hy with q | q
    · exact ⟨up _ (l.p y q).1, (l.p y q).2⟩
    · rw [List.mem_singleton.mp q]
      exact ⟨me, ht⟩
theorem Step.look {es : List (Int × Int)} {s t h : Int} {done ss ws : List Int} (l : Step es s t h done ss ws) (d : ∀ y, (h, y) ∈ es → y ∈ done) : Look es s t ss ws :=
  ⟨l.nd, l.b, l.w, l.r, fun x hx => by
    rcases l.c x hx with z | z | z
    · exact .inl z
    · rw [z]
      exact .inr fun y hy => l.p y (d y hy)
    · exact .inr z, l.l⟩
structure CI (H : Hp) (o s t : V) (sd wl : Addr) (es : List (Int × Int)) (si ti : Int) (m : Nat) (σ : L2.St) (H' : Hp) : Prop where
  ex : ∃ (ss ws : List Int) (here place : Option V), σ = [some o, some s, some t, some (.ref sd), some (.ref wl), here, place] ∧ H' sd = some (.dK (trueD ss)) ∧ H' wl = some (.lst (ws.map V.int)) ∧ Same H H' ∧ Look es si ti ss ws ∧ m = 2 * (es.length + 1 - ss.length) + ws.length
structure CL (H : Hp) (o s t : V) (sd wl d : Addr) (od : Obj) (bs : List Int) (es : List (Int × Int)) (si ti h : Int) (m : Nat) (i : Nat) (σ : L2.St) (H' : Hp) : Prop where
  ex : ∃ (ss ws : List Int) (place : Option V), σ = [some o, some s, some t, some (.ref sd), some (.ref wl), some (.int h), place] ∧ H' sd = some (.dK (trueD ss)) ∧ H' wl = some (.lst (ws.map V.int)) ∧ Step es si ti h (bs.take i) ss ws ∧ 2 * (es.length + 1 - ss.length) + ws.length < m
  k : ∀ b u, H b = some u → b ≠ d → H' b = some u
  f : H' d = some (.frz od (.dK (trueD bs)))
section
variable {P : Program} {w : World} {K : PySem.W.Frag} {mg : Str → Option Value} {base : Heap}
theorem ok_comes {f : Addr} {fd : FuncData} (F : Fun K "comes_to" "comes_to" sComes f fd) (T : Bt mg) : FnOk P w K mg base CX0 1 f fd ["onward", "begin", "end"] spComes := by
  refine F.ok scComes (fun vs H Q E h => ?_) (fun cdv A outer s H vs Q E hr h => ?_)
  · obtain ⟨o, s, t, es, rfl, _⟩ := h
    rfl
  · obtain ⟨o, s, t, es, rfl, O, hes, k⟩ := h
    have hu := hu_of hr
    refine ⟨_, (pss_cons (ps_set (i := 3) scComes.nd rfl (Or.inl rfl) (pe_disp (pps_cons (pv 1) pe_bl pps_nil) (by rfl) (by rfl) (fun z => by cases z) (by decide)))
  (pss_cons (ps_set (i := 4) scComes.nd rfl (Or.inl rfl) (pe_lst (pa_cons (pv 1) pa_nil)))
  (pss_cons (ps_while PassesOwn.never (pt_truth (pv 4) (by intro _; rfl)) (pss_cons (ps_set (i := 5) scComes.nd rfl (Or.inl rfl) (pe_bm0 PySem.F.plainAttrs_list PySem.F.slot_list_pop PySem.F.type_list_pop mt_pop (pv 4)))
  (pss_one (ps_or (ps_lock (ps_for PassesOwn.never rfl (pi_keys (pe_dget2 (hu_of hr) (pv 0) (pv 5) pe_dnewK ⟨by rfl, by rfl, by rfl, by rfl⟩)) (pg_name (i := 6) (x := "place") scComes.nd rfl (Or.inl rfl))
   (pss_cons (ps_if (pt_cmpR op_eq (pv 6) (pv 2) (nomark _)) (pss_one (ps_ret pe_bl)) pss_nil)
  (pss_one (ps_if (pt_cmp (pc_dnotin (hu_of hr) (pv 6) (pv 3))) (pss_cons (ps_dput (hu_of hr) (pv 3) (pv 6) pe_bl rfl)
  (pss_one (ps_expr (pe_bm PySem.F.plainAttrs_list PySem.F.slot_list_append PySem.F.type_list_append mt_append (pv 4) (pa_cons (pv 6) pa_nil))))) pss_nil))))) (ps_for PassesOwn.never rfl (pi_keysN (pe_dget2 (hu_of hr) (pv 0) (pv 5) pe_dnewK ⟨by rfl, by rfl, by rfl, by rfl⟩)) (pg_name (i := 6) (x := "place") scComes.nd rfl (Or.inl rfl))
   (pss_cons (ps_if (pt_cmpR op_eq (pv 6) (pv 2) (nomark _)) (pss_one (ps_ret pe_bl)) pss_nil)
  (pss_one (ps_if (pt_cmp (pc_dnotin (hu_of hr) (pv 6) (pv 3))) (pss_cons (ps_dput (hu_of hr) (pv 3) (pv 6) pe_bl rfl)
  (pss_one (ps_expr (pe_bm PySem.F.plainAttrs_list PySem.F.slot_list_append PySem.F.type_list_append mt_append (pv 4) (pa_cons (pv 6) pa_nil))))) pss_nil))))))))
  (pss_one (ps_ret pe_bl))))), ?_⟩
    refine fun sd hsd => ⟨_, rfl, upd_same, [(.inl s, .bl true)], rfl, (by show 1 ≤ 15; decide), _, rfl, (by show 1 ≤ sizeLine; decide), fun wl hwl => ?_⟩
    have md : mergeK [] [((Sum.inl s, V.bl true) : Key × V)] = trueD [s] := rfl
    rw [md] at hwl ⊢
    have s1 : Same H (upd (upd H sd (.dK [])) sd (.dK (trueD [s]))) := fun b u e => by
      rw [upd_ne (ne_of_none e hsd), upd_ne (ne_of_none e hsd)]
      exact e
    have nsw : sd ≠ wl := ne_of_none (H := upd (upd H sd (.dK [])) sd (.dK (trueD [s]))) upd_same hwl
    have hwl0 : H wl = none := by
      rw [upd_ne nsw.symm, upd_ne nsw.symm] at hwl
      exact hwl
    have lk0 : Look es s t [s] [s] := ⟨by simp, List.mem_cons_self, fun x hx => hx, fun x hx => .inl (List.mem_singleton.mp hx), fun x hx => .inl hx, Nat.le_refl _⟩
    refine ⟨CI H (.ref o) (.int s) (.int t) sd wl es s t, ⟨_, ⟨[s], [s], _, _, rfl, by rw [upd_ne nsw]; exact upd_same, upd_same, s1.trans (same_new hwl), lk0, rfl⟩⟩, ?_⟩
    rintro m σ H1 ⟨ss, ws, here, place, rfl, hs, hw, sm, lk, rfl⟩
    refine ⟨_, rfl, _, .inl ⟨_, SqL.of hw, rfl⟩, ?_⟩
    rcases List.eq_nil_or_concat ws with rfl | ⟨wi, h, rfl⟩
    · exact iteF (k _ _ sm ⟨fun z => (by cases z), fun z => absurd z lk.no⟩)
    · have en : (!(List.map V.int (wi ++ [h])).isEmpty) = true := by simp
      rw [List.concat_eq_append] at hw lk ⊢
      rw [en]
      refine iteT ⟨fun σ' H' => ∃ m', m' < 2 * (es.length + 1 - ss.length) + (wi ++ [h]).length ∧ CI H (.ref o) (.int s) (.int t) sd wl es s t m' σ' H', fun σ' H' z => z, ?_⟩
      have lst : (List.map V.int (wi ++ [h]))[(List.map V.int (wi ++ [h])).length - 1]? = some (.int h) := by
        simp
      have drp : (List.map V.int (wi ++ [h])).dropLast = wi.map V.int := by
        rw [List.map_append]
        simp
      refine ⟨_, rfl, .inl ⟨rfl, _, SqL.of hw⟩, wl, _, .int h, rfl, rfl, hw, lst, ?_⟩
      rw [drp]
      have sm2 : Same H (upd H1 wl (.lst (wi.map V.int))) := fun b u e => by
        rw [upd_ne (ne_of_none e hwl0)]
        exact sm _ _ e
      have hs2 : upd H1 wl (.lst (wi.map V.int)) sd = some (.dK (trueD ss)) := by
        rw [upd_ne nsw]
        exact hs
      have hw2 : upd H1 wl (.lst (wi.map V.int)) wl = some (.lst (wi.map V.int)) := upd_same
      generalize upd H1 wl (.lst (wi.map V.int)) = H2 at sm2 hs2 hw2 ⊢
      have st0 := lk.pop
      have mm : 2 * (es.length + 1 - ss.length) + wi.length < 2 * (es.length + 1 - ss.length) + (wi ++ [h]).length := by
        rw [List.length_append, List.length_singleton]
        omega
      generalize 2 * (es.length + 1 - ss.length) + (wi ++ [h]).length = m at mm ⊢
      clear hs hw sm lst drp en lk
      obtain ⟨kvs, hk, lkv, adj, inj⟩ := O
      rcases adj h with ⟨no, ne⟩ | ⟨d, bs, yes, hd, lb, ndo, ib⟩
      · refine .inr ⟨_, rfl, o, rfl, .inl ⟨kvs, .inl (sm2 _ _ hk)⟩, _, rfl, fun e he => ⟨_, DGet.k (k := Sum.inl h) (same_new he _ _ (sm2 _ _ hk)), e, [], ?_, upd_same, fun oe => ?_⟩⟩
        · rw [no]
          rfl
        · refine for_it walk_keys (fun i σ' H' => ∃ m', m' < m ∧ CI H (.ref o) (.int s) (.int t) sd wl es s t m' σ' H' ∧ H' e = some (.frz oe (.dK []))) ?_ (fun i σ' H' _ ⟨_, _, _, z⟩ => z) (fun i x σ' H' H'' hi => absurd hi (Nat.not_lt_zero i)) (fun σ' H' ⟨m', z1, z2, _⟩ => ⟨m', z1, z2⟩)
          have s3 : ∀ b u, H2 b = some u → upd (upd H2 e (.dK [])) e (.frz oe (.dK [])) b = some u := fun b u z => by
            rw [upd_ne (ne_of_none z he), upd_ne (ne_of_none z he)]
            exact z
          exact ⟨_, mm, ⟨ss, wi, _, _, rfl, s3 _ _ hs2, s3 _ _ hw2, fun b u z => s3 _ _ (sm2 _ _ z), st0.look fun y hy => absurd hy (ne y), rfl⟩, upd_same⟩
      · have nsd : sd ≠ d := (ne_of_none hd hsd).symm
        have nwd : wl ≠ d := (ne_of_none hd hwl0).symm
        have nod : o ≠ d := ndo.symm
        refine .inl ⟨d, _, sm2 _ _ hd, trivial, fun od => ?_⟩
        have fz : ∀ b u, H b = some u → b ≠ d → upd H2 d (.frz od (.dK (trueD bs))) b = some u := fun b u e n => by
          rw [upd_ne n]
          exact sm2 _ _ e
        refine ⟨_, rfl, o, rfl, .inl ⟨kvs, .inl (fz _ _ hk nod)⟩, _, rfl, fun e he => ?_⟩
        have he2 : H2 e = none ∧ e ≠ d := by
          by_cases z : e = d
          · rw [z, upd_same] at he
            cases he
          · rw [upd_ne z] at he
            exact ⟨he, z⟩
        have s3 : ∀ b u, upd H2 d (.frz od (.dK (trueD bs))) b = some u → upd (upd H2 d (.frz od (.dK (trueD bs)))) e (.dK []) b = some u := fun b u z => by
          rw [upd_ne (ne_of_none z he)]
          exact z
        refine ⟨_, DGet.k (k := Sum.inl h) (s3 _ _ (fz _ _ hk nod)), ?_⟩
        rw [yes]
        refine ⟨d, od, rfl, .inl ⟨trueD bs, s3 _ _ upd_same, ?_⟩⟩
        have undo : ∀ H', (∀ b u, H b = some u → b ≠ d → H' b = some u) → Same H (upd H' d (.dK (trueD bs))) := fun H' z b u e => by
          by_cases q : b = d
          · rw [q, upd_same, ← hd, ← q]
            exact e
          · rw [upd_ne q]
            exact z b u e q
        refine for_it walk_keys (CL H (.ref o) (.int s) (.int t) sd wl d od bs es s t h m) ?_ (fun i σ' H' _ q => q.f) ?_ ?_
        · refine ⟨⟨ss, wi, _, rfl, s3 _ _ ?_, s3 _ _ ?_, st0, mm⟩, fun b u z n => s3 _ _ (fz b u z n), s3 _ _ upd_same⟩
          · rw [upd_ne nsd]
            exact hs2
          · rw [upd_ne nwd]
            exact hw2
        · rintro i x σ' H3 H4 hi ⟨⟨ss3, ws3, place3, rfl, hs3, hw3, stp, mm3⟩, k3, f3⟩ ⟨rfl, kk, vv, hkv, rfl⟩
          have hkv' : (trueD bs)[i]? = some (kk, vv) := hkv
          unfold trueD at hkv'
          rw [List.getElem?_map] at hkv'
          obtain ⟨y, hy, e⟩ := Option.map_eq_some_iff.mp hkv'
          obtain rfl : Sum.inl y = kk := (Prod.mk.inj e).1
          have ey : (h, y) ∈ es := (ib y).mp (List.mem_of_getElem? hy)
          have tk : bs.take (i + 1) = bs.take i ++ [y] := by
            rw [List.take_add_one, hy]
            rfl
          refine ⟨_, rfl, _, rfl, rfl, _, rfl, ite2 (fun hc => ?_) (fun hc => ?_)⟩
          · have et : y = t := V.int.inj (of_decide_eq_true hc)
            refine ⟨f3, k _ _ (undo _ k3) ⟨fun _ => ?_, fun _ => rfl⟩⟩
            rw [← et]
            rcases stp.r h stp.hs with z | z
            · rw [z] at ey
              exact .one ey
            · exact .step z ey
          · have nt : y ≠ t := fun z => hc (decide_eq_true (congrArg V.int z))
            refine ⟨_, rfl, _, rfl, sd, _, rfl, DGet.k (k := Sum.inl y) hs3, _, rfl, ?_⟩
            rw [trueD_val]
            by_cases hm : y ∈ ss3
            · rw [if_pos hm]
              refine iteF ⟨⟨ss3, ws3, _, rfl, hs3, hw3, ?_, mm3⟩, k3, f3⟩
              rw [tk]
              exact stp.old hm nt
            · rw [if_neg hm]
              have stp2 := stp.new hm nt ey
              have ls : (ss3 ++ [y]).length ≤ es.length + 1 := seen_len stp2.nd stp2.r
              have ls2 : ss3.length + 1 ≤ es.length + 1 := by
                rw [List.length_append] at ls
                exact ls
              refine iteT ⟨_, rfl, _, rfl, sd, _, rfl, DPut.k (k := Sum.inl y) hs3 (by rw [trueD_len]; exact Nat.lt_of_le_of_lt (show ss3.length ≤ 1000 by omega) (by decide)), ?_⟩
              rw [trueD_put hm]
              have hw4 : upd H4 sd (.dK (trueD (ss3 ++ [y]))) wl = some (.lst (ws3.map V.int)) := by
                rw [upd_ne nsw.symm]
                exact hw3
              have lw : ws3.length < sizeLine := Nat.lt_of_le_of_lt (show ws3.length ≤ 1000 by have := stp.l; omega) (by decide)
              refine ⟨_, rfl, .inl ⟨rfl, _, SqL.of hw4⟩, _, rfl, wl, _, _, rfl, rfl, hw4, by rw [List.length_map]; exact lw, ?_⟩
              refine ⟨⟨ss3 ++ [y], ws3 ++ [y], _, rfl, ?_, ?_, ?_, ?_⟩, fun b u z n => ?_, ?_⟩
              · rw [upd_ne nsw]
                exact upd_same
              · rw [upd_same, List.map_append]
                rfl
              · rw [tk]
                exact stp2
              · rw [List.length_append, List.length_append, List.length_singleton]
                omega
              · rw [upd_ne (ne_of_none z hwl0), upd_ne (ne_of_none z hsd)]
                exact k3 b u z n
              · rw [upd_ne nwd.symm, upd_ne nsd.symm]
                exact f3
        · rintro σ' H3 ⟨⟨ss3, ws3, place3, rfl, hs3, hw3, stp, mm3⟩, k3, f3⟩
          have full : bs.take (trueD bs).length = bs := by
            rw [trueD_len, List.take_of_length_le (Nat.le_refl _)]
          rw [full] at stp
          refine ⟨f3, _, mm3, ⟨ss3, ws3, _, _, rfl, ?_, ?_, undo _ k3, stp.look fun y hy => (ib y).mpr hy, rfl⟩⟩
          · rw [upd_ne nsd]
            exact hs3
          · rw [upd_ne nwd]
            exact hw3
end
end K05

set_option Elab.async false
set_option linter.all false
set_option maxRecDepth 100000
set_option maxHeartbeats 8000000
namespace K05
open PySem PySem.Spec PyProof.Rows L2 Own
theorem trueD_puts (x : Int) (bs : List Int) : ∃ bs', putK (trueD bs) (Sum.inl x) (V.bl true) = trueD bs' ∧ bs'.length ≤ bs.length + 1 ∧ ∀ b, b ∈ bs' ↔ b ∈ bs ∨ b = x := by
  by_cases h : x ∈ bs
  · refine ⟨bs, ?_, Nat.le_succ _, fun b => ⟨.inl, fun z => z.elim id fun q => by rw [q]; exact h⟩⟩
    unfold putK
    rw [valV_any, trueD_val, if_pos h]
    show (trueD bs).map _ = _
    unfold trueD
    rw [List.map_map]
    refine List.map_congr_left fun i _ => ?_
    show (if (Sum.inl i : Key) = Sum.inl x then (Sum.inl i, V.bl true) else (Sum.inl i, V.bl true)) = _
    split <;> rfl
  · refine ⟨bs ++ [x], trueD_put h, by rw [List.length_append]; exact Nat.le_refl _, fun b => ?_⟩
    rw [List.mem_append, List.mem_singleton]
theorem Onw.old {H : Hp} {o d : Addr} {es : List (Int × Int)} {a b : Int} {kvs : List (Key × V)} {bs : List Int} (O : Onw H o es) (hk : H o = some (.dK kvs)) (hv : valV kvs (Sum.inl a) = some (.ref d)) (hd : H d = some (.dK (trueD bs))) (nd : d ≠ o) :
    Onw (upd H d (.dK (putK (trueD bs) (Sum.inl b) (V.bl true)))) o (es ++ [(a, b)]) := by
  obtain ⟨kvs', h1, h2, h3, h4⟩ := O
  obtain rfl : kvs' = kvs := by
    rw [h1] at hk
    exact HO.dK.inj (Option.some.inj hk)
  refine ⟨kvs', by rw [upd_ne nd.symm]; exact h1, by rw [List.length_append]; exact Nat.le_succ_of_le h2, fun x => ?_, h4⟩
  obtain ⟨bs', e1, e2, e3⟩ := trueD_puts b bs
  by_cases hx : x = a
  · subst hx
    rcases h3 x with ⟨no, _⟩ | ⟨d', bs2, k1, k2, k3, k4, k5⟩
    · rw [hv] at no
      cases no
    · rw [hv] at k1
      obtain rfl := V.ref.inj (Option.some.inj k1)
      rw [hd] at k2
      have e4 : trueD bs = trueD bs2 := HO.dK.inj (Option.some.inj k2)
      have e5 : bs = bs2 := by
        have inj : ∀ {u v : List Int}, trueD u = trueD v → u = v := fun {u} => by
          induction u with
          | nil =>
            intro v z
            cases v with
            | nil => rfl
            | cons y r => cases z
          | cons y r ih =>
            intro v z
            cases v with
            | nil => cases z
            | cons y2 r2 =>
              obtain ⟨z1, z2⟩ := List.cons.inj z
              rw [Sum.inl.inj (Prod.mk.inj z1).1, ih z2]
        exact inj e4
      subst e5
      refine .inr ⟨d, bs', hv, by rw [upd_same, e1], by rw [List.length_append]; exact Nat.le_trans e2 (Nat.succ_le_succ k3), nd, fun y => ?_⟩
      rw [e3, k5, List.mem_append, List.mem_singleton]
      exact or_congr Iff.rfl ⟨fun z => by rw [z], fun z => (Prod.mk.inj z).2⟩
  · have ne : ∀ y, (x, y) ∈ es ++ [(a, b)] ↔ (x, y) ∈ es := fun y => by
      rw [List.mem_append, List.mem_singleton]
      exact ⟨fun z => z.elim id fun q => absurd (Prod.mk.inj q).1 hx, .inl⟩
    rcases h3 x with ⟨no, nn⟩ | ⟨d', bs2, k1, k2, k3, k4, k5⟩
    · exact .inl ⟨no, fun y z => nn y ((ne y).mp z)⟩
    · have n2 : d' ≠ d := fun z => hx (h4 x a d (by rw [k1, z]) hv)
      exact .inr ⟨d', bs2, k1, by rw [upd_ne n2]; exact k2, by rw [List.length_append]; exact Nat.le_succ_of_le k3, k4, fun y => (k5 y).trans (ne y).symm⟩
theorem Onw.fresh {H : Hp} {o e : Addr} {es : List (Int × Int)} {a b : Int} {kvs : List (Key × V)} (O : Onw H o es) (hk : H o = some (.dK kvs)) (hv : valV kvs (Sum.inl a) = none) (he : H e = none) :
    Onw (upd (upd (upd H e (.dK [])) o (.dK (putK kvs (Sum.inl a) (.ref e)))) e (.dK (putK [] (Sum.inl b) (V.bl true)))) o (es ++ [(a, b)]) := by
  obtain ⟨kvs', h1, h2, h3, h4⟩ := O
  obtain rfl : kvs' = kvs := by
    rw [h1] at hk
    exact HO.dK.inj (Option.some.inj hk)
  have neo : o ≠ e := ne_of_none h1 he
  have nde : ∀ x d, valV kvs' (Sum.inl x) = some (.ref d) → d ≠ e := fun x d z => by
    rcases h3 x with ⟨no, _⟩ | ⟨d', bs2, k1, k2, _⟩
    · rw [z] at no
      cases no
    · rw [z] at k1
      rw [V.ref.inj (Option.some.inj k1)]
      exact ne_of_none k2 he
  refine ⟨putK kvs' (Sum.inl a) (.ref e), by rw [upd_ne neo]; exact upd_same, ?_, fun x => ?_, fun x x' d z z' => ?_⟩
  · rw [putK_new _ hv, List.length_append, List.length_append]
    exact Nat.succ_le_succ h2
  · rw [valV_put]
    by_cases hx : x = a
    · subst hx
      rw [if_pos rfl]
      refine .inr ⟨e, [b], rfl, ?_, by rw [List.length_append]; exact Nat.le_add_left _ _, neo.symm, fun y => ?_⟩
      · rw [upd_same]
        rfl
      · rw [List.mem_singleton, List.mem_append, List.mem_singleton]
        rcases h3 x with ⟨_, nn⟩ | ⟨d', bs2, k1, _⟩
        · exact ⟨fun z => .inr (by rw [z]), fun z => z.elim (fun q => absurd q (nn y)) fun q => (Prod.mk.inj q).2⟩
        · rw [hv] at k1
          cases k1
    · rw [if_neg (fun z => hx (Sum.inl.inj z))]
      have ne : ∀ y, (x, y) ∈ es ++ [(a, b)] ↔ (x, y) ∈ es := fun y => by
        rw [List.mem_append, List.mem_singleton]
        exact ⟨fun z => z.elim id fun q => absurd (Prod.mk.inj q).1 hx, .inl⟩
      rcases h3 x with ⟨no, nn⟩ | ⟨d', bs2, k1, k2, k3, k4, k5⟩
      · exact .inl ⟨no, fun y z => nn y ((ne y).mp z)⟩
      · have n2 : d' ≠ e := nde x d' k1
        exact .inr ⟨d', bs2, k1, by rw [upd_ne n2, upd_ne k4, upd_ne n2]; exact k2, by rw [List.length_append]; exact Nat.le_succ_of_le k3, k4, fun y => (k5 y).trans (ne y).symm⟩
  · rw [valV_put] at z z'
    by_cases hx : x = a
    · by_cases hx' : x' = a
      · rw [hx, hx']
      · rw [if_pos (by rw [hx])] at z
        rw [if_neg (fun q => hx' (Sum.inl.inj q))] at z'
        obtain rfl := V.ref.inj (Option.some.inj z)
        exact absurd rfl (nde _ _ z')
    · rw [if_neg (fun q => hx (Sum.inl.inj q))] at z
      by_cases hx' : x' = a
      · rw [if_pos (by rw [hx'])] at z'
        obtain rfl := V.ref.inj (Option.some.inj z')
        exact absurd rfl (nde _ _ z)
      · rw [if_neg (fun q => hx' (Sum.inl.inj q))] at z'
        exact h4 x x' d z z'
end K05

set_option Elab.async false
set_option linter.all false
set_option maxRecDepth 100000
set_option maxHeartbeats 4000000
/-! enumerate(t), t a tuple -/
namespace Own
open PySem PySem.Spec PyProof.Rows L2
/-- enumerate(v) of a thing of which iter(v) is a new object -/
theorem enum_one {v : Value} {o : Obj} {B : Heap → Prop} (b : Begins v o B) :
    Meets (Builtin.«enumerate.__new__» ⟨[.type "enumerate", v], []⟩) (fun _ R s => B s.heap ∧
      R (.ok (.ret (.ref (s.heap.push o).objs.size))) { s with heap := (s.heap.push o).push { cls := .type "enumerate", data := .fields #[.none, .bool false, .ref s.heap.objs.size, rawInt 0, .none, .none] } }) := by
  refine .of_wp fun prog w A R s h => ?_
  obtain ⟨hp, g, d, tk, os⟩ := s
  obtain ⟨hB, hR⟩ := h
  have ss := sub_enumerate
  have it : ∀ {A' : Around} {E : Value → Shared → Prop} {Q : Value → Shared → Prop}, Q (.ref hp.objs.size) ⟨hp.push o, g, d, tk, os⟩ → wpAny (model prog w) A' (pyIter v) Q E ⟨hp, g, d, tk, os⟩ :=
    fun z => b.iter prog w _ _ ⟨hp, g, d, tk, os⟩ _ hB z
  wp_walk using it
  refine wpAny_stack_any fun st => wpAny_pure ?_
  split
  · rename_i c _ _ _ _ _
    cases (c == Value.type "enumerate") <;>
    · wp_walk using it
      exact ⟨_, rfl, hR⟩
  · wp_walk using it
    exact ⟨_, rfl, hR⟩
theorem call_enumT {prog : Program} {w : World} {A : Around} {E : Value → Shared → Prop} {s : Shared} {l : Addr} {items : Array Value} {Q : Value → Shared → Prop} (hL : s.heap.IsTuple l items)
    (h : ∀ h', IsEnum h' (s.heap.objs.size + 1) s.heap.objs.size 0 .none → h'.IsTupleIter s.heap.objs.size l 0 → (∀ b o, s.heap.get? b = some o → h'.get? b = some o) → Q (.ref (s.heap.objs.size + 1)) { s with heap := h' }) :
    wpAny (model prog w) A (call (.type "enumerate") [.ref l]) Q E s := by
  have b := begins_tuple l items
  refine callType_new F.called_enumerate (by decide) (F.typeCall_enumerate_1 _) (F.newCall_enumerate_1 _) (fun obj => F.args_object_init_2 obj _) F.entry_enumerate_new (enum_one b) ⟨hL, ?_⟩
  generalize hit : ({ cls := .type "tuple_iterator", data := .fields #[.ref l, .int 0 0] } : Obj) = oi at b
  have fr : oi.isFreed = false := b.free
  have sz : (s.heap.push oi).objs.size = s.heap.objs.size + 1 := Heap.size_push ..
  show _ ∧ _
  rw [sz]
  have e1 := Heap.get?_push_size (s.heap.push oi) (o := { cls := .type "enumerate", data := .fields #[.none, .bool false, .ref s.heap.objs.size, rawInt 0, .none, .none] }) rfl
  rw [sz] at e1
  refine ⟨⟨_, e1, rfl⟩, h _ e1 ⟨oi, Heap.get?_push_of_some _ (Heap.get?_push_size _ fr), ?_, ?_⟩ fun b o x => Heap.get?_push_of_some _ (Heap.get?_push_of_some _ x)⟩
  · rw [← hit]
  · rw [← hit]
    rfl
theorem pyNext_enum_stopT {prog : Program} {w : World} {A : Around} {E : Value → Shared → Prop} {s : Shared} {e it l : Addr} {i : Nat} {items : Array Value} {old : Value} {Q : Option Value → Shared → Prop} (hh : A.handled = none)
    (he : IsEnum s.heap e it i old) (hit : s.heap.IsTupleIter it l i) (hl : s.heap.IsTuple l items) (hx : items[i]? = none) (hQ : ∀ h', Heap.ExtBut it s.heap h' → Q none { s with heap := h' }) : wpAny (model prog w) A (pyNext (.ref e)) Q E s := by
  have hT : s.TypeIs (.ref e) "enumerate" := ⟨_, he, rfl⟩
  unfold pyNext
  refine wpAny_bind (wpAny_attempt (wpAny_callSpecial?_slot (name := Str.ofString "__next__") hT F.slot_enumerate_next (wpAny_call_entry F.slot_enumerate_next hT F.entry_enumerate_next ?_ (F.args_enumerate_next_1 _))))
  show wpAny _ _ (field (.ref e) 2 >>= _) _ _ _
  refine wpAny_bind (wpAny_field he rfl (x := .ref it) rfl (wpAny_bind (wpAny_nextOf_tuple_end hh hit hl hx fun h' x eb hc => ?_)))
  obtain ⟨o, ho, hc⟩ := hc
  exact wpAny_bind (wpAny_isInstance (T := "StopIteration") (b := true) ⟨o, ho, hc⟩ isSubtype_stop (wpAny_pure (hQ _ eb)))
/-- the tuple at a, each item in a new pair -/
def IteT (K : PySem.W.Frag) (a : Addr) : It where
  go := fun i H => ∃ (xs : List V) (x : V), SqT K H a xs ∧ xs[i]? = some x
  yld := fun i H v H' => ∃ T x, v = .ref T ∧ H T = none ∧ H' = upd H T (.tup [.int (i : Nat), x]) ∧ ∀ xs, SqT K H a xs → xs[i]? = some x
  stop := fun i H => ∃ xs : List V, SqT K H a xs ∧ xs.length ≤ i
theorem turn_enumT {P : Program} {w : World} {K : PySem.W.Frag} {elts : List Expr} {kk : Nat} {tpos : Pos} (a e it : Addr) :
    Turn P w K (.Tuple elts kk tpos) (IteT K a) [e, it] e (fun i h => (∃ old, IsEnum h e it ((i : Nat) : Int) old) ∧ h.IsTupleIter it a i ∧ e ≠ it ∧ a ≠ it ∧ a ≠ e) where
  mem := by simp
  obj := fun i h st b hb => by
    obtain ⟨⟨old, he⟩, ⟨o, ho, _, hd⟩, _⟩ := st
    rcases (show b = e ∨ b = it by simpa using hb) with rfl | rfl
    · exact ⟨_, he, fun v q => nomatch q⟩
    · exact ⟨o, ho, fun v q => by rw [hd] at q; cases q⟩
  keep := fun i h h' st k => by
    obtain ⟨⟨old, he⟩, hi, r⟩ := st
    exact ⟨⟨old, k e (by simp) _ he⟩, hi.at fun o q => k it (by simp) o q, r⟩
  item := by
    intro X hP hw hK hc i pins s σ H E I hf st hg
    subst hP hw hK
    obtain ⟨⟨old, he⟩, hit, n1, n2, n3⟩ := st
    obtain ⟨xs, x, hq, hx⟩ := hg
    obtain ⟨its, rv, p, _⟩ := I.tuple hq
    obtain ⟨u, hu, ru⟩ := rv.get hx
    have le : e < s.heap.objs.size := Heap.lt_size he
    have li : it < s.heap.objs.size := by
      obtain ⟨_, q, _⟩ := hit
      exact Heap.lt_size q
    have hlt : i < its.toArray.size := by
      have z := (List.getElem?_eq_some_iff.mp hu).1
      simpa using z
    refine wpAny_pyNext_enum_itemD (A := X.A) (Draws.tuple (A := X.A.in1) (I.ok.hd hc) it a n2 its.toArray) he ⟨hit, show s.heap.IsTuple a its.toArray from p⟩ hlt n1 (by simp [n1, n3.symm]) fun x' h' tk hx' ho hst hT hsz hk => ?_
    obtain rfl : x' = u := by
      have z : its.toArray[i]? = some u := by simpa using hu
      exact Option.some.inj (hx'.symm.trans z)
    refine ⟨_, rfl, wpAny_letOwnedTupleGo_enum (s := { s with heap := h', toks := tk + 1 }) ho fun h'' he' sb => ?_⟩
    have hT2 : h''.get? s.heap.objs.size = some { cls := .type "tuple", data := .seq #[.int i tk, x'] } := (sb.2 _ (Nat.ne_of_gt le)).trans hT
    have new : ObjOk X.prog X.w (upd H s.heap.objs.size (.tup [.int (i : Nat), x])) h'' s.heap.objs.size (.tup [.int (i : Nat), x]) :=
      ⟨by show 2 ≤ sizeLine; decide, [.int i tk, x'], .cons ⟨_, rfl⟩ (.cons ru .nil), ⟨_, hT2, rfl, _, rfl⟩⟩
    have I1 : Inv X pins σ (upd H s.heap.objs.size (.tup [.int (i : Nat), x])) { s with heap := h'', toks := tk + 1 } :=
      I.turnedNew (ch := [e, it]) (fun b ob hb q => (sb.2 b (fun z => hb (by simp [z]))).trans (hk b ob (fun z => hb (by simp [z])) (fun z => hb (by simp [z])) q)) hf (Nat.le_refl _) new
    refine ⟨.ref s.heap.objs.size, _, I1, rfl, ⟨_, x, rfl, I.hok.fresh (Nat.le_refl _), rfl, fun ys hy => by rw [I.tuple_inj hy hq]; exact hx⟩, ⟨⟨x', ?_⟩, hst.1.at fun o q => (sb.2 it (Ne.symm n1)).trans q, n1, n2, n3⟩, fun b hb => ?_⟩
    · rw [show ((i + 1 : Nat) : Int) = (i : Int) + 1 by omega]
      exact he'
    · have hb' : b < s.heap.objs.size := by
        rcases (show b = e ∨ b = it by simpa using hb) with rfl | rfl
        · exact le
        · exact li
      rw [upd_ne (Nat.ne_of_lt hb')]
      exact (hf b hb).1
  done := by
    intro X hP hw hK hc i pins s σ H E I hf st hg
    subst hP hw hK
    obtain ⟨⟨old, he⟩, hit, n1, n2, n3⟩ := st
    obtain ⟨xs, hq, hx⟩ := hg
    obtain ⟨its, rv, p, _⟩ := I.tuple hq
    obtain ⟨f0, f1, f2, f3, f4, f5⟩ := hf it (by simp)
    have hl := rv.length
    have hd : its.toArray[i]? = none := by
      simp
      omega
    refine pyNext_enum_stopT (I.ok.hd hc) he hit (show s.heap.IsTuple a its.toArray from p) hd fun h' eb => ⟨rfl, I.turned (t' := s.toks) (fun b o hb q => eb b o hb q) f0 f1 f3 f4 f5⟩
  self := fun A i s Q E st h => by
    obtain ⟨⟨_, he⟩, _⟩ := st
    exact wpAny_pyIter_enum he h
def iEnumT (K : PySem.W.Frag) (ta : TA) : TI := fun σ H R => ta σ H fun vs H1 => ∃ a xs, vs = [.ref a] ∧ SqT K H1 a xs ∧ R (IteT K a) H1
theorem pi_enumT {X : Cx} {e : Expr} {ta : TA} {p pos tpos : Pos} {elts : List Expr} {kk : Nat} (hg : Gl X "enumerate") (hm : X.mg "enumerate" = none) (ha : PA X [e] ta) (hs : starEach [e] X.env = [(false, eval e X.env)] := by rfl) :
    PI X (.Tuple elts kk tpos) (.Call (.Name "enumerate" p) [e] [] pos) (iEnumT X.K ta) := by
  refine ⟨fun pins s σ H R I h => ?_⟩
  refine Call_ (ld_blt I hg hm boot_enumerate (PyProof.Rows.callWith_type1 (thn (ha.run pos pins s σ H _ I h) fun us s1 ⟨vs, H1, I1, r1, q1⟩ => ?_) hs rfl))
  obtain ⟨a, xs, rfl, hq, q⟩ := q1
  obtain ⟨v, rfl, rv⟩ : ∃ v, us = [v] ∧ RelV (.ref a) v := by
    cases r1 with
    | cons r rr =>
      cases rr
      exact ⟨_, rfl, r⟩
  cases rv
  obtain ⟨its, rv, p', hz⟩ := I1.tuple hq
  have pt : s1.heap.IsTuple a its.toArray := p'
  have la : a < s1.heap.objs.size := by
    obtain ⟨o, ho, _⟩ := pt
    exact Heap.lt_size ho
  refine call_enumT pt fun h' he hit hk => wpAny_pyIter_enum he ?_
  have I2 : Inv X pins σ H1 { s1 with heap := h' } := I1.kept (t' := s1.toks) hk
  refine ⟨s1.heap.objs.size + 1, [s1.heap.objs.size + 1, s1.heap.objs.size], _, _, H1, rfl, I2, turn_enumT a (s1.heap.objs.size + 1) s1.heap.objs.size, ⟨⟨.none, he⟩, hit, Nat.succ_ne_self _, Nat.ne_of_lt la, Nat.ne_of_lt (Nat.lt_succ_of_lt la)⟩, fun b hb => ?_, q⟩
  have hle : s1.heap.objs.size ≤ b := by
    rcases (show b = s1.heap.objs.size + 1 ∨ b = s1.heap.objs.size by simpa using hb) with z | z
    · rw [z]
      exact Nat.le_succ _
    · rw [z]
      exact Nat.le_refl _
  exact I1.fpOk hle (I1.hok.fresh hle)
theorem walk_enumT {K : PySem.W.Frag} {a : Addr} {xs : List V} : Walk (IteT K a) xs.length (fun H => SqT K H a xs) (YPair (fun i => some (.int (i : Nat))) (fun i => xs[i]?)) where
  goes := fun i _ hi q => ⟨xs, xs[i], q, by simp [hi]⟩
  stops := fun _ q => ⟨xs, q, Nat.le_refl _⟩
  yields := fun i H v H' _ q y => by
    obtain ⟨T, x, h1, h2, h3, h4⟩ := y
    exact ⟨T, .int (i : Nat), x, h1, h2, h3, rfl, h4 xs q⟩
/-- one of two ways to walk -/
theorem pi_or {X : Cx} {tg it : Expr} {w1 w2 : TI} (h : PI X tg it w1) (k : PI X tg it w2) : PI X tg it (fun σ H R => w1 σ H R ∨ w2 σ H R) := ⟨fun pins s σ H R I q => q.elim (h.run pins s σ H R I) (k.run pins s σ H R I)⟩
end Own

set_option Elab.async false
set_option linter.all false
set_option maxRecDepth 100000
set_option maxHeartbeats 8000000
namespace K05
open PySem PySem.Spec PyProof.Rows L2 Own
/-- the roads of length 0 -/
def zero1 : Option (List V) → List (Int × Int)
  | some [.int a, .int b, .int 0, _] => [(a, b)]
  | _ => []
def zeros (ss : List (Option (List V))) : List (Int × Int) := ss.flatMap zero1
theorem zero1_len (s : Option (List V)) : (zero1 s).length ≤ 1 := by
  unfold zero1
  split
  · exact Nat.le_refl _
  · exact Nat.zero_le _
theorem zeros_len : ∀ ss : List (Option (List V)), (zeros ss).length ≤ ss.length
  | [] => Nat.le_refl _
  | s :: r => by
    show (zero1 s ++ zeros r).length ≤ r.length + 1
    have h1 := zero1_len s
    have h2 := zeros_len r
    rw [List.length_append]
    omega
/-- at j is something that is no road, or a road that closes a ring -/
def BadAt (n : Int) (ss : List (Option (List V))) (j : Nat) : Prop := ∃ s, ss[j]? = some s ∧ (isRoad n s = false ∨ ∃ a b r, s = some [.int a, .int b, .int 0, r] ∧ Rch (zeros (ss.take j)) b a)
/-- what is told of the roads -/
def WRes (n : Int) (ss : List (Option (List V))) (r : V) : Prop := (r = .non ∧ ∀ j, j < ss.length → ¬ BadAt n ss j) ∨ ∃ j : Nat, r = .int j ∧ j < ss.length ∧ BadAt n ss j ∧ ∀ i, i < j → ¬ BadAt n ss i
/-- things of which each may be asked for its items -/
def Items (H : Hp) (xs : List V) : Prop := ∀ v ∈ xs, Shp H v ∧ ∀ ys, seqOf H v = some ys → ∀ y ∈ ys, Shp H y
theorem Items.same {H H' : Hp} {xs : List V} (h : Items H xs) (e : Same H H') : Items H' xs := fun v hv => by
  obtain ⟨h1, h2⟩ := h v hv
  refine ⟨h1.same e, fun ys hs y hy => ?_⟩
  rw [seq_same h1 e] at hs
  exact (h2 ys hs y hy).same e
theorem Items.seqs {H H' : Hp} {xs : List V} (h : Items H xs) (e : Same H H') : xs.map (seqOf H') = xs.map (seqOf H) := List.map_congr_left fun v hv => seq_same (h v hv).1 e
/-- a list or a tuple of these stands at a -/
def Sqs (H : Hp) (a : Addr) (xs : List V) : Prop := H a = some (.lst xs) ∨ H a = some (.tup xs)
theorem Sqs.same {H H' : Hp} {a : Addr} {xs : List V} (h : Sqs H a xs) (e : Same H H') : Sqs H' a xs := h.imp (fun z => e _ _ z) fun z => e _ _ z
theorem Sqs.seq {H : Hp} {a : Addr} {xs : List V} (h : Sqs H a xs) : seqOf H (.ref a) = some xs := h.elim seq_lst seq_tup
theorem Sqs.shp {H : Hp} {a : Addr} {xs : List V} (h : Sqs H a xs) : Shp H (.ref a) := h.elim (fun z => .inr (.inl ⟨a, xs, rfl, z⟩)) fun z => .inr (.inr (.inl ⟨a, xs, rfl, z⟩))
/-- enumerate over either -/
theorem enum_or {K : PySem.W.Frag} {ta : TA} {σ : L2.St} {H0 H : Hp} {a : Addr} {xs : List V} (hs : Sqs H0 a xs) (e : Same H0 H) {R : It → Hp → Prop} (hta : ∀ S : List V → Hp → Prop, S [.ref a] H → ta σ H S)
    (h : ∀ (J : It) (G : Hp → Prop), Walk J xs.length G (YPair (fun i => some (.int (i : Nat))) (fun i => xs[i]?)) → (∀ H', Same H0 H' → G H') → R J H) : iEnum K ta σ H R ∨ iEnumT K ta σ H R := by
  rcases hs with hs | hs
  · exact .inl (hta _ ⟨a, xs, rfl, SqL.of (e _ _ hs), h (Ite K a) _ walk_enum fun H' k => SqL.of (k _ _ hs)⟩)
  · exact .inr (hta _ ⟨a, xs, rfl, SqT.of (e _ _ hs), h (IteT K a) _ walk_enumT fun H' k => SqT.of (k _ _ hs)⟩)
/-- a for or a comprehension over either -/
theorem walk_or {K : PySem.W.Frag} {te : TE} {σ : L2.St} {H0 H : Hp} {a : Addr} {xs : List V} (hs : Sqs H0 a xs) (e : Same H0 H) {R : It → Hp → Prop} (hte : ∀ S : VK, S (.ref a) H → te σ H S)
    (h : ∀ (J : It) (G : Hp → Prop), Walk J xs.length G (YAt xs) → (∀ H', Same H0 H' → G H') → R J H) : iList K te σ H R ∨ iTup K te σ H R := by
  rcases hs with hs | hs
  · exact .inl (hte _ ⟨a, rfl, ⟨_, SqL.of (e _ _ hs)⟩, h (Itl K a) _ walk_list fun H' k => SqL.of (k _ _ hs)⟩)
  · exact .inr (hte _ ⟨a, rfl, ⟨_, SqT.of (e _ _ hs)⟩, h (Itt K a) _ walk_tup fun H' k => SqT.of (k _ _ hs)⟩)
def spWrong (res : Int → List (Option (List V)) → V → Prop) (K : PySem.W.Frag) : Sp := fun vs H Q _ => ∃ (n : Int) (v : V), vs = [.int n, v] ∧ Shp H v ∧
  ((seqOf H v = none ∧ ∀ H', Same H H' → Q (.int 0) H') ∨
   ∃ a xs, v = .ref a ∧ Sqs H a xs ∧ Items H xs ∧ xs.length ≤ 1000 ∧ ∀ H' r, Same H H' → res n (xs.map (seqOf H)) r → Q r H')
abbrev NWRoad : List Str := ["places", "roads", "onward", "index", "thing", "begin", "end", "length", "_"]
theorem scWRoad : FnScope NWRoad ["places", "roads"] (defScope sWrongRoad) := ⟨rfl, rfl, rfl, by decide +kernel, rfl, by decide +kernel, by decide +kernel⟩
structure WI (H : Hp) (n : Int) (a o : Addr) (xs : List V) (i : Nat) (σ : L2.St) (H' : Hp) : Prop where
  s : ∃ index thing b e l u, σ = [some (.int n), some (.ref a), some (.ref o), index, thing, b, e, l, u]
  k : Same H H'
  on : Onw H' o (zeros ((xs.map (seqOf H)).take i))
  f : ∀ kvs x d, H' o = some (.dK kvs) → valV kvs (Sum.inl x) = some (.ref d) → H d = none
  g : ∀ j, j < i → ¬ BadAt n (xs.map (seqOf H)) j
theorem road_of {n : Int} {s : Option (List V)} (h : isRoad n s = true) : ∃ x y l r : Int, s = some [.int x, .int y, .int l, .int r] ∧ x ≠ y ∧ 0 ≤ l := by
  match s, h with
  | some [x, y, l, r], h =>
    have h' : (isP n x && (isP n y && (!decide (x = y) && (isN l && (isN r && !decide (r = .int 0)))))) = true := h
    simp only [Bool.and_eq_true] at h'
    obtain ⟨h1, h2, h3, h4, h5, _⟩ := h'
    obtain ⟨xi, rfl⟩ := isP_int h1
    obtain ⟨yi, rfl⟩ := isP_int h2
    obtain ⟨li, rfl, l0⟩ := isN_int h4
    obtain ⟨ri, rfl, _⟩ := isN_int h5
    refine ⟨xi, yi, li, ri, rfl, fun z => ?_, l0⟩
    rw [z, decide_eq_true rfl] at h3
    cases h3
  | none, h => cases h
  | some [], h => cases h
  | some [_], h => cases h
  | some [_, _], h => cases h
  | some [_, _, _], h => cases h
  | some (_ :: _ :: _ :: _ :: _ :: _), h => cases h
section
variable {P : Program} {w : World} {K : PySem.W.Frag} {mg : Str → Option Value} {base : Heap}
theorem ok_wroad {f fI fN fL fPl fR fC : Addr} {fd fdI fdN fdL fdPl fdR fdC : FuncData} (F : Fun K "first_wrong_road" "first_wrong_road" sWrongRoad f fd) (T : Bt mg) (FI : Fun K "is_integer" "is_integer" sIsInt fI fdI) (gI : mg "is_integer" = some (.ref fI)) (bI : Binds K fdI ["thing"] [])
    (FN : Fun K "is_number" "is_number" sIsNum fN fdN) (gN : mg "is_number" = some (.ref fN)) (bN : Binds K fdN ["thing"] []) (FL : Fun K "is_list" "is_list" sIsList fL fdL) (gL : mg "is_list" = some (.ref fL)) (bL : Binds K fdL ["thing"] [])
    (FPl : Fun K "is_place" "is_place" sIsPlace fPl fdPl) (gPl : mg "is_place" = some (.ref fPl)) (bPl : Binds K fdPl ["places", "thing"] [])
    (FR : Fun K "is_road" "is_road" sIsRoad fR fdR) (gR : mg "is_road" = some (.ref fR)) (bR : Binds K fdR ["places", "thing"] [])
    (FC : Fun K "comes_to" "comes_to" sComes fC fdC) (gC : mg "comes_to" = some (.ref fC)) (bC : Binds K fdC ["onward", "begin", "end"] []) : FnOk P w K mg base CX0 5 f fd ["places", "roads"] (spWrong WRes K) := by
  have GL : FnOk P w K mg base CX0 1 fL fdL ["thing"] spLst := ok_isLst FL T
  have GR : FnOk P w K mg base CX0 4 fR fdR ["places", "thing"] spRoad := ok_isRoad FR T FI gI bI FN gN bN FL gL bL FPl gPl bPl
  have GC : FnOk P w K mg base CX0 1 fC fdC ["onward", "begin", "end"] spComes := ok_comes FC T
  refine F.ok scWRoad (fun vs H Q E h => ?_) (fun cdv A outer s H vs Q E hr h => ?_)
  · obtain ⟨n, v, rfl, _⟩ := h
    rfl
  · obtain ⟨n, v, rfl, hv, hc⟩ := h
    refine ⟨_, (pss_cons (ps_if (pt_not (pt_val (pe_call GL (hr.mono (by decide)) (by rfl) gL FL.kp bL .nil pass0 (pa_cons (pv 1) pa_nil)))) (pss_one (ps_ret pe_int)) pss_nil)
  (pss_cons (ps_set (i := 2) scWRoad.nd rfl (Or.inl rfl) pe_dnewK)
  (pss_cons (ps_for PassesOwn.never rfl (pi_or (pi_enum (by rfl) T.enum (pa_cons (pv 1) pa_nil)) (pi_enumT (by rfl) T.enum (pa_cons (pv 1) pa_nil))) (pg_tup rfl (pgs_cons (pg_name (i := 3) (x := "index") scWRoad.nd rfl (Or.inl rfl)) (pgs_cons (pg_name (i := 4) (x := "thing") scWRoad.nd rfl (Or.inl rfl)) pgs_nil))) (pss_cons (ps_if (pt_not (pt_val (pe_call GR hr (by rfl) gR FR.kp bR .nil pass0 (pa_cons (pv 0) (pa_cons (pv 4) pa_nil))))) (pss_one (ps_ret (pv 3))) pss_nil)
  (Evl.pss_cut (ps_asg (pv 4) (pg_or (pg_tup rfl (pgs_cons (pg_name (i := 5) (x := "begin") scWRoad.nd rfl (Or.inl rfl)) (pgs_cons (pg_name (i := 6) (x := "end") scWRoad.nd rfl (Or.inl rfl)) (pgs_cons (pg_name (i := 7) (x := "length") scWRoad.nd rfl (Or.inl rfl)) (pgs_cons (pg_name (i := 8) (x := "_") scWRoad.nd rfl (Or.inl rfl)) pgs_nil))))) (pg_unl rfl (pgs_cons (pg_name (i := 5) (x := "begin") scWRoad.nd rfl (Or.inl rfl)) (pgs_cons (pg_name (i := 6) (x := "end") scWRoad.nd rfl (Or.inl rfl)) (pgs_cons (pg_name (i := 7) (x := "length") scWRoad.nd rfl (Or.inl rfl)) (pgs_cons (pg_name (i := 8) (x := "_") scWRoad.nd rfl (Or.inl rfl)) pgs_nil)))))))
  (pss_one (ps_if (pt_cmpR op_eq (pv 7) pe_int (nomark _)) (pss_cons (ps_if (pt_val (pe_call GC (hr.mono (by decide)) (by rfl) gC FC.kp bC .nil pass0 (pa_cons (pv 2) (pa_cons (pv 6) (pa_cons (pv 5) pa_nil))))) (pss_one (ps_ret (pv 3))) pss_nil)
  (pss_one (ps_asg pe_bl (pg_sub (pe_dsetd (pv 2) (pv 5) pe_dnewK ⟨by rfl, by rfl, by rfl, by rfl⟩) (pv 6) (set_dict (hu_of hr)))))) pss_nil)))))
  (pss_one (ps_ret pe_non))))), ?_⟩
    refine ⟨_, rfl, v, rfl, hv, fun H1 e1 => ⟨_, rfl, ?_⟩⟩
    rcases hc with ⟨hs, k⟩ | ⟨a, xs, rfl, ha, it, lx, k⟩
    · rw [hs]
      exact k _ e1
    · rw [ha.seq]
      refine iteF (fun o ho => ?_)
      have e2 : Same H (upd H1 o (.dK [])) := e1.trans (same_new ho)
      have ho0 : H o = none := by
        cases e : H o with
        | none => rfl
        | some u =>
          rw [e1 _ _ e] at ho
          cases ho
      refine enum_or (K := K) ha e2 (fun S q => ⟨_, rfl, q⟩) fun J G wk hG => ?_
      refine for_it wk (WI H n a o xs) ⟨⟨_, _, _, _, _, _, rfl⟩, e2, ⟨[], upd_same, Nat.le_refl _, fun x => .inl ⟨rfl, fun y z => by cases z⟩, fun x x' d z => by cases z⟩, fun kvs x d z1 z2 => ?_, fun j hj => absurd hj (Nat.not_lt_zero j)⟩ (fun i σ' H' _ w => hG _ w.k) ?_ ?_
      · rw [upd_same] at z1
        rw [← HO.dK.inj (Option.some.inj z1)] at z2
        cases z2
      · rintro i x σ' H3 H4 hi ⟨⟨index, thing, b0, e0, l0, u0, rfl⟩, ks, O, fr, good⟩ ⟨t, x1, y1, rfl, ht, rfl, hx, hy⟩
        obtain rfl : V.int (i : Nat) = x1 := Option.some.inj hx
        have s4 := same_new (o := .tup [.int (i : Nat), y1]) ht
        have k4 := ks.trans s4
        have O4 := O.same s4
        refine ⟨t, _, rfl, SqT.of upd_same, rfl, _, _, rfl, _, _, rfl, rfl, ?_⟩
        have hy' : xs[i]? = some y1 := hy
        have hym := List.mem_of_getElem? hy'
        obtain ⟨sh, shi⟩ := it y1 hym
        have sh4 := sh.same k4
        have sq4 := seq_same sh k4
        have at_i : (xs.map (seqOf H))[i]? = some (seqOf H y1) := by
          rw [List.getElem?_map, hy']
          rfl
        have tk : (xs.map (seqOf H)).take (i + 1) = (xs.map (seqOf H)).take i ++ [seqOf H y1] := by
          rw [List.take_add_one, at_i]
          rfl
        have hlen : i < (xs.map (seqOf H)).length := by
          rw [List.length_map]
          exact hi
        refine ⟨_, rfl, _, rfl, n, y1, rfl, sh4, (fun ys e y m => ?_), fun H5 e5 => ?_⟩
        · rw [sq4] at e
          exact (shi ys e y m).same k4
        rw [sq4]
        have k5 := k4.trans e5
        have O5 := O4.same e5
        have fr5 : ∀ kvs x d, H5 o = some (.dK kvs) → valV kvs (Sum.inl x) = some (.ref d) → H d = none := fun kvs x d z1 z2 => by
          obtain ⟨kvs', h1, _⟩ := O
          have z3 := e5 _ _ (s4 _ _ h1)
          rw [z1] at z3
          have z4 : kvs = kvs' := HO.dK.inj (Option.some.inj z3)
          rw [z4] at z2
          exact fr kvs' x d h1 z2
        refine ⟨_, rfl, ?_⟩
        cases hR : isRoad n (seqOf H y1) with
        | false => exact iteT ⟨_, rfl, k _ _ k5 (.inr ⟨i, rfl, hlen, ⟨_, at_i, .inl hR⟩, good⟩)⟩
        | true =>
          refine iteF ?_
          obtain ⟨p, q, l, r, es, npq, l0⟩ := road_of hR
          obtain ⟨a1, rfl, ha1⟩ := sq_of (K := K) sh es
          refine ⟨fun σ' H' => H' = H5 ∧ σ' = [some (.int n), some (.ref a), some (.ref o), some (.int (i : Nat)), some (.ref a1), some (.int p), some (.int q), some (.int l), some (.int r)], ?_, ?_⟩
          · refine ⟨_, rfl, ?_⟩
            rcases ha1 with ha1 | ha1
            · exact .inr ⟨a1, _, rfl, SqL.of (k5 _ _ ha1), rfl, _, _, rfl, _, _, rfl, _, _, rfl, _, _, rfl, rfl, rfl, rfl⟩
            · exact .inl ⟨a1, _, rfl, SqT.of (k5 _ _ ha1), rfl, _, _, rfl, _, _, rfl, _, _, rfl, _, _, rfl, rfl, rfl, rfl⟩
          · rintro σ' H' ⟨rfl, rfl⟩
            have tz : zeros ((xs.map (seqOf H)).take (i + 1)) = zeros ((xs.map (seqOf H)).take i) ++ zero1 (seqOf H (.ref a1)) := by
              rw [tk]
              unfold zeros
              rw [List.flatMap_append]
              show _ = _ ++ zero1 (seqOf H (.ref a1))
              rw [List.flatMap_cons, List.flatMap_nil, List.append_nil]
            have lz : (zeros ((xs.map (seqOf H)).take i)).length ≤ 1000 := by
              refine Nat.le_trans (zeros_len _) ?_
              rw [List.length_take, List.length_map]
              omega
            have nobad : ∀ j, j < i + 1 → (j = i → ¬ BadAt n (xs.map (seqOf H)) i) → ¬ BadAt n (xs.map (seqOf H)) j := fun j hj hi2 => by
              by_cases z : j = i
              · rw [z]
                exact hi2 z
              · exact good j (by omega)
            refine ⟨_, rfl, rfl, _, rfl, ite2 (fun hl => ?_) (fun hl => ?_)⟩
            · obtain rfl : l = 0 := V.int.inj (of_decide_eq_true hl)
              have z1 : zero1 (seqOf H (.ref a1)) = [(p, q)] := by
                rw [es]
                rfl
              rw [z1] at tz
              refine ⟨_, rfl, _, rfl, _, rfl, o, q, p, _, rfl, O5, lz, fun H6 c e6 hc => ⟨_, rfl, ?_⟩⟩
              have k6 := k5.trans e6
              have O6 := O5.same e6
              cases c with
              | true => exact iteT ⟨_, rfl, k _ _ k6 (.inr ⟨i, rfl, hlen, ⟨_, at_i, .inr ⟨p, q, _, es, hc.mp rfl⟩⟩, good⟩)⟩
              | false =>
                have nr : ¬ Rch (zeros ((xs.map (seqOf H)).take i)) q p := fun z => by
                  have := hc.mpr z
                  cases this
                have nb : ¬ BadAt n (xs.map (seqOf H)) i := fun ⟨s', h1, h2⟩ => by
                  rw [at_i] at h1
                  rw [← Option.some.inj h1] at h2
                  rcases h2 with h2 | ⟨a', b', r', h2, h3⟩
                  · rw [hR] at h2
                    cases h2
                  · rw [es] at h2
                    obtain ⟨y1', y2⟩ := List.cons.inj (Option.some.inj h2)
                    obtain ⟨y3, _⟩ := List.cons.inj y2
                    rw [← V.int.inj y1', ← V.int.inj y3] at h3
                    exact nr h3
                obtain ⟨kvs, h1, h2, h3, h4⟩ := O6
                have O6 : Onw H6 o (zeros ((xs.map (seqOf H)).take i)) := ⟨kvs, h1, h2, h3, h4⟩
                have fr6 : ∀ x d, valV kvs (Sum.inl x) = some (.ref d) → H d = none := fun x d z => by
                  obtain ⟨kvs', g1, _⟩ := O5
                  have g2 := e6 _ _ g1
                  rw [h1] at g2
                  have g3 : kvs = kvs' := HO.dK.inj (Option.some.inj g2)
                  rw [g3] at z
                  exact fr5 kvs' x d g1 z
                refine iteF ⟨_, rfl, o, rfl, .inl ⟨kvs, .inl h1⟩, _, rfl, fun e he => ⟨kvs, Sum.inl p, same_new he _ _ h1, rfl, Nat.lt_of_le_of_lt (Nat.le_trans h2 lz) (by decide), fun v hv => ?_, fun hv => ?_⟩⟩
                · rcases h3 p with ⟨no, _⟩ | ⟨d, bs, m1, m2, m3, m4, m5⟩
                  · rw [hv] at no
                    cases no
                  · rw [hv] at m1
                    obtain rfl := Option.some.inj m1
                    have O7 := O6.same (same_new (o := .dK []) he)
                    have h1' := same_new (o := .dK []) he _ _ h1
                    have m2' := same_new (o := .dK []) he _ _ m2
                    have hd0 := fr6 p d hv
                    refine ⟨_, rfl, d, _, rfl, DPut.k (k := Sum.inl q) m2' (by rw [trueD_len]; exact Nat.lt_of_le_of_lt (Nat.le_trans m3 lz) (by decide)), ?_⟩
                    refine ⟨⟨_, _, _, _, _, _, rfl⟩, fun b u z => ?_, ?_, fun kvs' x d' z z2 => ?_, fun j hj => nobad j hj fun _ => nb⟩
                    · rw [upd_ne (ne_of_none z hd0)]
                      exact same_new he _ _ (k6 _ _ z)
                    · rw [tz]
                      exact O7.old h1' hv m2' m4
                    · rw [upd_ne m4.symm, h1'] at z
                      rw [← HO.dK.inj (Option.some.inj z)] at z2
                      exact fr6 x d' z2
                · have O8 := O6.fresh (b := q) h1 hv he
                  have neo : o ≠ e := ne_of_none h1 he
                  have he0 : H e = none := by
                    cases z : H e with
                    | none => rfl
                    | some u =>
                      rw [k6 _ _ z] at he
                      cases he
                  have ce : upd (upd H6 e (.dK [])) o (.dK (putK kvs (Sum.inl p) (.ref e))) e = some (.dK []) := by
                    rw [upd_ne neo.symm]
                    exact upd_same
                  refine ⟨_, rfl, e, _, rfl, DPut.k (k := Sum.inl q) ce (by decide), ?_⟩
                  refine ⟨⟨_, _, _, _, _, _, rfl⟩, fun b u z => ?_, ?_, fun kvs' x d' z z2 => ?_, fun j hj => nobad j hj fun _ => nb⟩
                  · rw [upd_ne (ne_of_none z he0), upd_ne (ne_of_none z ho0), upd_ne (ne_of_none z he0)]
                    exact k6 _ _ z
                  · rw [tz]
                    exact O8
                  · rw [upd_ne neo, upd_same] at z
                    rw [← HO.dK.inj (Option.some.inj z), valV_put] at z2
                    by_cases hx2 : (Sum.inl x : Key) = Sum.inl p
                    · rw [if_pos hx2] at z2
                      rw [← V.ref.inj (Option.some.inj z2)]
                      exact he0
                    · rw [if_neg hx2] at z2
                      exact fr6 x d' z2
            · have nl : l ≠ 0 := fun z => hl (by rw [z]; rfl)
              have z1 : zero1 (seqOf H (.ref a1)) = [] := by
                rw [es]
                unfold zero1
                split
                · rename_i hh
                  obtain ⟨_, y2⟩ := List.cons.inj (Option.some.inj hh)
                  obtain ⟨_, y3⟩ := List.cons.inj y2
                  exact absurd (V.int.inj (List.cons.inj y3).1) nl
                · rfl
              rw [z1, List.append_nil] at tz
              have nb : ¬ BadAt n (xs.map (seqOf H)) i := fun ⟨s', h1, h2⟩ => by
                rw [at_i] at h1
                rw [← Option.some.inj h1] at h2
                rcases h2 with h2 | ⟨a', b', r', h2, h3⟩
                · rw [hR] at h2
                  cases h2
                · rw [es] at h2
                  obtain ⟨_, y2⟩ := List.cons.inj (Option.some.inj h2)
                  obtain ⟨_, y3⟩ := List.cons.inj y2
                  exact nl (V.int.inj (List.cons.inj y3).1)
              refine ⟨⟨_, _, _, _, _, _, rfl⟩, k5, ?_, fr5, fun j hj => nobad j hj fun _ => nb⟩
              rw [tz]
              exact O5
      · rintro σ' H3 w
        have lenx : (xs.map (seqOf H)).length = xs.length := List.length_map _
        exact k _ _ w.k (.inl ⟨rfl, fun j hj => w.g j (by rw [← lenx]; exact hj)⟩)
end
end K05

set_option Elab.async false
set_option linter.all false
set_option maxRecDepth 100000
set_option maxHeartbeats 8000000
namespace K05
open PySem PySem.Spec PyProof.Rows L2 Own
/-- at j is something that is no door, or a door of the other sort at its place -/
def BadD (n : Int) (ss : List (Option (List V))) (j : Nat) : Prop := ∃ s, ss[j]? = some s ∧ (isDoor n s = false ∨ ∃ z p h i z' h', s = some [.str z, .int p, h] ∧ i < j ∧ ss[i]? = some (some [.str z', .int p, h']) ∧ z' ≠ z)
def DRes (n : Int) (ss : List (Option (List V))) (r : V) : Prop := (r = .non ∧ ∀ j, j < ss.length → ¬ BadD n ss j) ∨ ∃ j : Nat, r = .int j ∧ j < ss.length ∧ BadD n ss j ∧ ∀ i, i < j → ¬ BadD n ss i
abbrev NWDoor : List Str := ["places", "doors", "sorts", "index", "thing", "sort", "place", "_"]
theorem scWDoor : FnScope NWDoor ["places", "doors"] (defScope sWrongDoor) := ⟨rfl, rfl, rfl, by decide +kernel, rfl, by decide +kernel, by decide +kernel⟩
theorem door_of {n : Int} {s : Option (List V)} (h : isDoor n s = true) : ∃ (z : Str) (p h : Int), s = some [.str z, .int p, .int h] := by
  match s, h with
  | some [z, p, l], h =>
    have h' : (isIO z && (isP n p && isN l)) = true := h
    simp only [Bool.and_eq_true] at h'
    obtain ⟨h1, h2, h3⟩ := h'
    obtain ⟨pi, rfl⟩ := isP_int h2
    obtain ⟨li, rfl, l0⟩ := isN_int h3
    cases z with
    | str z => exact ⟨z, pi, li, rfl⟩
    | _ => cases h1
  | none, h => cases h
  | some [], h => cases h
  | some [_], h => cases h
  | some [_, _], h => cases h
  | some (_ :: _ :: _ :: _ :: _), h => cases h
/-- the sorts so far -/
structure Srt (ss : List (Option (List V))) (kvs : List (Key × V)) (i : Nat) : Prop where
  l : kvs.length ≤ i
  e : ∀ p : Int, (valV kvs (Sum.inl p) = none ∧ ∀ j, j < i → ∀ z h, ss[j]? ≠ some (some [.str z, .int p, h])) ∨
    ∃ z, valV kvs (Sum.inl p) = some (.str z) ∧ (∃ j h, j < i ∧ ss[j]? = some (some [.str z, .int p, h])) ∧ ∀ j, j < i → ∀ z' h, ss[j]? = some (some [.str z', .int p, h]) → z' = z
structure DI (H : Hp) (n : Int) (a o : Addr) (xs : List V) (i : Nat) (σ : L2.St) (H' : Hp) : Prop where
  s : ∃ index thing b e l, σ = [some (.int n), some (.ref a), some (.ref o), index, thing, b, e, l]
  k : Same H H'
  on : ∃ kvs, H' o = some (.dK kvs) ∧ Srt (xs.map (seqOf H)) kvs i
  g : ∀ j, j < i → ¬ BadD n (xs.map (seqOf H)) j
section
variable {P : Program} {w : World} {K : PySem.W.Frag} {mg : Str → Option Value} {base : Heap}
theorem ok_wdoor {f fI fN fL fPl fR : Addr} {fd fdI fdN fdL fdPl fdR : FuncData} (F : Fun K "first_wrong_door" "first_wrong_door" sWrongDoor f fd) (T : Bt mg) (FI : Fun K "is_integer" "is_integer" sIsInt fI fdI) (gI : mg "is_integer" = some (.ref fI)) (bI : Binds K fdI ["thing"] [])
    (FN : Fun K "is_number" "is_number" sIsNum fN fdN) (gN : mg "is_number" = some (.ref fN)) (bN : Binds K fdN ["thing"] []) (FL : Fun K "is_list" "is_list" sIsList fL fdL) (gL : mg "is_list" = some (.ref fL)) (bL : Binds K fdL ["thing"] [])
    (FPl : Fun K "is_place" "is_place" sIsPlace fPl fdPl) (gPl : mg "is_place" = some (.ref fPl)) (bPl : Binds K fdPl ["places", "thing"] [])
    (FR : Fun K "is_door" "is_door" sIsDoor fR fdR) (gR : mg "is_door" = some (.ref fR)) (bR : Binds K fdR ["places", "thing"] []) : FnOk P w K mg base CX0 5 f fd ["places", "doors"] (spWrong DRes K) := by
  have GL : FnOk P w K mg base CX0 1 fL fdL ["thing"] spLst := ok_isLst FL T
  have GR : FnOk P w K mg base CX0 4 fR fdR ["places", "thing"] spDoor := ok_isDoor FR T FI gI bI FN gN bN FL gL bL FPl gPl bPl
  refine F.ok scWDoor (fun vs H Q E h => ?_) (fun cdv A outer s H vs Q E hr h => ?_)
  · obtain ⟨n, v, rfl, _⟩ := h
    rfl
  · obtain ⟨n, v, rfl, hv, hc⟩ := h
    refine ⟨_, (pss_cons (ps_if (pt_not (pt_val (pe_call GL (hr.mono (by decide)) (by rfl) gL FL.kp bL .nil pass0 (pa_cons (pv 1) pa_nil)))) (pss_one (ps_ret pe_int)) pss_nil)
  (pss_cons (ps_set (i := 2) scWDoor.nd rfl (Or.inl rfl) pe_dnewK)
  (pss_cons (ps_for PassesOwn.never rfl (pi_or (pi_enum (by rfl) T.enum (pa_cons (pv 1) pa_nil)) (pi_enumT (by rfl) T.enum (pa_cons (pv 1) pa_nil))) (pg_tup rfl (pgs_cons (pg_name (i := 3) (x := "index") scWDoor.nd rfl (Or.inl rfl)) (pgs_cons (pg_name (i := 4) (x := "thing") scWDoor.nd rfl (Or.inl rfl)) pgs_nil))) (pss_cons (ps_if (pt_not (pt_val (pe_call GR hr (by rfl) gR FR.kp bR .nil pass0 (pa_cons (pv 0) (pa_cons (pv 4) pa_nil))))) (pss_one (ps_ret (pv 3))) pss_nil)
  (Evl.pss_cut (ps_asg (pv 4) (pg_or (pg_tup rfl (pgs_cons (pg_name (i := 5) (x := "sort") scWDoor.nd rfl (Or.inl rfl)) (pgs_cons (pg_name (i := 6) (x := "place") scWDoor.nd rfl (Or.inl rfl)) (pgs_cons (pg_name (i := 7) (x := "_") scWDoor.nd rfl (Or.inl rfl)) pgs_nil)))) (pg_unl rfl (pgs_cons (pg_name (i := 5) (x := "sort") scWDoor.nd rfl (Or.inl rfl)) (pgs_cons (pg_name (i := 6) (x := "place") scWDoor.nd rfl (Or.inl rfl)) (pgs_cons (pg_name (i := 7) (x := "_") scWDoor.nd rfl (Or.inl rfl)) pgs_nil))))))
  (pss_one (ps_if (pt_cmpR op_ne (pe_dsetd (pv 2) (pv 6) (pv 5) ⟨by rfl, by rfl, by rfl, by rfl⟩) (pv 5) (nomark _)) (pss_one (ps_ret (pv 3))) pss_nil)))))
  (pss_one (ps_ret pe_non))))), ?_⟩
    refine ⟨_, rfl, v, rfl, hv, fun H1 e1 => ⟨_, rfl, ?_⟩⟩
    rcases hc with ⟨hs, k⟩ | ⟨a, xs, rfl, ha, it, lx, k⟩
    · rw [hs]
      exact k _ e1
    · rw [ha.seq]
      refine iteF (fun o ho => ?_)
      have e2 : Same H (upd H1 o (.dK [])) := e1.trans (same_new ho)
      have ho0 : H o = none := by
        cases e : H o with
        | none => rfl
        | some u =>
          rw [e1 _ _ e] at ho
          cases ho
      refine enum_or (K := K) ha e2 (fun S q => ⟨_, rfl, q⟩) fun J G wk hG => ?_
      refine for_it wk (DI H n a o xs) ⟨⟨_, _, _, _, _, rfl⟩, e2, ⟨[], upd_same, Nat.le_refl _, fun p => .inl ⟨rfl, fun j hj => absurd hj (Nat.not_lt_zero j)⟩⟩, fun j hj => absurd hj (Nat.not_lt_zero j)⟩ (fun i σ' H' _ w => hG _ w.k) ?_ ?_
      · rintro i x σ' H3 H4 hi ⟨⟨index, thing, b0, e0, l0, rfl⟩, ks, ⟨kvs, hk, sr⟩, good⟩ ⟨t, x1, y1, rfl, ht, rfl, hx, hy⟩
        obtain rfl : V.int (i : Nat) = x1 := Option.some.inj hx
        have s4 := same_new (o := .tup [.int (i : Nat), y1]) ht
        have k4 := ks.trans s4
        refine ⟨t, _, rfl, SqT.of upd_same, rfl, _, _, rfl, _, _, rfl, rfl, ?_⟩
        have hy' : xs[i]? = some y1 := hy
        have hym := List.mem_of_getElem? hy'
        obtain ⟨sh, shi⟩ := it y1 hym
        have sh4 := sh.same k4
        have sq4 := seq_same sh k4
        have at_i : (xs.map (seqOf H))[i]? = some (seqOf H y1) := by
          rw [List.getElem?_map, hy']
          rfl
        have hlen : i < (xs.map (seqOf H)).length := by
          rw [List.length_map]
          exact hi
        refine ⟨_, rfl, _, rfl, n, y1, rfl, sh4, (fun ys e y m => ?_), fun H5 e5 => ?_⟩
        · rw [sq4] at e
          exact (shi ys e y m).same k4
        rw [sq4]
        have k5 := k4.trans e5
        have hk5 := e5 _ _ (s4 _ _ hk)
        refine ⟨_, rfl, ?_⟩
        cases hR : isDoor n (seqOf H y1) with
        | false => exact iteT ⟨_, rfl, k _ _ k5 (.inr ⟨i, rfl, hlen, ⟨_, at_i, .inl hR⟩, good⟩)⟩
        | true =>
          refine iteF ?_
          obtain ⟨z, p, h, es⟩ := door_of hR
          obtain ⟨a1, rfl, ha1⟩ := sq_of (K := K) sh es
          refine ⟨fun σ' H' => H' = H5 ∧ σ' = [some (.int n), some (.ref a), some (.ref o), some (.int (i : Nat)), some (.ref a1), some (.str z), some (.int p), some (.int h)], ?_, ?_⟩
          · refine ⟨_, rfl, ?_⟩
            rcases ha1 with ha1 | ha1
            · exact .inr ⟨a1, _, rfl, SqL.of (k5 _ _ ha1), rfl, _, _, rfl, _, _, rfl, _, _, rfl, rfl, rfl, rfl⟩
            · exact .inl ⟨a1, _, rfl, SqT.of (k5 _ _ ha1), rfl, _, _, rfl, _, _, rfl, _, _, rfl, rfl, rfl, rfl⟩
          · rintro σ' H' ⟨rfl, rfl⟩
            rw [es] at at_i
            have nobad : ∀ j, j < i + 1 → (j = i → ¬ BadD n (xs.map (seqOf H)) i) → ¬ BadD n (xs.map (seqOf H)) j := fun j hj hi2 => by
              by_cases z : j = i
              · rw [z]
                exact hi2 z
              · exact good j (by omega)
            have same_at : ∀ {z' p' h'}, (xs.map (seqOf H))[i]? = some (some [.str z', .int p', h']) → z' = z ∧ p' = p := fun {z' p' h'} g => by
              rw [at_i] at g
              obtain ⟨g1, g2⟩ := List.cons.inj (Option.some.inj (Option.some.inj g))
              exact ⟨(V.str.inj g1).symm, (V.int.inj (List.cons.inj g2).1).symm⟩
            have nb : (∀ j, j < i → ∀ z' h', (xs.map (seqOf H))[j]? = some (some [.str z', .int p, h']) → z' = z) → ¬ BadD n (xs.map (seqOf H)) i := fun hh ⟨s', g1, g2⟩ => by
              rw [at_i] at g1
              rw [← Option.some.inj g1] at g2
              rcases g2 with g2 | ⟨z2, p2, h2, i2, z3, h3, g2, g3, g4, g5⟩
              · rw [es] at hR
                rw [hR] at g2
                cases g2
              · obtain ⟨q1, q2⟩ := List.cons.inj (Option.some.inj g2)
                obtain rfl := V.str.inj q1
                obtain rfl := V.int.inj (List.cons.inj q2).1
                exact g5 (hh i2 g3 z3 h3 g4)
            have ll : kvs.length < sizeLine := Nat.lt_of_le_of_lt (Nat.le_trans sr.l (show i ≤ 1000 by omega)) (by decide)
            refine ⟨_, rfl, o, rfl, .inl ⟨kvs, .inl hk5⟩, _, rfl, _, rfl, kvs, Sum.inl p, hk5, rfl, ll, fun v hv => ?_, fun hv => ?_⟩
            · rcases sr.e p with ⟨no, _⟩ | ⟨z0, m1, ⟨j0, h0, m2, m3⟩, m4⟩
              · rw [hv] at no
                cases no
              · rw [hv] at m1
                obtain rfl := Option.some.inj m1
                refine ⟨_, rfl, rfl, _, rfl, ite2 (fun hc => ?_) (fun hc => ?_)⟩
                · have nz : z0 ≠ z := fun q => by
                    rw [q, decide_eq_true rfl] at hc
                    cases hc
                  exact ⟨_, rfl, k _ _ k5 (.inr ⟨i, rfl, hlen, ⟨_, at_i, .inr ⟨z, p, _, j0, z0, h0, rfl, m2, m3, nz⟩⟩, good⟩)⟩
                · have ez : z0 = z := by
                    have q : decide (V.str z0 = V.str z) = true := by simpa using hc
                    exact V.str.inj (of_decide_eq_true q)
                  subst ez
                  refine ⟨⟨_, _, _, _, _, rfl⟩, k5, ⟨kvs, hk5, Nat.le_succ_of_le sr.l, fun p' => ?_⟩, fun j hj => nobad j hj fun _ => nb fun j' hj' z' h' g => m4 j' hj' z' h' g⟩
                  by_cases hp : p' = p
                  · subst hp
                    refine .inr ⟨z0, hv, ⟨j0, h0, Nat.lt_succ_of_lt m2, m3⟩, fun j hj z' h' g => ?_⟩
                    by_cases q : j = i
                    · rw [q] at g
                      exact (same_at g).1
                    · exact m4 j (by omega) z' h' g
                  · rcases sr.e p' with ⟨no, nn⟩ | ⟨z1, q1, ⟨j1, h1, q2, q3⟩, q4⟩
                    · refine .inl ⟨no, fun j hj z' h' g => ?_⟩
                      by_cases q : j = i
                      · rw [q] at g
                        exact hp (same_at g).2
                      · exact nn j (by omega) z' h' g
                    · refine .inr ⟨z1, q1, ⟨j1, h1, Nat.lt_succ_of_lt q2, q3⟩, fun j hj z' h' g => ?_⟩
                      by_cases q : j = i
                      · rw [q] at g
                        exact absurd (same_at g).2 hp
                      · exact q4 j (by omega) z' h' g
            · have nn0 : ∀ j, j < i → ∀ z' h', (xs.map (seqOf H))[j]? ≠ some (some [.str z', .int p, h']) := by
                rcases sr.e p with ⟨_, nn⟩ | ⟨z0, m1, _⟩
                · exact nn
                · rw [hv] at m1
                  cases m1
              refine ⟨_, rfl, rfl, _, rfl, iteNS rfl ?_⟩
              refine ⟨⟨_, _, _, _, _, rfl⟩, fun b u q => ?_, ⟨_, upd_same, ?_, fun p' => ?_⟩, fun j hj => nobad j hj fun _ => nb fun j' hj' z' h' g => absurd g (nn0 j' hj' z' h')⟩
              · rw [upd_ne (ne_of_none q ho0)]
                exact k5 _ _ q
              · rw [putK_new _ hv, List.length_append]
                exact Nat.succ_le_succ sr.l
              · rw [valV_put]
                by_cases hp : p' = p
                · subst hp
                  rw [if_pos rfl]
                  refine .inr ⟨z, rfl, ⟨i, _, Nat.lt_succ_self i, at_i⟩, fun j hj z' h' g => ?_⟩
                  by_cases q : j = i
                  · rw [q] at g
                    exact (same_at g).1
                  · exact absurd g (nn0 j (by omega) z' h')
                · rw [if_neg (fun q => hp (Sum.inl.inj q))]
                  rcases sr.e p' with ⟨no, nn⟩ | ⟨z1, q1, ⟨j1, h1, q2, q3⟩, q4⟩
                  · refine .inl ⟨no, fun j hj z' h' g => ?_⟩
                    by_cases q : j = i
                    · rw [q] at g
                      exact hp (same_at g).2
                    · exact nn j (by omega) z' h' g
                  · refine .inr ⟨z1, q1, ⟨j1, h1, Nat.lt_succ_of_lt q2, q3⟩, fun j hj z' h' g => ?_⟩
                    by_cases q : j = i
                    · rw [q] at g
                      exact absurd (same_at g).2 hp
                    · exact q4 j (by omega) z' h' g
      · rintro σ' H3 w
        have lenx : (xs.map (seqOf H)).length = xs.length := List.length_map _
        exact k _ _ w.k (.inl ⟨rfl, fun j hj => w.g j (by rw [← lenx]; exact hj)⟩)
end
end K05

set_option Elab.async false
set_option linter.all false
set_option maxRecDepth 100000
set_option maxHeartbeats 8000000
namespace K05
open PySem PySem.Spec PyProof.Rows L2 Own
theorem pe_tupK {X : Cx} {K : PySem.W.Frag} {a : Expr} {ta : TE} {p pos : Pos} (h : X.K = K) (hg : Gl X "tuple") (hm : X.mg "tuple" = none) (ha : PE X a ta) (hs : starEach [a] X.env = (false, eval a X.env) :: starEach [] X.env := by rfl) : PE X (.Call (.Name "tuple" p) [a] [] pos) (tThen ta (kTup K)) := by
  subst h
  exact pe_tupleOf hg hm ha hs
/-- the class House -/
structure HC (K : PySem.W.Frag) (C : Addr) : Prop where
  cl : Cls K C
  nP : NoAttr K C "_places"
  nR : NoAttr K C "_roads"
  nD : NoAttr K C "_doors"
/-- an error of one field leaves, all else stays -/
def Out (H : Hp) (E : XK) (C : Addr) (f : Str) (v : V) : Prop := ∀ d H', H d = none → Same H H' → H' d = some (.xd [(f, v)]) → E (.ref C) (some d) H'
theorem none_back {H H1 : Hp} {d : Addr} (e : Same H H1) (h : H1 d = none) : H d = none := by
  cases z : H d with
  | none => rfl
  | some u =>
    rw [e _ _ z] at h
    cases h
theorem Out.at {H H1 : Hp} {E : XK} {C : Addr} {f : Str} {v : V} (o : Out H E C f v) (e : Same H H1) : ∀ d H2, H1 d = none → (∀ b u, H1 b = some u → H2 b = some u) → H2 d = some (.xd [(f, v)]) → E (.ref C) (some d) H2 := fun d H2 nd sm hd => o d H2 (none_back e nd) (e.trans sm) hd
/-- each item as a tuple -/
def Tupd (H H' : Hp) (xs rs : List V) : Prop := Paired (fun v w => ∃ b t, w = V.ref b ∧ H' b = some (.tup t) ∧ seqOf H v = some t) xs rs
theorem Tupd.mono {H H1 H2 : Hp} {xs rs : List V} (t : Tupd H H1 xs rs) (k : ∀ b u, H1 b = some (.tup u) → H2 b = some (.tup u)) : Tupd H H2 xs rs := by
  unfold Tupd at t ⊢
  induction t with
  | nil => exact .nil
  | cons h _ ih =>
    obtain ⟨b, u, e1, e2, e3⟩ := h
    exact .cons ⟨b, u, e1, k _ _ e2, e3⟩ ih
theorem Tupd.snoc {H H1 : Hp} {v w : V} : ∀ {xs rs : List V}, Tupd H H1 xs rs → (∃ b t, w = V.ref b ∧ H1 b = some (.tup t) ∧ seqOf H v = some t) → Tupd H H1 (xs ++ [v]) (rs ++ [w])
  | _, _, .nil, h => .cons h .nil
  | _, _, .cons h0 t, h => .cons h0 (Tupd.snoc t h)
theorem pf0 (v : V) : putF "_places" v [] = [(("_places" : Str), v)] := rfl
theorem pf1 (v w : V) : putF "_roads" v [(("_places" : Str), w)] = [(("_places" : Str), w), (("_roads" : Str), v)] := by
  unfold putF
  rw [if_neg (by decide)]
  rfl
theorem pf2 (u v w : V) : putF "_doors" u [(("_places" : Str), w), (("_roads" : Str), v)] = [(("_places" : Str), w), (("_roads" : Str), v), (("_doors" : Str), u)] := by
  unfold putF
  rw [if_neg (by decide)]
  unfold putF
  rw [if_neg (by decide)]
  rfl
theorem all_seq {n : Int} {H : Hp} {xs : List V} (P : Option (List V) → Bool) (hP : ∀ s, P s = true → ∃ t, s = some t) (h : ∀ j, j < (xs.map (seqOf H)).length → ∀ s, (xs.map (seqOf H))[j]? = some s → P s = true) : ∀ v ∈ xs, ∃ t, seqOf H v = some t := fun v hv => by
  obtain ⟨j, hj, e⟩ := List.mem_iff_getElem.mp hv
  have e2 : (xs.map (seqOf H))[j]? = some (seqOf H v) := by
    rw [List.getElem?_map, List.getElem?_eq_getElem hj, e]
    rfl
  exact hP _ (h j (by rw [List.length_map]; exact hj) _ e2)
def spHInit (K : PySem.W.Frag) (Cp Cr Cd : Addr) : Sp := fun vs H Q E => ∃ (x C dx : Addr) (pl rv dv : V), vs = [.ref x, pl, rv, dv] ∧ H x = some (.ins C dx []) ∧ HC K C ∧ Shp H pl ∧
  (((∀ n, pl = .int n → n < 1) ∧ Out H E Cp "places" pl) ∨ ∃ n, pl = .int n ∧ 1 ≤ n ∧ Shp H rv ∧
    ((seqOf H rv = none ∧ Out H E Cr "index" (.int 0)) ∨ ∃ a xs, rv = .ref a ∧ Sqs H a xs ∧ Items H xs ∧ xs.length ≤ 1000 ∧
      (∀ j : Nat, WRes n (xs.map (seqOf H)) (.int j) → Out H E Cr "index" (.int j)) ∧ (WRes n (xs.map (seqOf H)) .non → Shp H dv ∧
        ((seqOf H dv = none ∧ Out H E Cd "index" (.int 0)) ∨ ∃ b ys, dv = .ref b ∧ Sqs H b ys ∧ Items H ys ∧ ys.length ≤ 1000 ∧
          (∀ j : Nat, DRes n (ys.map (seqOf H)) (.int j) → Out H E Cd "index" (.int j)) ∧ (DRes n (ys.map (seqOf H)) .non →
            ∀ H' p q rs ds, (∀ c o, c ≠ x → H c = some o → H' c = some o) → H' x = some (.ins C dx [("_places", .int n), ("_roads", .ref p), ("_doors", .ref q)]) → H p = none → H q = none → p ≠ q → H' p = some (.lst rs) → H' q = some (.lst ds) →
              Tupd H H' xs rs → Tupd H H' ys ds → Q .non H')))))
abbrev NInit : List Str := ["self", "places", "roads", "doors", "wrong", "road", "door"]
theorem scInit : FnScope NInit ["self", "places", "roads", "doors"] (defScope sInit) := ⟨rfl, rfl, rfl, by decide +kernel, rfl, by decide +kernel, by decide +kernel⟩
section
variable {P : Program} {w : World} {K : PySem.W.Frag} {mg : Str → Option Value} {base : Heap}
theorem ok_hinit {f fI fN fL fPl fR fC fD fWR fWD Cp Cr Cd : Addr} {fd fdI fdN fdL fdPl fdR fdC fdD fdWR fdWD : FuncData} (F : Fun K "__init__" "House.__init__" sInit f fd) (T : Bt mg) (FI : Fun K "is_integer" "is_integer" sIsInt fI fdI) (gI : mg "is_integer" = some (.ref fI)) (bI : Binds K fdI ["thing"] [])
    (FN : Fun K "is_number" "is_number" sIsNum fN fdN) (gN : mg "is_number" = some (.ref fN)) (bN : Binds K fdN ["thing"] []) (FL : Fun K "is_list" "is_list" sIsList fL fdL) (gL : mg "is_list" = some (.ref fL)) (bL : Binds K fdL ["thing"] [])
    (FPl : Fun K "is_place" "is_place" sIsPlace fPl fdPl) (gPl : mg "is_place" = some (.ref fPl)) (bPl : Binds K fdPl ["places", "thing"] [])
    (FR : Fun K "is_road" "is_road" sIsRoad fR fdR) (gR : mg "is_road" = some (.ref fR)) (bR : Binds K fdR ["places", "thing"] [])
    (FC : Fun K "comes_to" "comes_to" sComes fC fdC) (gC : mg "comes_to" = some (.ref fC)) (bC : Binds K fdC ["onward", "begin", "end"] [])
    (FD : Fun K "is_door" "is_door" sIsDoor fD fdD) (gD : mg "is_door" = some (.ref fD)) (bD : Binds K fdD ["places", "thing"] [])
    (FWR : Fun K "first_wrong_road" "first_wrong_road" sWrongRoad fWR fdWR) (gWR : mg "first_wrong_road" = some (.ref fWR)) (bWR : Binds K fdWR ["places", "roads"] [])
    (FWD : Fun K "first_wrong_door" "first_wrong_door" sWrongDoor fWD fdWD) (gWD : mg "first_wrong_door" = some (.ref fWD)) (bWD : Binds K fdWD ["places", "doors"] [])
    (EP : EI P w K mg base "BadPlaces" "places" Cp) (ER : EI P w K mg base "BadRoads" "index" Cr) (ED : EI P w K mg base "BadDoors" "index" Cd) :
    FnOk P w K mg base (L2.CX P w) 6 f fd ["self", "places", "roads", "doors"] (spHInit K Cp Cr Cd) := by
  have GI : FnOk P w K mg base CX0 1 fI fdI ["thing"] spInt := ok_isInt FI T
  have GWR : FnOk P w K mg base CX0 5 fWR fdWR ["places", "roads"] (spWrong WRes K) := ok_wroad FWR T FI gI bI FN gN bN FL gL bL FPl gPl bPl FR gR bR FC gC bC
  have GWD : FnOk P w K mg base CX0 5 fWD fdWD ["places", "doors"] (spWrong DRes K) := ok_wdoor FWD T FI gI bI FN gN bN FL gL bL FPl gPl bPl FD gD bD
  refine F.okX scInit (fun vs H Q E h => ?_) (fun cdv A outer s H vs Q E hr h => ?_)
  · obtain ⟨x, C, dx, pl, rv, dv, rfl, _⟩ := h
    rfl
  · obtain ⟨x, C, dx, pl, rv, dv, rfl, hx, hc, hpl, hcase⟩ := h
    refine ⟨_, (pss_cons (ps_if (PW.pt (pw_or (pt_not (pt_val (pe_call GI (hr.mono (by decide)) (by rfl) gI FI.kp bI .nil pass0 (pa_cons (pv 1) pa_nil)))) (pw_or1 (pt_cmpR op_lt (pv 1) pe_int (nomark _))))) (pss_one (ps_EI rfl (takes_of rfl rfl rfl rfl) EP (hr.mono (by decide)) (by rfl) (pv 1) (mono_var 1))) pss_nil)
  (pss_cons (ps_set (i := 4) scInit.nd rfl (Or.inl rfl) (pe_call GWR hr (by rfl) gWR FWR.kp bWR .nil pass0 (pa_cons (pv 1) (pa_cons (pv 2) pa_nil))))
  (pss_cons (ps_if (pt_cmpR op_notN (pv 4) pe_non (nomark _)) (pss_one (ps_EI rfl (takes_of rfl rfl rfl rfl) ER (hr.mono (by decide)) (by rfl) (pv 4) (mono_var 4))) pss_nil)
  (pss_cons (ps_set (i := 4) scInit.nd rfl (Or.inl rfl) (pe_call GWD hr (by rfl) gWD FWD.kp bWD .nil pass0 (pa_cons (pv 1) (pa_cons (pv 3) pa_nil))))
  (pss_cons (ps_if (pt_cmpR op_notN (pv 4) pe_non (nomark _)) (pss_one (ps_EI rfl (takes_of rfl rfl rfl rfl) ED (hr.mono (by decide)) (by rfl) (pv 4) (mono_var 4))) pss_nil)
  (pss_cons (ps_fld (pv 0) (pv 1) rfl)
  (pss_cons (ps_fld (pv 0) (pe_lc (own := [("road", 5)]) (g := gName 5) (tt := tYes) rfl scInit.nd (pi_or (pi_list (pv 2)) (pi_tup (pv 2))) (blkOk_by (N := NInit) (sc := defScope sInit) (by decide +kernel)) (fun _ _ _ _ _ => (pg_name (i := 5) (x := "road") scInit.nd rfl (Or.inl rfl))) (fun _ _ _ _ _ => pts_nil) (fun _ _ _ _ _ => (pe_tupK (K := K) rfl (by rfl) T.tuple (pv 5)))) rfl)
  (pss_one (ps_fld (pv 0) (pe_lc (own := [("door", 6)]) (g := gName 6) (tt := tYes) rfl scInit.nd (pi_or (pi_list (pv 3)) (pi_tup (pv 3))) (blkOk_by (N := NInit) (sc := defScope sInit) (by decide +kernel)) (fun _ _ _ _ _ => (pg_name (i := 6) (x := "door") scInit.nd rfl (Or.inl rfl))) (fun _ _ _ _ _ => pts_nil) (fun _ _ _ _ _ => (pe_tupK (K := K) rfl (by rfl) T.tuple (pv 6)))) rfl))))))))), ?_⟩
    refine ⟨_, rfl, pl, rfl, hpl, _, rfl, ?_⟩
    rcases hcase with ⟨bad, out⟩ | ⟨n, rfl, n1, hrv, hcase⟩
    · cases pl with
      | int n =>
        refine iteF ⟨_, rfl, _, _, rfl, rfl, _, rfl, ?_⟩
        rw [decide_eq_true (bad n rfl)]
        exact iteT ⟨_, rfl, out.at (Same.refl H)⟩
      | _ => exact iteT (iteT ⟨_, rfl, out.at (Same.refl H)⟩)
    · refine iteF ⟨_, rfl, _, _, rfl, rfl, _, rfl, ?_⟩
      rw [decide_eq_false (show ¬ n < 1 by omega)]
      refine iteF ?_
      rcases hcase with ⟨hs, out⟩ | ⟨a, xs, rfl, ha, it, lx, outR, hcase⟩
      · exact ⟨_, rfl, _, rfl, n, rv, rfl, hrv, .inl ⟨hs, fun H1 e1 => ⟨_, rfl, rfl, _, rfl, iteT ⟨_, rfl, out.at e1⟩⟩⟩⟩
      · refine ⟨_, rfl, _, rfl, n, _, rfl, hrv, .inr ⟨a, xs, rfl, ha, it, lx, fun H1 r e1 wr => ?_⟩⟩
        rcases wr with ⟨rfl, wr⟩ | ⟨j, rfl, wr⟩
        · refine ⟨_, rfl, rfl, _, rfl, iteF ?_⟩
          obtain ⟨hdv, hcase⟩ := hcase (.inl ⟨rfl, wr⟩)
          rcases hcase with ⟨hs, out⟩ | ⟨b, ys, rfl, hb, it2, ly, outD, fin⟩
          · refine ⟨_, rfl, _, rfl, n, dv, rfl, hdv.same e1, .inl ⟨by rw [seq_same hdv e1]; exact hs, fun H2 e2 => ⟨_, rfl, rfl, _, rfl, iteT ⟨_, rfl, out.at (e1.trans e2)⟩⟩⟩⟩
          · refine ⟨_, rfl, _, rfl, n, _, rfl, hdv.same e1, .inr ⟨b, ys, rfl, hb.same e1, it2.same e1, ly, fun H2 r2 e2 dr => ?_⟩⟩
            rw [it2.seqs e1] at dr
            rcases dr with ⟨rfl, dr⟩ | ⟨j, rfl, dr⟩
            · refine ⟨_, rfl, rfl, _, rfl, iteF ?_⟩
              have fin2 := fin (.inl ⟨rfl, dr⟩)
              have e3 := e1.trans e2
              clear outD outR
              refine ⟨_, rfl, _, rfl, x, C, dx, [], rfl, e3 _ _ hx, hc.cl, hc.nP, by decide, ?_⟩
              rw [pf0]
              have nax : a ≠ x := ha.elim (fun z => ne_of z hx fun q => by cases q) fun z => ne_of z hx fun q => by cases q
              have nbx : b ≠ x := hb.elim (fun z => ne_of z hx fun q => by cases q) fun z => ne_of z hx fun q => by cases q
              have oldA : ∀ c u, c ≠ x → H c = some u → upd H2 x (.ins C dx [("_places", .int n)]) c = some u := fun c u nc g => by
                rw [upd_ne nc]
                exact e3 _ _ g
              have hxA : upd H2 x (.ins C dx [("_places", .int n)]) x = some (.ins C dx [("_places", .int n)]) := upd_same
              generalize upd H2 x (.ins C dx [("_places", .int n)]) = HA at oldA hxA ⊢
              have allR : ∀ v ∈ xs, ∃ t, seqOf H v = some t := all_seq (n := n) (isRoad n) (fun s hs => by obtain ⟨x1, y1, l1, r1, e, _⟩ := road_of hs; exact ⟨_, e⟩) fun j hj s es => by
                cases q : isRoad n s with
                | true => rfl
                | false => exact absurd ⟨s, es, .inl q⟩ (wr j hj)
              have allD : ∀ v ∈ ys, ∃ t, seqOf H v = some t := all_seq (n := n) (isDoor n) (fun s hs => by obtain ⟨z1, p1, h1, e⟩ := door_of hs; exact ⟨_, e⟩) fun j hj s es => by
                cases q : isDoor n s with
                | true => rfl
                | false => exact absurd ⟨s, es, .inl q⟩ (dr j hj)
              have haA : Sqs HA a xs := ha.imp (fun z => oldA a _ nax z) fun z => oldA a _ nax z
              refine walk_or (K := K) haA (Same.refl HA) (fun S q => ⟨_, rfl, q⟩) fun J G wk hG => fun D1 hD1 => ?_
              refine lc_it wk (fun i H' => ∃ acc, H' D1 = some (.lst acc) ∧ acc.length = i ∧ (∀ b u, HA b = some u → H' b = some u) ∧ Tupd H H' (xs.take i) acc) ⟨[], upd_same, rfl, same_new hD1, .nil⟩ (fun i H' _ q => hG _ (by obtain ⟨_, _, _, q, _⟩ := q; exact q)) ?_ ?_
              · rintro i v H4 H5 hi ⟨acc, d4, l4, k4, t4⟩ ⟨rfl, hv⟩
                have hvm := List.mem_of_getElem? hv
                obtain ⟨t, et⟩ := allR v hvm
                obtain ⟨c, rfl, hcc⟩ := sq_of (K := K) (it v hvm).1 et
                have tk : xs.take (i + 1) = xs.take i ++ [.ref c] := by
                  rw [List.take_add_one, hv]
                  rfl
                have ncx : c ≠ x := by
                  rcases hcc with z | z
                  · exact ne_of z hx fun q => by cases q
                  · exact ne_of z hx fun q => by cases q
                have ll : acc.length < sizeLine := by
                  rw [l4]
                  exact Nat.lt_of_lt_of_le (Nat.lt_of_lt_of_le hi lx) (by decide)
                have nD : ∀ {b : Addr} {u : HO}, HA b = some u → b ≠ D1 := fun g => ne_of_none g hD1
                refine ⟨rfl, ?_⟩
                dsimp only [tYes]
                refine iteT ⟨_, rfl, ?_⟩
                rcases hcc with z | z
                · refine .inl ⟨c, t, rfl, SqL.of (k4 _ _ (oldA c _ ncx z)), fun q hq => ?_⟩
                  have s6 := same_new (o := .tup t) hq
                  refine ⟨acc, s6 _ _ d4, ll, acc ++ [.ref q], upd_same, by rw [List.length_append, l4]; rfl, fun b u g => ?_, ?_⟩
                  · rw [upd_ne (nD g)]
                    exact s6 _ _ (k4 _ _ g)
                  · rw [tk]
                    have m7 : ∀ b u, (upd H5 q (.tup t)) b = some (.tup u) → (upd (upd H5 q (.tup t)) D1 (.lst (acc ++ [.ref q]))) b = some (.tup u) := fun b u g => by
                      rw [upd_ne (ne_of g (s6 _ _ d4) fun w => by cases w)]
                      exact g
                    exact ((t4.mono fun b u g => s6 _ _ g).mono m7).snoc ⟨q, t, rfl, m7 _ _ upd_same, et⟩
                · refine .inr ⟨c, t, rfl, SqT.of (k4 _ _ (oldA c _ ncx z)), ?_⟩
                  refine ⟨acc, d4, ll, acc ++ [.ref c], upd_same, by rw [List.length_append, l4]; rfl, fun b u g => ?_, ?_⟩
                  · rw [upd_ne (nD g)]
                    exact k4 _ _ g
                  · rw [tk]
                    have m7 : ∀ b u, H5 b = some (.tup u) → (upd H5 D1 (.lst (acc ++ [.ref c]))) b = some (.tup u) := fun b u g => by
                      rw [upd_ne (ne_of g d4 fun w => by cases w)]
                      exact g
                    exact (t4.mono m7).snoc ⟨c, t, rfl, m7 _ _ (k4 _ _ (oldA c _ ncx z)), et⟩
              · rintro H4 ⟨rs, d4, l4, k4, t4⟩
                rw [List.take_of_length_le (Nat.le_refl _)] at t4
                have n1x : D1 ≠ x := (ne_of_none hxA hD1).symm
                refine ⟨_, rfl, x, C, dx, [("_places", .int n)], rfl, k4 _ _ hxA, hc.cl, hc.nR, by show 1 < 1000; decide, ?_⟩
                rw [pf1]
                have oldB : ∀ c u, c ≠ x → H c = some u → upd H4 x (.ins C dx [("_places", .int n), ("_roads", .ref D1)]) c = some u := fun c u nc g => by
                  rw [upd_ne nc]
                  exact k4 _ _ (oldA c u nc g)
                have hxB : upd H4 x (.ins C dx [("_places", .int n), ("_roads", .ref D1)]) x = some (.ins C dx [("_places", .int n), ("_roads", .ref D1)]) := upd_same
                have d4B : upd H4 x (.ins C dx [("_places", .int n), ("_roads", .ref D1)]) D1 = some (.lst rs) := by
                  rw [upd_ne n1x]
                  exact d4
                have t4B : Tupd H (upd H4 x (.ins C dx [("_places", .int n), ("_roads", .ref D1)])) xs rs := t4.mono fun c u g => by
                  rw [upd_ne (ne_of g (k4 _ _ hxA) fun w => by cases w)]
                  exact g
                generalize upd H4 x (.ins C dx [("_places", .int n), ("_roads", .ref D1)]) = HB at oldB hxB d4B t4B ⊢
                have hbB : Sqs HB b ys := hb.imp (fun z => oldB b _ nbx z) fun z => oldB b _ nbx z
                refine walk_or (K := K) hbB (Same.refl HB) (fun S q => ⟨_, rfl, q⟩) fun J G wk hG => fun D2 hD2 => ?_
                refine lc_it wk (fun i H' => ∃ acc, H' D2 = some (.lst acc) ∧ acc.length = i ∧ (∀ b u, HB b = some u → H' b = some u) ∧ Tupd H H' (ys.take i) acc) ⟨[], upd_same, rfl, same_new hD2, .nil⟩ (fun i H' _ q => hG _ (by obtain ⟨_, _, _, q, _⟩ := q; exact q)) ?_ ?_
                · rintro i v H4 H5 hi ⟨acc, d4, l4, k4, t4⟩ ⟨rfl, hv⟩
                  have hvm := List.mem_of_getElem? hv
                  obtain ⟨t, et⟩ := allD v hvm
                  obtain ⟨c, rfl, hcc⟩ := sq_of (K := K) (it2 v hvm).1 et
                  have tk : ys.take (i + 1) = ys.take i ++ [.ref c] := by
                    rw [List.take_add_one, hv]
                    rfl
                  have ncx : c ≠ x := by
                    rcases hcc with z | z
                    · exact ne_of z hx fun q => by cases q
                    · exact ne_of z hx fun q => by cases q
                  have ll : acc.length < sizeLine := by
                    rw [l4]
                    exact Nat.lt_of_lt_of_le (Nat.lt_of_lt_of_le hi ly) (by decide)
                  have nD : ∀ {b : Addr} {u : HO}, HB b = some u → b ≠ D2 := fun g => ne_of_none g hD2
                  refine ⟨rfl, ?_⟩
                  dsimp only [tYes]
                  refine iteT ⟨_, rfl, ?_⟩
                  rcases hcc with z | z
                  · refine .inl ⟨c, t, rfl, SqL.of (k4 _ _ (oldB c _ ncx z)), fun q hq => ?_⟩
                    have s6 := same_new (o := .tup t) hq
                    refine ⟨acc, s6 _ _ d4, ll, acc ++ [.ref q], upd_same, by rw [List.length_append, l4]; rfl, fun b u g => ?_, ?_⟩
                    · rw [upd_ne (nD g)]
                      exact s6 _ _ (k4 _ _ g)
                    · rw [tk]
                      have m7 : ∀ b u, (upd H5 q (.tup t)) b = some (.tup u) → (upd (upd H5 q (.tup t)) D2 (.lst (acc ++ [.ref q]))) b = some (.tup u) := fun b u g => by
                        rw [upd_ne (ne_of g (s6 _ _ d4) fun w => by cases w)]
                        exact g
                      exact ((t4.mono fun b u g => s6 _ _ g).mono m7).snoc ⟨q, t, rfl, m7 _ _ upd_same, et⟩
                  · refine .inr ⟨c, t, rfl, SqT.of (k4 _ _ (oldB c _ ncx z)), ?_⟩
                    refine ⟨acc, d4, ll, acc ++ [.ref c], upd_same, by rw [List.length_append, l4]; rfl, fun b u g => ?_, ?_⟩
                    · rw [upd_ne (nD g)]
                      exact k4 _ _ g
                    · rw [tk]
                      have m7 : ∀ b u, H5 b = some (.tup u) → (upd H5 D2 (.lst (acc ++ [.ref c]))) b = some (.tup u) := fun b u g => by
                        rw [upd_ne (ne_of g d4 fun w => by cases w)]
                        exact g
                      exact (t4.mono m7).snoc ⟨c, t, rfl, m7 _ _ (k4 _ _ (oldB c _ ncx z)), et⟩
                · rintro H6 ⟨ds, d6, l6, k6, t6⟩
                  rw [List.take_of_length_le (Nat.le_refl _)] at t6
                  have n2x : D2 ≠ x := (ne_of_none hxB hD2).symm
                  refine ⟨_, rfl, x, C, dx, _, rfl, k6 _ _ hxB, hc.cl, hc.nD, by show 2 < 1000; decide, ?_⟩
                  rw [pf2]
                  have mv : ∀ c u, H6 c = some (.tup u) → upd H6 x (.ins C dx [("_places", .int n), ("_roads", .ref D1), ("_doors", .ref D2)]) c = some (.tup u) := fun c u g => by
                    rw [upd_ne (ne_of g (k6 _ _ hxB) fun w => by cases w)]
                    exact g
                  refine fin2 _ D1 D2 rs ds (fun c o nc g => ?_) upd_same ?_ ?_ (ne_of_none d4B hD2) ?_ ?_ ((t4B.mono fun c u g => k6 _ _ g).mono mv) (t6.mono mv)
                  · rw [upd_ne nc]
                    exact k6 _ _ (oldB c o nc g)
                  · cases z : H D1 with
                    | none => rfl
                    | some u =>
                      rw [oldA D1 u n1x z] at hD1
                      cases hD1
                  · cases z : H D2 with
                    | none => rfl
                    | some u =>
                      rw [oldB D2 u n2x z] at hD2
                      cases hD2
                  · rw [upd_ne n1x]
                    exact k6 _ _ d4B
                  · rw [upd_ne n2x]
                    exact d6
            · exact ⟨_, rfl, rfl, _, rfl, iteT ⟨_, rfl, (outD j (.inr ⟨j, rfl, dr⟩)).at (e1.trans e2)⟩⟩
        · exact ⟨_, rfl, rfl, _, rfl, iteT ⟨_, rfl, (outR j (.inr ⟨j, rfl, wr⟩)).at e1⟩⟩
end
end K05

set_option Elab.async false
set_option linter.all false
set_option maxRecDepth 100000
set_option maxHeartbeats 4000000
/-! functions of the written part as values: isinstance of them, == of one with itself -/
namespace PySem.FnX
open Sem (wp)
theorem ga_slot : Slot "function" "__getattribute__" "object.__getattribute__" := by
  refine Slot.of (owner := "object") (n := "__getattribute__") ?_ (by decide +kernel) (by decide +kernel) (by decide +kernel) ?_ ?_
  · rw [typeLookup_type, builtinLookup_eq_fast]
    kernel_rfl
  · exact .inl (by decide +kernel)
  · rw [isSubtype_type]
    kernel_rfl
theorem cls_look : typeLookup (.type "function") "__class__" = pure (some (.builtin "object.__class__")) := by
  rw [typeLookup_type, builtinLookup_eq_fast]
  kernel_rfl
theorem obj_owner : isSubtype (.type "function") (.type (".".intercalate ("object.__class__".cutAt '.').dropLast)) = pure true := by
  rw [F.owner_object_class, isSubtype_type]
  kernel_rfl
theorem ga_entry : entryFor table "object.__getattribute__" = some Builtin.«object.__getattribute__» := entryFor_of_tree (by kernel_rfl)
theorem ga_args (a b : Value) : argsOk "object.__getattribute__" ⟨[a, b], []⟩ := by unfold argsOk; kernel_rfl
section
variable {prog : Program} {w : World} {A : Around} {E : Value → Shared → Prop} {hp : Heap} {g : Array GenState} {dr : Drawn} {n : Nat} {os : OsState} {f : Addr} {fo : Obj}
theorem got {R : Result → Shared → Prop} (e : hp.get? f = some fo) (c : fo.cls = .type "function") (q : R (.ok (.ret (.type "function"))) ⟨hp, g, dr, n, os⟩) :
    codeAny (model prog w) A (.call (.builtin "getset_descriptor.__get__") ⟨[.builtin "object.__class__", .ref f, .type "function"], []⟩) R ⟨hp, g, dr, n, os⟩ := by
  have t1 : (⟨hp, g, dr, n, os⟩ : Shared).TypeIs (.ref f) "function" := ⟨_, e, c⟩
  have t2 : (⟨hp, g, dr, n, os⟩ : Shared).TypeIs (.builtin "object.__class__") "getset_descriptor" := F.typeOf_object_class
  have so := obj_owner
  refine codeAny_call_builtin F.slot_gs_get.plain F.entry_gs_get (F.slot_gs_get.check _ _ _ _ _ _ _ _ t2 (F.args_gs_get _ _ _) ?_)
  repeat (any_goals (first | wp_step | assumption))
  refine ⟨Code.quiet_builtin _ (by decide +kernel), codeAny_builtin F.entry_object_class ?_⟩
  repeat (any_goals (first | wp_step | assumption))
theorem read {tk : Tok} {Q : Fin → Shared → Prop} (e : hp.get? f = some fo) (c : fo.cls = .type "function") (q : Q (.done (.ret (.type "function"))) ⟨hp, g, dr, n, os⟩) :
    wpAny (model prog w) A (Builtin.«object.__getattribute__» ⟨[.ref f, .str "__class__" tk], []⟩) Q E ⟨hp, g, dr, n, os⟩ := by
  have t1 : (⟨hp, g, dr, n, os⟩ : Shared).TypeIs (.ref f) "function" := ⟨_, e, c⟩
  have t2 : (⟨hp, g, dr, n, os⟩ : Shared).TypeIs (.builtin "object.__class__") "getset_descriptor" := F.typeOf_object_class
  have l1 := cls_look
  have l2 := F.typeOf_object_class
  have l3 := F.slot_gs_get.lookup
  have l4 := F.slot_gs_set.lookup
  repeat (any_goals (first | wp_step | assumption))
  refine got e c ?_
  repeat (any_goals (first | wp_step | assumption))
theorem askBy {tk : Tok} {Q : Value → Shared → Prop} (e : hp.get? f = some fo) (c : fo.cls = .type "function") (q : Q (.type "function") ⟨hp, g, dr, n, os⟩) : wpAny (model prog w) A (getAttrBy (.ref f) (.str "__class__" tk) false) Q E ⟨hp, g, dr, n, os⟩ := by
  have t1 : (⟨hp, g, dr, n, os⟩ : Shared).TypeIs (.ref f) "function" := ⟨_, e, c⟩
  have l1 := ga_slot.lookup
  have l2 := ga_slot.bind (.ref f)
  repeat (any_goals (first | wp_step | assumption))
  refine codeAny_call_builtin ga_slot.plain ga_entry (ga_slot.check _ _ _ _ _ _ _ _ t1 (ga_args _ _) (read e c ?_))
  repeat (any_goals (first | wp_step | assumption))
theorem attr {Q : Option Value → Shared → Prop} (e : hp.get? f = some fo) (c : fo.cls = .type "function") (q : Q (some (.type "function")) ⟨hp, g, dr, n + 1, os⟩) : wpAny (model prog w) A (getAttr? (.ref f) "__class__") Q E ⟨hp, g, dr, n, os⟩ := by
  unfold getAttr? getAttrBy?
  repeat (any_goals (first | assumption | with_reducible apply askBy e c | wp_step))
theorem kitx {K : W.Frag} : W.KitX K (.ref f) (.type "function") (W.KitAt f "function") := W.kitx_of W.kitAt_ty fun {_ _ _ _ _ s} p k => by
  obtain ⟨hp, g, dr, n, os⟩ := s
  obtain ⟨o, h1, h2⟩ := p
  exact attr h1 h2 k
end
theorem eq_slot : Slot "function" "__eq__" "object.__eq__" := by
  refine Slot.of (owner := "object") (n := "__eq__") ?_ (by decide +kernel) (by decide +kernel) (by decide +kernel) ?_ ?_
  · rw [typeLookup_type, builtinLookup_eq_fast]
    kernel_rfl
  · exact .inl (by decide +kernel)
  · rw [isSubtype_type]
    kernel_rfl
theorem eq_entry : entryFor table "object.__eq__" = some Builtin.«object.__eq__» := entryFor_of_tree (by kernel_rfl)
theorem eq_args (a b : Value) : argsOk "object.__eq__" ⟨[a, b], []⟩ := by unfold argsOk; kernel_rfl
theorem eq_self {prog : Program} {w : World} {A : Around} {E : Value → Shared → Prop} {s : Shared} {f : Addr} {fo : Obj} {Q : Value → Shared → Prop} (hu : A.units < cLine) (e : s.heap.get? f = some fo) (c : fo.cls = .type "function") (q : Q (.bool true) s) :
    wpAny (model prog w) A (richCompare .Eq (.ref f) (.ref f)) Q E s := by
  have t1 : s.TypeIs (.ref f) "function" := ⟨_, e, c⟩
  have l1 := eq_slot.lookup
  have l2 := eq_slot.bind (.ref f)
  simp only [richCompare, cmpInfo_Eq, oneThing_ref]
  refine wpAny_holding (wpAny_bind (wpAny_cRoomFor hu ?_))
  have fin : ∀ {E : Value → Shared → Prop} {Q : Value → Shared → Prop}, Q (.bool true) s → wpAny (model prog w) A (call (.builtin "object.__eq__") ([.ref f] ++ [.ref f])) Q E s := fun {E Q} k => by
    refine wpAny_call (codeAny_call_builtin eq_slot.plain eq_entry (eq_slot.check _ _ _ _ _ _ _ _ t1 (eq_args _ _) ?_))
    repeat (any_goals (first | assumption | wp_step))
  repeat (any_goals (first | assumption | wp_step))
  refine wpAny_askSetting ?_
  split
  · repeat (any_goals (first | assumption | (refine wpAny_bind (m := call _ _) (fin ?_)) | wp_step))
  · repeat (any_goals (first | assumption | (refine wpAny_bind (m := call _ _) (fin ?_)) | wp_step))
end PySem.FnX
namespace Own
open PySem PySem.Spec PyProof.Rows L2
/-- a type, also of a function of the written part -/
def TyY (K : PySem.W.Frag) (H : Hp) (x : V) (t : Value) : Prop := TyX K H x t ∨ ∃ (f : Addr) (o : Obj), x = .ref f ∧ K.lookup f = some o ∧ o.cls = .type "function" ∧ t = .type "function"
def rIsiY (K : PySem.W.Frag) : List V → Hp → VK → Prop := fun xs H Q => ∃ (x c : V) (t u : Value) (b : Bool), xs = [x, c] ∧ ClsV c u ∧ TyY K H x t ∧ PySem.W.kitOne K t u = some b ∧ Q (.bl b) H
def rIsiTY (K : PySem.W.Frag) : List V → Hp → VK → Prop := fun xs H Q => ∃ (x : V) (p : Addr) (cs : List V) (t : Value) (us : List Value) (b : Bool), xs = [x, .ref p] ∧ H p = some (.tup cs) ∧ Paired ClsV cs us ∧ TyY K H x t ∧ PySem.W.kitAny K t us = some b ∧ Q (.bl b) H
section
variable {X : Cx}
theorem kit_ofY {pins : List (Addr × Obj)} {σ : L2.St} {H : Hp} {s : Shared} {x : V} {u t : Value} (I : Inv X pins σ H s) (r : RelV x u) (y : TyY X.K H x t) : ∃ P : Heap → Prop, PySem.W.KitX X.K u t P ∧ P s.heap ∧ u ≠ .builtin "__main__.__loader__#opaque" := by
  rcases y with y | ⟨f, o, rfl, hk, hc, rfl⟩
  · exact kit_of I r y
  · cases (show u = Value.ref f from r)
    exact ⟨_, FnX.kitx, ⟨o, I.kIn f o hk, hc⟩, fun z => nomatch z⟩
theorem call_isiY : CallR X (.builtin "isinstance") (rIsiY X.K) := by
  rintro pins s σ H xs us Q I rv ⟨x, c, t, u, b, rfl, k, ty, e, q⟩
  obtain ⟨v1, v2, rfl, r1, r2⟩ := vals2 rv
  obtain rfl := k.eq r2
  obtain ⟨P, Z, p, nl⟩ := kit_ofY I r1 ty
  exact PySem.W.kia_one Z I.kIn p e nl fun n => ⟨.bl b, H, I.tok n, rfl, q⟩
theorem call_isiTY : CallR X (.builtin "isinstance") (rIsiTY X.K) := by
  rintro pins s σ H xs us Q I rv ⟨x, tp, cs, t, ws, b, rfl, hT, k, ty, e, q⟩
  obtain ⟨v1, v2, rfl, r1, r2⟩ := vals2 rv
  cases (show v2 = Value.ref tp from r2)
  obtain ⟨P, Z, p, nl⟩ := kit_ofY I r1 ty
  obtain ⟨_, its, rs, ob, g1, g2, m, g3⟩ := (show ObjOk X.prog X.w H s.heap tp (.tup cs) from I.hok tp _ hT)
  have same := ClsV.all k rs
  subst same
  obtain ⟨oc, od, dt, sl⟩ := ob
  simp only at g2 g3
  subst g2 g3
  exact PySem.W.kia_tup Z I.kIn p g1 e nl fun n => ⟨.bl b, H, I.tok n, rfl, q⟩
/-- a function is equal to itself -/
def rEqF (K : PySem.W.Frag) : R2 := fun x y H Q => ∃ (f : Addr) (o : Obj), x = .ref f ∧ y = .ref f ∧ K.lookup f = some o ∧ o.cls = .type "function" ∧ Q (.bl true) H
theorem op_eqF (hu : X.A.units < cLine) : OpR X (compareOp .Eq) (rEqF X.K) := by
  rintro pins s σ H x y v u Q I rx ry ⟨f, o, rfl, rfl, hk, hc, q⟩
  cases rx
  cases ry
  exact FnX.eq_self hu (I.kIn f o hk) hc ⟨.bl true, H, I, rfl, q⟩
/-- one of two rules -/
theorem op_or {op : Value → Value → Sem Value} {r1 r2 : R2} (h1 : OpR X op r1) (h2 : OpR X op r2) : OpR X op (fun x y H Q => r1 x y H Q ∨ r2 x y H Q) := by
  rintro pins s σ H x y v u Q I rx ry (h | h)
  · exact h1 pins s σ H x y v u Q I rx ry h
  · exact h2 pins s σ H x y v u Q I rx ry h
end
end Own

set_option Elab.async false
set_option linter.all false
set_option maxRecDepth 100000
/-! a block of which a statement always leaves: what stands behind it needs no term -/
namespace Own
open PySem PySem.Spec PyProof.Rows L2
def tStop (t : TS) : TS := fun D σ H => t { D with nx := fun _ _ => False } σ H
theorem pss_stop {X : Cx} {st : Stmt} {rest : List Stmt} {t : TS} (h1 : PS X st t) : PSs X (st :: rest) (tStop t) := by
  refine ⟨fun pins s σ H D I h => ?_⟩
  refine wpAny_execs_cons (thn (h1.run pins s σ H { D with nx := fun _ _ => False } I h) fun f s1 q => ?_)
  cases f with
  | next =>
    obtain ⟨_, _, _, q⟩ := q
    exact q.elim
  | ret v => exact q
  | brk => exact q
  | cont => exact q
end Own

set_option Elab.async false
set_option linter.all false
set_option maxRecDepth 100000
set_option maxHeartbeats 4000000
namespace K05
open PySem PySem.Spec PyProof.Rows L2 Own
/-! things of any kind: atoms, functions of the law, Houses, lists, tuples, dicts -/
/-- what is known of the class House: no instance is of a built-in kind, none of those is a House -/
structure HKn (K : PySem.W.Frag) (C : Addr) : Prop where
  hc : HC K C
  nf : PySem.W.notFirst K C (.ref C) = true
  ha : PySem.W.findIn K (.ref C) "__class__" = some (some (.builtin "object.__class__"))
  hn : PySem.W.specialIn K (.builtin "object.__class__") "__get__" = some (some (.builtin "getset_descriptor.__get__"))
  ht : PySem.W.takesIn K (.builtin "object.__class__") = some true
  hm : PySem.W.mroIn K C (.type "object") = some true
  no : ∀ T : String, T ∈ ["int", "bool", "list", "tuple", "dict", "str"] → PySem.W.kitOne K (.ref C) (.type T) = some false
/-- a House of one place, without roads and doors -/
def Hou (C : Addr) (H : Hp) (x : Addr) : Prop := ∃ dx p q, H x = some (.ins C dx [("_places", .int 1), ("_roads", .ref p), ("_doors", .ref q)]) ∧ H p = some (.lst []) ∧ H q = some (.lst [])
/-- no list, no tuple, no dict -/
def Lf (K : PySem.W.Frag) (C : Addr) (H : Hp) (v : V) : Prop := atomV v = true ∨ (∃ (f : Addr) (o : Obj), v = .ref f ∧ K.lookup f = some o ∧ o.cls = .type "function") ∨ ∃ x, v = .ref x ∧ Hou C H x
/-- a thing and what it holds, if it is a list or a tuple -/
def SqR (K : PySem.W.Frag) (C : Addr) (H : Hp) (v : V) (o : Option (List V)) : Prop := (Lf K C H v ∧ o = none) ∨ (∃ p kvs, v = .ref p ∧ H p = some (.dK kvs) ∧ o = none) ∨ ∃ p xs, v = .ref p ∧ (H p = some (.lst xs) ∨ H p = some (.tup xs)) ∧ o = some xs
theorem Hou.same {C x : Addr} {H H' : Hp} (h : Hou C H x) (e : Same H H') : Hou C H' x := by
  obtain ⟨dx, p, q, h1, h2, h3⟩ := h
  exact ⟨dx, p, q, e _ _ h1, e _ _ h2, e _ _ h3⟩
theorem Lf.same {K : PySem.W.Frag} {C : Addr} {H H' : Hp} {v : V} (h : Lf K C H v) (e : Same H H') : Lf K C H' v := by
  rcases h with h | h | ⟨x, rfl, h⟩
  · exact .inl h
  · exact .inr (.inl h)
  · exact .inr (.inr ⟨x, rfl, h.same e⟩)
theorem SqR.same {K : PySem.W.Frag} {C : Addr} {H H' : Hp} {v : V} {o : Option (List V)} (h : SqR K C H v o) (e : Same H H') : SqR K C H' v o := by
  rcases h with ⟨h, rfl⟩ | ⟨p, kvs, rfl, h, rfl⟩ | ⟨p, xs, rfl, h, rfl⟩
  · exact .inl ⟨h.same e, rfl⟩
  · exact .inr (.inl ⟨p, kvs, rfl, e _ _ h, rfl⟩)
  · exact .inr (.inr ⟨p, xs, rfl, h.imp (e _ _) (e _ _), rfl⟩)
theorem sq_int {K : PySem.W.Frag} {C : Addr} {H : Hp} (i : Int) : SqR K C H (.int i) none := .inl ⟨.inl rfl, rfl⟩
/-- a type that any later heap gives it -/
def TyG (K : PySem.W.Frag) (H : Hp) (v : V) (t : Value) : Prop := ∀ H', Same H H' → TyY K H' v t
theorem TyG.grow {K : PySem.W.Frag} {H H' : Hp} {v : V} {t : Value} (h : TyG K H v t) (e : Same H H') : TyG K H' v t := fun H2 e2 => h H2 (e.trans e2)
theorem TyG.now {K : PySem.W.Frag} {H : Hp} {v : V} {t : Value} (h : TyG K H v t) : TyY K H v t := h H (Same.refl H)
/-- which of the built-in kinds a type is below -/
structure KAns (K : PySem.W.Frag) (t : Value) (i b l u d s : Bool) : Prop where
  i : PySem.W.kitOne K t (.type "int") = some i
  b : PySem.W.kitOne K t (.type "bool") = some b
  l : PySem.W.kitOne K t (.type "list") = some l
  u : PySem.W.kitOne K t (.type "tuple") = some u
  d : PySem.W.kitOne K t (.type "dict") = some d
  s : PySem.W.kitOne K t (.type "str") = some s
theorem any2 {K : PySem.W.Frag} {t a b : Value} {x y r : Bool} (ha : PySem.W.kitOne K t a = some x) (hb : PySem.W.kitOne K t b = some y) (h : (x || y) = r) : PySem.W.kitAny K t [a, b] = some r := by
  subst h
  refine kitAny_cons ha (fun e => ?_) (fun e => by rw [e]; rfl)
  rw [e]
  refine kitAny_cons hb (fun e => ?_) (fun e => by rw [e]; rfl)
  rw [e]
  exact kitAny_nil
theorem any3 {K : PySem.W.Frag} {t a b c : Value} {x y z r : Bool} (ha : PySem.W.kitOne K t a = some x) (hb : PySem.W.kitOne K t b = some y) (hc : PySem.W.kitOne K t c = some z) (h : (x || y || z) = r) : PySem.W.kitAny K t [a, b, c] = some r := by
  subst h
  refine kitAny_cons ha (fun e => ?_) (fun e => by rw [e]; rfl)
  rw [e]
  refine kitAny_cons hb (fun e => ?_) (fun e => by rw [e]; rfl)
  rw [e]
  refine kitAny_cons hc (fun e => ?_) (fun e => by rw [e]; rfl)
  rw [e]
  exact kitAny_nil
section
variable {K : PySem.W.Frag} {C : Addr} {H : Hp} {v : V}
theorem ans_of {T : String} {i b l u d s : Bool} (h1 : kitB T "int" = some i) (h2 : kitB T "bool" = some b) (h3 : kitB T "list" = some l) (h4 : kitB T "tuple" = some u) (h5 : kitB T "dict" = some d) (h6 : kitB T "str" = some s) : KAns K (.type T) i b l u d s :=
  ⟨kit_ty h1, kit_ty h2, kit_ty h3, kit_ty h4, kit_ty h5, kit_ty h6⟩
theorem lf_ty (hk : HKn K C) (h : Lf K C H v) : ∃ (t : Value) (i b s : Bool), TyG K H v t ∧ KAns K t i b false false false s ∧ isI v = (i && !b) ∧ (b = true → atomV v = true) := by
  rcases h with h | ⟨f, o, rfl, h1, h2⟩ | ⟨x, rfl, dx, p, q, h1, h2, h3⟩
  · cases v with
    | non => exact ⟨.type "NoneType", false, false, false, fun _ _ => .inl (.base .non), ans_of (by decide +kernel) (by decide +kernel) (by decide +kernel) (by decide +kernel) (by decide +kernel) (by decide +kernel), rfl, fun z => by first | rfl | cases z⟩
    | bl b => exact ⟨.type "bool", true, true, false, fun _ _ => .inl (.base (.bl b)), ans_of (by decide +kernel) (by decide +kernel) (by decide +kernel) (by decide +kernel) (by decide +kernel) (by decide +kernel), rfl, fun z => by first | rfl | cases z⟩
    | int i => exact ⟨.type "int", true, false, false, fun _ _ => .inl (.base (.int i)), ans_of (by decide +kernel) (by decide +kernel) (by decide +kernel) (by decide +kernel) (by decide +kernel) (by decide +kernel), rfl, fun z => by first | rfl | cases z⟩
    | str x => exact ⟨.type "str", false, false, true, fun _ _ => .inl (.base (.str x)), ans_of (by decide +kernel) (by decide +kernel) (by decide +kernel) (by decide +kernel) (by decide +kernel) (by decide +kernel), rfl, fun z => by first | rfl | cases z⟩
    | _ => cases h
  · exact ⟨.type "function", false, false, false, fun _ _ => .inr ⟨f, o, rfl, h1, h2, rfl⟩, ans_of (by decide +kernel) (by decide +kernel) (by decide +kernel) (by decide +kernel) (by decide +kernel) (by decide +kernel), rfl, fun z => by first | rfl | cases z⟩
  · exact ⟨.ref C, false, false, false, fun H' e => .inl (.base (.ins (e _ _ h1) hk.hc.cl hk.ha hk.hn hk.ht hk.hm)), ⟨hk.no _ (by decide), hk.no _ (by decide), hk.no _ (by decide), hk.no _ (by decide), hk.no _ (by decide), hk.no _ (by decide)⟩, rfl, fun z => by cases z⟩
theorem sq_ty (hk : HKn K C) {o : Option (List V)} (h : SqR K C H v o) : ∃ (t : Value) (i b l u d s : Bool), TyG K H v t ∧ KAns K t i b l u d s ∧ isI v = (i && !b) ∧ o.isSome = (l || u) := by
  rcases h with ⟨h, rfl⟩ | ⟨p, kvs, rfl, h, rfl⟩ | ⟨p, xs, rfl, h | h, rfl⟩
  · obtain ⟨t, i, b, s, h1, h2, h3, _⟩ := lf_ty hk h
    exact ⟨t, i, b, false, false, false, s, h1, h2, h3, rfl⟩
  · exact ⟨.type "dict", false, false, false, false, true, false, fun H' e => .inl (.base (.dK (e _ _ h))), ans_of (by decide +kernel) (by decide +kernel) (by decide +kernel) (by decide +kernel) (by decide +kernel) (by decide +kernel), rfl, rfl⟩
  · exact ⟨.type "list", false, false, true, false, false, false, fun H' e => .inl (.base (.lst (e _ _ h))), ans_of (by decide +kernel) (by decide +kernel) (by decide +kernel) (by decide +kernel) (by decide +kernel) (by decide +kernel), rfl, rfl⟩
  · exact ⟨.type "tuple", false, false, false, true, false, false, fun H' e => .inl (.base (.tup (e _ _ h))), ans_of (by decide +kernel) (by decide +kernel) (by decide +kernel) (by decide +kernel) (by decide +kernel) (by decide +kernel), rfl, rfl⟩
end
/-! ### is_integer, is_number, is_list of such -/
def spIntY (K : PySem.W.Frag) (C : Addr) : Sp := fun vs H Q _ => ∃ v o, vs = [v] ∧ SqR K C H v o ∧ Q (.bl (isI v)) H
def spNumY (K : PySem.W.Frag) (C : Addr) : Sp := fun vs H Q _ => ∃ v o, vs = [v] ∧ SqR K C H v o ∧ Q (.bl (isN v)) H
def spLstY (K : PySem.W.Frag) (C : Addr) : Sp := fun vs H Q _ => ∃ v o, vs = [v] ∧ SqR K C H v o ∧ ∀ H', Same H H' → Q (.bl o.isSome) H'
section
variable {P : Program} {w : World} {K : PySem.W.Frag} {mg : Str → Option Value} {base : Heap} {C : Addr}
theorem ok_isIntY (hk : HKn K C) {f : Addr} {fd : FuncData} (F : Fun K "is_integer" "is_integer" sIsInt f fd) (T : Bt mg) : FnOk P w K mg base CX0 1 f fd ["thing"] (spIntY K C) := by
  refine F.ok scIsInt (fun vs H Q E h => ?_) (fun cdv A outer s H vs Q E hr h => ?_)
  · obtain ⟨v, o, rfl, _⟩ := h
    rfl
  · obtain ⟨v, o, rfl, hv, k⟩ := h
    refine ⟨_, (pss_one (ps_ret (pe_and (pe_callB call_isiY (by rfl) T.isi (by decide +kernel) (pa_cons (pv 0) (pa_cons (pe_bltn (v := .ty "int") (by rfl) T.int (by decide +kernel) rfl) pa_nil))) (pe_one (pe_not (pe_callB call_isiY (by rfl) T.isi (by decide +kernel) (pa_cons (pv 0) (pa_cons (pe_bltn (v := .ty "bool") (by rfl) T.bool (by decide +kernel) rfl) pa_nil)))))))), ?_⟩
    obtain ⟨t, i, b, l, u, d, z, ty, ka, e1, _⟩ := sq_ty hk hv
    refine ⟨_, rfl, _, _, _, _, i, rfl, .ty _, ty.now, ka.i, i, rfl, ?_⟩
    cases i with
    | true =>
      refine iteT ⟨_, rfl, _, _, _, _, b, rfl, .ty _, ty.now, ka.b, b, rfl, ?_⟩
      rw [e1] at k
      exact k
    | false =>
      refine iteF ?_
      rw [e1] at k
      exact k
theorem ok_isNumY (hk : HKn K C) {f fI : Addr} {fd fdI : FuncData} (F : Fun K "is_number" "is_number" sIsNum f fd) (T : Bt mg) (FI : Fun K "is_integer" "is_integer" sIsInt fI fdI) (gI : mg "is_integer" = some (.ref fI)) (bI : Binds K fdI ["thing"] []) : FnOk P w K mg base CX0 2 f fd ["thing"] (spNumY K C) := by
  have GI : FnOk P w K mg base CX0 1 fI fdI ["thing"] (spIntY K C) := ok_isIntY hk FI T
  refine F.ok scIsNum (fun vs H Q E h => ?_) (fun cdv A outer s H vs Q E hr h => ?_)
  · obtain ⟨v, o, rfl, _⟩ := h
    rfl
  · obtain ⟨v, o, rfl, hv, k⟩ := h
    refine ⟨_, (pss_one (ps_ret (pe_and (pe_call GI hr (by rfl) gI FI.kp bI .nil pass0 (pa_cons (pv 0) pa_nil)) (pe_one (pe_cmpR op_ge (pv 0) pe_int (nomark _)))))), ?_⟩
    refine ⟨_, rfl, v, o, rfl, hv, _, rfl, ?_⟩
    cases v with
    | int i => exact iteT ⟨_, rfl, _, _, rfl, rfl, k⟩
    | _ => exact iteF k
theorem ok_isLstY (hk : HKn K C) {f : Addr} {fd : FuncData} (F : Fun K "is_list" "is_list" sIsList f fd) (T : Bt mg) : FnOk P w K mg base CX0 1 f fd ["thing"] (spLstY K C) := by
  refine F.ok scIsList (fun vs H Q E h => ?_) (fun cdv A outer s H vs Q E hr h => ?_)
  · obtain ⟨v, o, rfl, _⟩ := h
    rfl
  · obtain ⟨v, o, rfl, hv, k⟩ := h
    refine ⟨_, (pss_one (ps_ret (pe_callB call_isiTY (by rfl) T.isi (by decide +kernel) (pa_cons (pv 0) (pa_cons (pe_tup (pa_cons (pe_bltn (v := .ty "list") (by rfl) T.list (by decide +kernel) rfl) (pa_cons (pe_bltn (v := .ty "tuple") (by rfl) T.tuple (by decide +kernel) rfl) pa_nil))) pa_nil))))), ?_⟩
    obtain ⟨t, i, b, l, u, d, z, ty, ka, e1, e2⟩ := sq_ty hk hv
    refine ⟨_, rfl, (by show 2 ≤ sizeLine; decide), fun tp htp => ?_⟩
    have e3 := same_new (o := HO.tup [V.ty "list", V.ty "tuple"]) htp
    refine ⟨_, tp, _, _, _, l || u, rfl, upd_same, .cons (.ty _) (.cons (.ty _) .nil), (ty.grow e3).now, any2 ka.l ka.u rfl, ?_⟩
    rw [← e2]
    exact k _ e3
end
end K05

set_option Elab.async false
set_option linter.all false
set_option maxRecDepth 100000
set_option maxHeartbeats 4000000
/-! x == y and x != y, x of a class with an __eq__ of its own and no __ne__: whatever y is, whatever comes of it -/
namespace Own
open PySem PySem.Spec PyProof.Rows L2
section
variable {prog : Program} {w : World} {A : Around} {E : Value → Shared → Prop} {s : Shared} {K : PySem.W.Frag} {x C f : Addr} {ox : Obj} {od : Option Obj} {b : Value}
theorem ne_body (hu : A.units < cLine) (X : K.In s.heap) (I : PySem.W.InstAt s.heap x ox C od) (hs : PySem.W.findIn K (.ref C) "__eq__" = some (some (.ref f))) (hf : PySem.W.isFn K (.ref f) = true) {Q : Fin → Shared → Prop}
    (h : wpAny (model prog w) A (call (.ref f) [.ref x, b]) (fun v s' => ∃ r, v = .bool r ∧ Q (.done (.ret (.bool (!r)))) s') E s) : wpAny (model prog w) A (Builtin.«object.__ne__» ⟨[.ref x, b], []⟩) Q E s := by
  unfold Builtin.«object.__ne__»
  repeat (first
    | with_reducible refine wpAny_cRoomFor hu ?_
    | (refine wpAny_bind (m := callSpecialIfBound? (.ref x) (Str.ofString "__eq__") [b]) (PySem.W.ifBound_K X I hs hf (wpAny_mono h (fun v s' z => ?_) fun _ _ e => e)))
    | wp_step)
  obtain ⟨r, rfl, q⟩ := z
  repeat (first | exact q | exact wpAny_pure q | (refine wpAny_bind (m := truthy (.bool _)) (wpAny_truthy_bool ?_)) | wp_step)
theorem ne_bound {args : List Value} {Q : Option Value → Shared → Prop} (X : K.In s.heap) (I : PySem.W.InstAt s.heap x ox C od) (hs : PySem.W.findIn K (.ref C) "__ne__" = some (some (.builtin "object.__ne__")))
    (h : wpAny (model prog w) A (call (.builtin "object.__ne__") (.ref x :: args)) (fun v => Q (some v)) E s) : wpAny (model prog w) A (callSpecialIfBound? (.ref x) "__ne__" args) Q E s := by
  simp only [callSpecialIfBound?, bindSpecialIfBound?]
  refine wpAny_holding (wpAny_bind (wpAny_bind (wpAny_bind (I.type.here ((PySem.W.looks_findIn X hs).here (wpAny_bind (wpAny_askSetting (wpAny_ite ?_))))))))
  have go : wpAny (model prog w) A (call (.builtin "object.__ne__") ([.ref x] ++ args) >>= fun v => pure (some v)) Q E s := wpAny_bind (wpAny_mono h (fun v s' z => wpAny_pure z) fun _ _ e => e)
  split
  · exact wpAny_bind (wpAny_of_eq (F.cmp_object.ne.bind _) (wpAny_pure (by exact go)))
  · exact wpAny_tryCatch (wpAny_bind (wpAny_of_eq (F.cmp_object.ne.bind _) (wpAny_pure (by exact go))))
end
/-- what is known of a class with an __eq__ of its own and no __ne__ -/
structure Eqs (K : PySem.W.Frag) (C f : Addr) : Prop where
  eq : PySem.W.findIn K (.ref C) "__eq__" = some (some (.ref f))
  fn : PySem.W.isFn K (.ref f) = true
  ne : PySem.W.findIn K (.ref C) "__ne__" = some (some (.builtin "object.__ne__"))
  ob : PySem.W.mroIn K C (.type "object") = some true
def rOwn (K : PySem.W.Frag) (C : Addr) (neg : Bool) (sp : Sp) (E : XK) : R2 := fun x y H Q => ∃ (a dx : Addr) (fs : List (Str × V)) (t : Value), x = .ref a ∧ H a = some (.ins C dx fs) ∧ TyX K H y t ∧ PySem.W.notFirst K C t = true ∧
  sp [x, y] H (fun v H' => ∃ r : Bool, v = .bl r ∧ Q (.bl (if neg = true then !r else r)) H') E
section
variable {X : Cx} {CX : CXT} {n : Nat} {f C : Addr} {fd : FuncData} {ps : List Str} {sp : Sp} {E : XK}
theorem own_call (G : FnOk X.prog X.w X.K X.mg X.base CX n f fd ps sp) (hb : Binds X.K fd ps []) (hx : Passes CX X E) {A : Around} (hA : A.frames = X.A.frames) (hr : Room n A) {pins : List (Addr × Obj)} {σ : L2.St} {H : Hp} {s : Shared} (I : Inv X pins σ H s) {a : Addr} {y : V} {u : Value} (ry : RelV y u) {Q : VK}
    (hsp : sp [.ref a, y] H Q E) : wpAny (model X.prog X.w) A (call (.ref f) [.ref a, u]) (fun v s' => ∃ z H', Inv X pins σ H' s' ∧ RelV z v ∧ Q z H') X.xe s := by
  have e0 : Env0 X.prog X.w X.K X.mg X.base A X.stack s H := by
    have e := I.env0
    exact ⟨by rw [hA]; exact e.frames, e.mod, e.bs, e.bsz, e.funs, e.frf, e.hok, e.bare⟩
  have hl := G.len _ _ _ _ hsp
  have r2 : Vals [V.ref a, y] [Value.ref a, u] := .cons rfl (.cons ry .nil)
  have hbd : BindsTo s fd ⟨[.ref a, u], []⟩ (ps.zip [.ref a, u]) := by
    have z := hb s [.ref a, u] I.kIn (by simpa using hl)
    simpa using z
  refine wpAny_call (codeAny_mono (G.run A X.stack s H ⟨[.ref a, u], []⟩ [.ref a, u] [.ref a, y] _ E hr e0 hbd r2 hsp) fun r s' hq => ?_)
  cases r with
  | error e => exact hx pins σ H s e s' I hq
  | ok fl =>
    cases fl with
    | ret v =>
      obtain ⟨z, H', I', rz, q⟩ := I.after hq
      exact ⟨z, H', I', rz, q⟩
    | next => exact False.elim hq
    | brk => exact False.elim hq
    | cont => exact False.elim hq
theorem op_eqO (S : Eqs X.K C f) (G : FnOk X.prog X.w X.K X.mg X.base CX n f fd ps sp) (hb : Binds X.K fd ps []) (hr : Room n X.A) (hx : Passes CX X E) : OpR X (compareOp .Eq) (rOwn X.K C false sp E) := by
  intro pins s σ H x y v u Q I rx ry hq
  obtain ⟨a, dx, fs, t, rfl, ha, ty, nf, hsp⟩ := hq
  cases rx
  obtain ⟨P, Z, hP, _⟩ := kit_of I ry ty
  obtain ⟨mA, J, _⟩ := ins_get I.hok ha
  obtain ⟨od, J, _⟩ := J.look
  obtain ⟨m, hF⟩ := I.fr
  show wpAny (model X.prog X.w) X.A (richCompare .Eq (.ref a) u) (EP X pins σ Q) X.xe s
  refine PySem.W.cmp_K (op := .Eq) hr.units0 hF I.ok.mod.kin J (Z.ty _ _ I.kIn hP) nf S.eq S.fn (wpAny_mono (own_call G hb hx rfl hr I ry hsp) (fun r s' z => ?_) fun _ _ e => e)
  obtain ⟨z, H', I', rz, b, rfl, q⟩ := z
  cases rz
  exact ⟨.bl b, H', I', rfl, q⟩
theorem op_neO (S : Eqs X.K C f) (G : FnOk X.prog X.w X.K X.mg X.base CX n f fd ps sp) (hb : Binds X.K fd ps []) (hr : Room (n + 1) X.A) (hx : Passes CX X E) : OpR X (compareOp .NotEq) (rOwn X.K C true sp E) := by
  intro pins s σ H x y v u Q I rx ry hq
  obtain ⟨a, dx, fs, t, rfl, ha, ty, nf, hsp⟩ := hq
  cases rx
  obtain ⟨P, Z, hP, _⟩ := kit_of I ry ty
  obtain ⟨mA, J, _⟩ := ins_get I.hok ha
  obtain ⟨od, J, _⟩ := J.look
  show wpAny (model X.prog X.w) X.A (richCompare .NotEq (.ref a) u) (EP X pins σ Q) X.xe s
  have ny := Z.ty (model X.prog X.w) _ I.kIn hP
  have ru : X.A.in1.units < cLine := (hr.in1).units0
  have one : wpAny (model X.prog X.w) X.A (tryCompare (.ref a) "__ne__" u) (fun r s' => ∃ b : Bool, r = some (.bool b) ∧ EP X pins σ Q (.bool b) s') X.xe s := by
    unfold tryCompare
    refine wpAny_bind (ne_bound I.kIn J S.ne (wpAny_call (codeAny_call_builtin F.cmp_object.ne.plain F.cmpEntry_ne (PySem.W.check_slot F.cmpKind_ne F.cmpSplit_ne (J.type.andThen (PySem.W.looks_mroIn I.kIn S.ob)) (F.cmpArgs_ne _ _)
      (ne_body ru I.kIn J S.eq S.fn (wpAny_mono (own_call (A := X.A.in1) G hb hx rfl hr.in1 I ry hsp) (fun r s' z => ?_) fun _ _ e => e))))))
    obtain ⟨z, H', I', rz, b, rfl, q⟩ := z
    cases rz
    exact ⟨b, rfl, wpAny_pure ⟨!b, rfl, .bl (!b), H', I', rfl, q⟩⟩
  simp only [richCompare, cmpInfo_NotEq, oneThing_ref]
  refine wpAny_holding (wpAny_bind (wpAny_cRoomFor hr.units0 ?_))
  refine wpAny_bind (J.type.here (wpAny_bind (ny.here ?_)))
  split
  · rename_i q
    have e : PySem.W.subIn X.K t (.ref C) = some false := by
      rcases Bool.or_eq_true_iff.mp nf with e | e
      · rw [beq_iff_eq.mp e] at q
        simp at q
      · exact beq_iff_eq.mp e
    refine wpAny_bind ((PySem.W.looks_subIn I.kIn e).here ?_)
    simp only [Bool.false_eq_true, if_false]
    refine wpAny_bind (wpAny_mono one (fun r s' z => ?_) fun _ _ e => e)
    obtain ⟨b, rfl, z⟩ := z
    exact wpAny_pure z
  · refine wpAny_bind (wpAny_pure ?_)
    simp only [Bool.false_eq_true, if_false]
    refine wpAny_bind (wpAny_mono one (fun r s' z => ?_) fun _ _ e => e)
    obtain ⟨b, rfl, z⟩ := z
    exact wpAny_pure z
/-- a built-in type is none below an own class -/
theorem notFirst_type {K : PySem.W.Frag} {C : Addr} {T : String} (hT : T ∈ ["NoneType", "bool", "int", "str", "list", "tuple", "dict"]) : PySem.W.notFirst K C (.type T) = true := by
  have key : PySem.W.subIn K (.type T) (.ref C) = some false := by
    simp only [List.mem_cons, List.not_mem_nil, or_false] at hT
    rcases hT with rfl | rfl | rfl | rfl | rfl | rfl | rfl
    · show (fastBuiltinMro "NoneType").map (·.contains (.ref C)) = some false
      rw [show fastBuiltinMro "NoneType" = some [.type "NoneType", .type "object"] by decide +kernel]
      simp
    · show (fastBuiltinMro "bool").map (·.contains (.ref C)) = some false
      rw [show fastBuiltinMro "bool" = some [.type "bool", .type "int", .type "object"] by decide +kernel]
      simp
    · show (fastBuiltinMro "int").map (·.contains (.ref C)) = some false
      rw [show fastBuiltinMro "int" = some [.type "int", .type "object"] by decide +kernel]
      simp
    · show (fastBuiltinMro "str").map (·.contains (.ref C)) = some false
      rw [show fastBuiltinMro "str" = some [.type "str", .type "object"] by decide +kernel]
      simp
    · show (fastBuiltinMro "list").map (·.contains (.ref C)) = some false
      rw [show fastBuiltinMro "list" = some [.type "list", .type "object"] by decide +kernel]
      simp
    · show (fastBuiltinMro "tuple").map (·.contains (.ref C)) = some false
      rw [show fastBuiltinMro "tuple" = some [.type "tuple", .type "object"] by decide +kernel]
      simp
    · show (fastBuiltinMro "dict").map (·.contains (.ref C)) = some false
      rw [show fastBuiltinMro "dict" = some [.type "dict", .type "object"] by decide +kernel]
      simp
  unfold PySem.W.notFirst
  rw [key]
  simp
theorem notFirst_own {K : PySem.W.Frag} {C : Addr} : PySem.W.notFirst K C (.ref C) = true := by
  unfold PySem.W.notFirst
  simp
end
end Own

set_option Elab.async false
set_option linter.all false
set_option maxRecDepth 100000
set_option maxHeartbeats 4000000
namespace K05
open PySem PySem.Spec PyProof.Rows L2 Own
theorem scSame : FnScope ["_law_found", "_law_due_here", "_law_mine", "_law_theirs"] ["_law_found", "_law_due_here"] (defScope sSame) := ⟨rfl, rfl, rfl, by decide +kernel, rfl, by decide +kernel, by decide +kernel⟩
/-! ### equal trees -/
def Eqt (K : PySem.W.Frag) (C : Addr) : Nat → Hp → V → V → Prop
  | 0, H, v, u => v = u ∧ Lf K C H u
  | n + 1, H, v, u => (v = u ∧ Lf K C H u) ∨
      (∃ (a b : Addr) (xs ys : List V), v = .ref a ∧ u = .ref b ∧ H a = some (.lst xs) ∧ H b = some (.lst ys) ∧ Paired (Eqt K C n H) xs ys ∧ xs.length ≤ 1000000) ∨
      (∃ (a b : Addr) (xs ys : List V), v = .ref a ∧ u = .ref b ∧ H a = some (.tup xs) ∧ H b = some (.tup ys) ∧ Paired (Eqt K C n H) xs ys ∧ xs.length ≤ 1000) ∨
      (2 ≤ n ∧ ∃ (a b : Addr) (kvs : List (Key × V)), v = .ref a ∧ u = .ref b ∧ H a = some (.dK kvs) ∧ H b = some (.dK kvs) ∧ (∀ p ∈ kvs, atomV p.2 = true) ∧ kvs.length ≤ 1000)
theorem eqt_leaf {K : PySem.W.Frag} {C : Addr} {n : Nat} {H : Hp} {v : V} (h : Lf K C H v) : Eqt K C n H v v := by
  cases n with
  | zero => exact ⟨rfl, h⟩
  | succ n => exact .inl ⟨rfl, h⟩
theorem eqt_atom {K : PySem.W.Frag} {C : Addr} {n : Nat} {H : Hp} {v : V} (h : atomV v = true) : Eqt K C n H v v := eqt_leaf (.inl h)
/-- all but tables stays -/
abbrev Ext (H H' : Hp) : Prop := LamX.ExtN H H'
theorem paired_imp {α β : Type} {F G : α → β → Prop} : ∀ {xs : List α} {ys : List β}, Paired F xs ys → (∀ a b, F a b → G a b) → Paired G xs ys
  | _, _, .nil, _ => .nil
  | _, _, .cons h t, k => .cons (k _ _ h) (paired_imp t k)
theorem Lf.ext {K : PySem.W.Frag} {C : Addr} {H H' : Hp} {v : V} (h : Lf K C H v) (e : Ext H H') : Lf K C H' v := by
  rcases h with h | h | ⟨x, rfl, dx, p, q, h1, h2, h3⟩
  · exact .inl h
  · exact .inr (.inl h)
  · exact .inr (.inr ⟨x, rfl, dx, p, q, e _ _ h1 (fun t z => by cases z), e _ _ h2 (fun t z => by cases z), e _ _ h3 (fun t z => by cases z)⟩)
theorem Eqt.ext {K : PySem.W.Frag} {C : Addr} : ∀ {n : Nat} {H H' : Hp} {v u : V}, Eqt K C n H v u → Ext H H' → Eqt K C n H' v u
  | 0, _, _, _, _, h, e => ⟨h.1, h.2.ext e⟩
  | n + 1, H, H', v, u, h, e => by
    rcases h with h | ⟨a, b, xs, ys, rfl, rfl, ha, hb, p, l⟩ | ⟨a, b, xs, ys, rfl, rfl, ha, hb, p, l⟩ | ⟨hn, a, b, kvs, rfl, rfl, ha, hb, p⟩
    · exact .inl ⟨h.1, h.2.ext e⟩
    · exact .inr (.inl ⟨a, b, xs, ys, rfl, rfl, e _ _ ha (fun t z => by cases z), e _ _ hb (fun t z => by cases z), paired_imp p fun _ _ q => Eqt.ext q e, l⟩)
    · exact .inr (.inr (.inl ⟨a, b, xs, ys, rfl, rfl, e _ _ ha (fun t z => by cases z), e _ _ hb (fun t z => by cases z), paired_imp p fun _ _ q => Eqt.ext q e, l⟩))
    · exact .inr (.inr (.inr ⟨hn, a, b, kvs, rfl, rfl, e _ _ ha (fun t z => by cases z), e _ _ hb (fun t z => by cases z), p⟩))
theorem ext_of {H H' : Hp} (e : Same H H') : Ext H H' := fun b o h _ => e b o h
def spEq4 (C : Addr) : Sp := fun vs H Q _ => ∃ x : Addr, vs = [.ref x, .ref x] ∧ Hou C H x ∧ Q (.bl true) H
def spSame (K : PySem.W.Frag) (C : Addr) (n : Nat) : Sp := fun vs H Q _ => ∃ v u : V, vs = [v, u] ∧ Eqt K C n H v u ∧ ∀ H', Same H H' → Q (.bl true) H'
/-- zip of two tuples, as one walk -/
theorem walk_zipT {K : PySem.W.Frag} {a b : Addr} {xs ys : List V} {n : Nat} (hn : n = min xs.length ys.length) : Walk (RZ.ItzT K a b) n (fun H => SqT K H a xs ∧ SqT K H b ys) (YPair (fun i => xs[i]?) (fun i => ys[i]?)) := by
  subst hn
  refine ⟨fun i _ hi q => ?_, fun _ q => ⟨xs, ys, q.1, q.2, by omega⟩, fun i H v H' _ q y => ?_⟩
  · have h1 : i < xs.length := by omega
    have h2 : i < ys.length := by omega
    exact ⟨xs, ys, xs[i], ys[i], q.1, q.2, by simp [h1], by simp [h2]⟩
  · obtain ⟨T, x, z, h1, h2, h3, h4, h5⟩ := y
    exact ⟨T, x, z, h1, h2, h3, h4 xs q.1, h5 ys q.2⟩
theorem paired_at {α β : Type} {F : α → β → Prop} : ∀ {xs : List α} {ys : List β} {i : Nat} {x : α} {y : β}, Paired F xs ys → xs[i]? = some x → ys[i]? = some y → F x y
  | _, _, 0, _, _, .cons h t, e1, e2 => by
    cases e1
    cases e2
    exact h
  | _, _, i + 1, x, y, .cons h t, e1, e2 => paired_at (i := i) t e1 e2
section
variable {P : Program} {w : World} {K : PySem.W.Frag} {mg : Str → Option Value} {base : Heap} {C : Addr}
theorem scal_atom {u : V} (h : atomV u = true) : scal u u = true := by
  cases u <;> first | rfl | cases h
theorem eq_done {u : V} {H : Hp} {Q : VK} (h : Q (.bl true) H) : Q (.bl (decide (u = u))) H := by
  rw [decide_eq_true rfl]
  exact h
theorem two_fit : 2 ≤ sizeLine := by decide
theorem three_fit : 3 ≤ sizeLine := by decide
theorem atom_key (k : Key) : atomV (kV k) = true := by
  cases k with
  | inl i => rfl
  | inr x => rfl
theorem items_eqt {H : Hp} {m : Nat} : ∀ {ts us : List Addr} {kvs : List (Key × V)}, Paired (fun (t : Addr) (q : Key × V) => H t = some (.tup [kV q.1, q.2])) ts kvs → Paired (fun (t : Addr) (q : Key × V) => H t = some (.tup [kV q.1, q.2])) us kvs →
    (∀ p ∈ kvs, atomV p.2 = true) → Paired (Eqt K C (m + 1) H) (ts.map V.ref) (us.map V.ref)
  | _, _, _, .nil, .nil, _ => .nil
  | _, _, p :: kvs, .cons h1 t1, .cons h2 t2, hp => .cons
      (.inr (.inr (.inl ⟨_, _, _, _, rfl, rfl, h1, h2, .cons (eqt_atom (atom_key p.1)) (.cons (eqt_atom (hp p List.mem_cons_self)) .nil), by show 2 ≤ 1000; decide⟩)))
      (items_eqt t1 t2 fun q hq => hp q (List.mem_cons_of_mem _ hq))
theorem step_same (hk : HKn K C) {fE : Addr} {fdE : FuncData} (S : Eqs K C fE) (GE : FnOk P w K mg base CX0 1 fE fdE ["self", "other"] (spEq4 C)) (bE : Binds K fdE ["self", "other"] []) {f : Addr} {fd : FuncData} (F : Fun K "_law_same" "_law_same" sSame f fd) (T : Bt mg) (gS : mg "_law_same" = some (.ref f)) (bS : Binds K fd ["_law_found", "_law_due_here"] [])
    (n : Nat) (sp : Sp) (G : FnOk P w K mg base CX0 (n + 1) f fd ["_law_found", "_law_due_here"] sp) (hsub : ∀ m, n = m + 1 → sp = spSame K C m) : FnOk P w K mg base CX0 (n + 2) f fd ["_law_found", "_law_due_here"] (spSame K C n) := by
  refine F.ok scSame (fun vs H Q E h => ?_) (fun cdv A outer s H vs Q E hr h => ?_)
  · obtain ⟨v, u, rfl, _⟩ := h
    rfl
  · obtain ⟨v, u, rfl, h, k⟩ := h
    have hs : (v = u ∧ Lf K C H u) ∨ (∃ m, n = m + 1 ∧ (
        (∃ (a b : Addr) (xs ys : List V), v = .ref a ∧ u = .ref b ∧ H a = some (.lst xs) ∧ H b = some (.lst ys) ∧ Paired (Eqt K C m H) xs ys ∧ xs.length ≤ 1000000) ∨
        (∃ (a b : Addr) (xs ys : List V), v = .ref a ∧ u = .ref b ∧ H a = some (.tup xs) ∧ H b = some (.tup ys) ∧ Paired (Eqt K C m H) xs ys ∧ xs.length ≤ 1000) ∨
        (2 ≤ m ∧ ∃ (a b : Addr) (kvs : List (Key × V)), v = .ref a ∧ u = .ref b ∧ H a = some (.dK kvs) ∧ H b = some (.dK kvs) ∧ (∀ p ∈ kvs, atomV p.2 = true) ∧ kvs.length ≤ 1000))) := by
      cases n with
      | zero => exact .inl h
      | succ m =>
        rcases h with h | h
        · exact .inl h
        · exact .inr ⟨m, rfl, h⟩
    refine ⟨_, (pss_cons (ps_if (pt_val (pe_callB call_isiTY (by rfl) T.isi (by decide +kernel) (pa_cons (pv 1) (pa_cons (pe_tup (pa_cons (pe_bltn (v := .ty "list") (by rfl) T.list (by decide +kernel) rfl) (pa_cons (pe_bltn (v := .ty "tuple") (by rfl) T.tuple (by decide +kernel) rfl) pa_nil))) pa_nil)))) (pss_cons (ps_if (PW.pt (pw_or (pt_cmpR op_ne (pe_callB call_isiY (by rfl) T.isi (by decide +kernel) (pa_cons (pv 0) (pa_cons (pe_bltn (v := .ty "list") (by rfl) T.list (by decide +kernel) rfl) pa_nil))) (pe_callB call_isiY (by rfl) T.isi (by decide +kernel) (pa_cons (pv 1) (pa_cons (pe_bltn (v := .ty "list") (by rfl) T.list (by decide +kernel) rfl) pa_nil))) (nomark _)) (pw_or1 (pt_cmpR op_ne (pe_callB call_isiY (by rfl) T.isi (by decide +kernel) (pa_cons (pv 0) (pa_cons (pe_bltn (v := .ty "tuple") (by rfl) T.tuple (by decide +kernel) rfl) pa_nil))) (pe_callB call_isiY (by rfl) T.isi (by decide +kernel) (pa_cons (pv 1) (pa_cons (pe_bltn (v := .ty "tuple") (by rfl) T.tuple (by decide +kernel) rfl) pa_nil))) (nomark _))))) (pss_one (ps_ret pe_bl)) pss_nil)
  (pss_one (ps_ret (pe_and (pe_cmpR op_eq (pe_callB call_len_seq (by rfl) T.len (by decide +kernel) (pa_cons (pv 0) pa_nil)) (pe_callB call_len_seq (by rfl) T.len (by decide +kernel) (pa_cons (pv 1) pa_nil)) (nomark _)) (pe_one (pe_callB (cr_all rfl) (by rfl) T.all (by decide +kernel) (pa_cons (pe_lc (own := [("_law_mine", 2), ("_law_theirs", 3)]) (g := gTup K 2 (gCons (gName 2) (gCons (gName 3) gNil))) (tt := tYes) rfl scSame.nd (RZ.pi_zipA (by rfl) T.zip (pa_cons (pv 0) (pa_cons (pv 1) pa_nil))) (blkOk_by (N := ["_law_found", "_law_due_here", "_law_mine", "_law_theirs"]) (sc := defScope sSame) (by decide +kernel)) (fun _ _ _ _ _ => (pg_tup rfl (pgs_cons (pg_name (i := 2) (x := "_law_mine") scSame.nd rfl (Or.inl rfl)) (pgs_cons (pg_name (i := 3) (x := "_law_theirs") scSame.nd rfl (Or.inl rfl)) pgs_nil)))) (fun _ _ _ _ _ => pts_nil) (fun _ _ _ _ _ => (pe_call G hr (by rfl) gS F.kp bS .nil pass0 (pa_cons (pv 2) (pa_cons (pv 3) pa_nil))))) pa_nil))))))) pss_nil)
  (pss_cons (ps_if (pt_val (pe_callB call_isiY (by rfl) T.isi (by decide +kernel) (pa_cons (pv 1) (pa_cons (pe_bltn (v := .ty "dict") (by rfl) T.dict (by decide +kernel) rfl) pa_nil)))) (pss_one (ps_ret (pe_and (pe_callB call_isiY (by rfl) T.isi (by decide +kernel) (pa_cons (pv 0) (pa_cons (pe_bltn (v := .ty "dict") (by rfl) T.dict (by decide +kernel) rfl) pa_nil))) (pe_one (pe_call G hr (by rfl) gS F.kp bS .nil pass0 (pa_cons (LiI.pe_listItems rfl (pv 0) (by rfl) T.list (by decide +kernel)) (pa_cons (LiI.pe_listItems rfl (pv 1) (by rfl) T.list (by decide +kernel)) pa_nil))))))) pss_nil)
  (pss_cons (ps_if (PW.pt (pw_or (pt_val (pe_callB call_isiY (by rfl) T.isi (by decide +kernel) (pa_cons (pv 1) (pa_cons (pe_bltn (v := .ty "bool") (by rfl) T.bool (by decide +kernel) rfl) pa_nil)))) (pw_or1 (pt_val (pe_callB call_isiY (by rfl) T.isi (by decide +kernel) (pa_cons (pv 0) (pa_cons (pe_bltn (v := .ty "bool") (by rfl) T.bool (by decide +kernel) rfl) pa_nil))))))) (pss_one (ps_ret (pe_and (pe_callB call_isiY (by rfl) T.isi (by decide +kernel) (pa_cons (pv 1) (pa_cons (pe_bltn (v := .ty "bool") (by rfl) T.bool (by decide +kernel) rfl) pa_nil))) (pe_and (pe_callB call_isiY (by rfl) T.isi (by decide +kernel) (pa_cons (pv 0) (pa_cons (pe_bltn (v := .ty "bool") (by rfl) T.bool (by decide +kernel) rfl) pa_nil))) (pe_one (pe_cmpR op_eq (pv 0) (pv 1) (nomark _))))))) pss_nil)
  (pss_one (ps_ret (pe_and (pe_not (pe_callB call_isiTY (by rfl) T.isi (by decide +kernel) (pa_cons (pv 0) (pa_cons (pe_tup (pa_cons (pe_bltn (v := .ty "list") (by rfl) T.list (by decide +kernel) rfl) (pa_cons (pe_bltn (v := .ty "tuple") (by rfl) T.tuple (by decide +kernel) rfl) (pa_cons (pe_bltn (v := .ty "dict") (by rfl) T.dict (by decide +kernel) rfl) pa_nil)))) pa_nil)))) (pe_one (pe_cmpR (op_or (op_or op_eq (op_eqF (Nat.lt_of_le_of_lt (Nat.le_add_right _ 64) hr.units))) (op_eqO S GE bE (hr.mono (by omega)) pass0)) (pv 0) (pv 1) (nomark _))))))))), ?_⟩
    rcases hs with ⟨rfl, ha⟩ | ⟨m, rfl, ⟨a, b, xs, ys, rfl, rfl, ha, hb, hp, hl⟩ | ⟨a, b, xs, ys, rfl, rfl, ha, hb, hp, hl⟩ | ⟨hm, a, b, kvs, rfl, rfl, ha, hb, hp, hl⟩⟩
    · obtain ⟨Ty, i, c, z, ty, ka, hI, hab⟩ := lf_ty hk ha
      refine ⟨_, rfl, two_fit, fun tp htp => ?_⟩
      have e1 := same_new (o := HO.tup [V.ty "list", V.ty "tuple"]) htp
      have ty1 := ty.grow e1
      refine ⟨_, tp, _, _, _, false, rfl, upd_same, .cons (.ty _) (.cons (.ty _) .nil), ty1.now, any2 ka.l ka.u rfl, _, rfl, iteF ?_⟩
      refine ⟨_, rfl, _, _, _, _, false, rfl, .ty _, ty1.now, ka.d, _, rfl, iteF ?_⟩
      refine ⟨_, rfl, _, _, _, _, c, rfl, .ty _, ty1.now, ka.b, _, rfl, ?_⟩
      cases c with
      | true =>
        have ab : atomV v = true := hab rfl
        refine iteT (iteT ?_)
        refine ⟨_, rfl, _, _, _, _, true, rfl, .ty _, ty1.now, ka.b, _, rfl, iteT ⟨_, rfl, _, _, _, _, true, rfl, .ty _, ty1.now, ka.b, _, rfl, iteT ⟨_, rfl, _, rfl, scal_atom ab, ?_⟩⟩⟩
        exact eq_done (k _ e1)
      | false =>
        refine iteF ⟨_, rfl, _, _, _, _, false, rfl, .ty _, ty1.now, ka.b, _, rfl, iteF ?_⟩
        refine ⟨_, rfl, three_fit, fun tq htq => ?_⟩
        have e2 := same_new (o := HO.tup [V.ty "list", V.ty "tuple", V.ty "dict"]) htq
        have ty2 := ty1.grow e2
        refine ⟨_, tq, _, _, _, false, rfl, upd_same, .cons (.ty _) (.cons (.ty _) (.cons (.ty _) .nil)), ty2.now, any3 ka.l ka.u ka.d rfl, _, rfl, _, rfl, iteT ⟨_, rfl, _, rfl, ?_⟩⟩
        have kk := k _ (e1.trans e2)
        rcases ha with ha | ⟨f, o, rfl, h1, h2⟩ | ⟨x, rfl, hx⟩
        · exact .inl (.inl ⟨scal_atom ha, eq_done kk⟩)
        · exact .inl (.inr ⟨f, o, rfl, rfl, h1, h2, kk⟩)
        · have hx2 := hx.same (e1.trans e2)
          obtain ⟨dx, p, q, y1, y2, y3⟩ := hx2
          exact .inr ⟨x, dx, _, .ref C, rfl, y1, .base (.ins y1 hk.hc.cl hk.ha hk.hn hk.ht hk.hm), hk.nf, x, rfl, ⟨dx, p, q, y1, y2, y3⟩, true, rfl, kk⟩
    · obtain rfl := hsub m rfl
      have tyA : TyG K H (.ref a) (.type "list") := fun H' e => .inl (.base (.lst (e _ _ ha)))
      have tyB : TyG K H (.ref b) (.type "list") := fun H' e => .inl (.base (.lst (e _ _ hb)))
      have kL : kitB "list" "list" = some true := by decide +kernel
      have kT : kitB "list" "tuple" = some false := by decide +kernel
      refine ⟨_, rfl, two_fit, fun tp htp => ?_⟩
      have e1 := same_new (o := HO.tup [V.ty "list", V.ty "tuple"]) htp
      have tA := tyA.grow e1
      have tB := tyB.grow e1
      refine ⟨_, tp, _, _, _, true, rfl, upd_same, .cons (.ty _) (.cons (.ty _) .nil), tB.now, kit2 kL kT rfl, _, rfl, iteT ?_⟩
      refine ⟨_, rfl, _, _, _, _, true, rfl, .ty _, tA.now, kit_ty kL, _, rfl, _, _, _, _, true, rfl, .ty _, tB.now, kit_ty kL, rfl, false, rfl, iteF ?_⟩
      refine ⟨_, rfl, _, _, _, _, false, rfl, .ty _, tA.now, kit_ty kT, _, rfl, _, _, _, _, false, rfl, .ty _, tB.now, kit_ty kT, rfl, false, rfl, iteF ?_⟩
      refine ⟨_, rfl, a, xs, rfl, .inl (SqL.of (e1 _ _ ha)), _, rfl, b, ys, rfl, .inl (SqL.of (e1 _ _ hb)), rfl, true, ?_, iteT ?_⟩
      · exact congrArg V.bl (decide_eq_true (congrArg V.int (congrArg Int.ofNat hp.length)))
      · refine ⟨_, rfl, _, rfl, a, b, xs, ys, rfl, .inl ⟨SqL.of (e1 _ _ ha), SqL.of (e1 _ _ hb), fun D hD => ?_⟩⟩
        have e2 := same_new (o := HO.lst []) hD
        refine lc_it (walk_zip (xs := xs) (ys := ys) (n := xs.length) (by rw [← hp.length]; simp)) (fun i H' => Same (upd H tp (.tup [V.ty "list", V.ty "tuple"])) H' ∧ H' D = some (.lst (List.replicate i (V.bl true)))) ⟨e2, upd_same⟩ (fun i H' _ q => ⟨SqL.of (q.1 _ _ (e1 _ _ ha)), SqL.of (q.1 _ _ (e1 _ _ hb))⟩) ?_ ?_
        · rintro i x H3 H4 hi ⟨q1, q2⟩ ⟨t, x1, y1, rfl, ht, rfl, hx, hy⟩
          have e3 := same_new (o := HO.tup [x1, y1]) ht
          refine ⟨t, _, rfl, SqT.of upd_same, rfl, _, _, rfl, _, _, rfl, rfl, rfl, ?_⟩
          dsimp only [tYes]
          refine iteT ?_
          refine ⟨_, rfl, _, rfl, x1, y1, rfl, (paired_at hp hx hy).ext (ext_of ((e1.trans q1).trans e3)), fun H5 e5 => ?_⟩
          refine ⟨List.replicate i (V.bl true), e5 _ _ (e3 _ _ q2), ?_, fun p o z => ?_, ?_⟩
          · rw [List.length_replicate]
            exact Nat.lt_of_lt_of_le hi (Nat.le_trans hl (by decide))
          · have np : p ≠ D := ne_of_none z hD
            rw [upd_ne np]
            exact e5 _ _ (e3 _ _ (q1 _ _ z))
          · rw [upd_same, List.replicate_succ']
        · rintro H3 ⟨q1, q2⟩
          refine ⟨D, List.replicate xs.length true, rfl, SqL.of ?_, ?_⟩
          · rw [List.map_replicate]
            exact q2
          · have z : (List.replicate xs.length true).all id = true := by simp
            rw [z]
            exact k _ (e1.trans q1)
    · obtain rfl := hsub m rfl
      have tyA : TyG K H (.ref a) (.type "tuple") := fun H' e => .inl (.base (.tup (e _ _ ha)))
      have tyB : TyG K H (.ref b) (.type "tuple") := fun H' e => .inl (.base (.tup (e _ _ hb)))
      have kL : kitB "tuple" "list" = some false := by decide +kernel
      have kT : kitB "tuple" "tuple" = some true := by decide +kernel
      refine ⟨_, rfl, two_fit, fun tp htp => ?_⟩
      have e1 := same_new (o := HO.tup [V.ty "list", V.ty "tuple"]) htp
      have tA := tyA.grow e1
      have tB := tyB.grow e1
      refine ⟨_, tp, _, _, _, true, rfl, upd_same, .cons (.ty _) (.cons (.ty _) .nil), tB.now, kit2 kL kT rfl, _, rfl, iteT ?_⟩
      refine ⟨_, rfl, _, _, _, _, false, rfl, .ty _, tA.now, kit_ty kL, _, rfl, _, _, _, _, false, rfl, .ty _, tB.now, kit_ty kL, rfl, false, rfl, iteF ?_⟩
      refine ⟨_, rfl, _, _, _, _, true, rfl, .ty _, tA.now, kit_ty kT, _, rfl, _, _, _, _, true, rfl, .ty _, tB.now, kit_ty kT, rfl, false, rfl, iteF ?_⟩
      refine ⟨_, rfl, a, xs, rfl, .inr (SqT.of (e1 _ _ ha)), _, rfl, b, ys, rfl, .inr (SqT.of (e1 _ _ hb)), rfl, true, ?_, iteT ?_⟩
      · exact congrArg V.bl (decide_eq_true (congrArg V.int (congrArg Int.ofNat hp.length)))
      · refine ⟨_, rfl, _, rfl, a, b, xs, ys, rfl, .inr ⟨SqT.of (e1 _ _ ha), SqT.of (e1 _ _ hb), fun D hD => ?_⟩⟩
        have e2 := same_new (o := HO.lst []) hD
        refine lc_it (walk_zipT (xs := xs) (ys := ys) (n := xs.length) (by rw [← hp.length]; simp)) (fun i H' => Same (upd H tp (.tup [V.ty "list", V.ty "tuple"])) H' ∧ H' D = some (.lst (List.replicate i (V.bl true)))) ⟨e2, upd_same⟩ (fun i H' _ q => ⟨SqT.of (q.1 _ _ (e1 _ _ ha)), SqT.of (q.1 _ _ (e1 _ _ hb))⟩) ?_ ?_
        · rintro i x H3 H4 hi ⟨q1, q2⟩ ⟨t, x1, y1, rfl, ht, rfl, hx, hy⟩
          have e3 := same_new (o := HO.tup [x1, y1]) ht
          refine ⟨t, _, rfl, SqT.of upd_same, rfl, _, _, rfl, _, _, rfl, rfl, rfl, ?_⟩
          dsimp only [tYes]
          refine iteT ?_
          refine ⟨_, rfl, _, rfl, x1, y1, rfl, (paired_at hp hx hy).ext (ext_of ((e1.trans q1).trans e3)), fun H5 e5 => ?_⟩
          refine ⟨List.replicate i (V.bl true), e5 _ _ (e3 _ _ q2), ?_, fun p o z => ?_, ?_⟩
          · rw [List.length_replicate]
            exact Nat.lt_of_lt_of_le hi (Nat.le_trans hl (by decide))
          · have np : p ≠ D := ne_of_none z hD
            rw [upd_ne np]
            exact e5 _ _ (e3 _ _ (q1 _ _ z))
          · rw [upd_same, List.replicate_succ']
        · rintro H3 ⟨q1, q2⟩
          refine ⟨D, List.replicate xs.length true, rfl, SqL.of ?_, ?_⟩
          · rw [List.map_replicate]
            exact q2
          · have z : (List.replicate xs.length true).all id = true := by simp
            rw [z]
            exact k _ (e1.trans q1)
    · obtain rfl := hsub m rfl
      have tyA : TyG K H (.ref a) (.type "dict") := fun H' e => .inl (.base (.dK (e _ _ ha)))
      have tyB : TyG K H (.ref b) (.type "dict") := fun H' e => .inl (.base (.dK (e _ _ hb)))
      have kD : kitB "dict" "dict" = some true := by decide +kernel
      refine ⟨_, rfl, two_fit, fun tp htp => ?_⟩
      have e1 := same_new (o := HO.tup [V.ty "list", V.ty "tuple"]) htp
      have tA := tyA.grow e1
      have tB := tyB.grow e1
      refine ⟨_, tp, _, _, _, false, rfl, upd_same, .cons (.ty _) (.cons (.ty _) .nil), tB.now, kit2 (T := "dict") (x := false) (y := false) (by decide +kernel) (by decide +kernel) rfl, _, rfl, iteF ?_⟩
      refine ⟨_, rfl, _, _, _, _, true, rfl, .ty _, tB.now, kit_ty kD, _, rfl, iteT ?_⟩
      refine ⟨_, rfl, _, _, _, _, true, rfl, .ty _, tA.now, kit_ty kD, _, rfl, iteT ?_⟩
      refine ⟨_, rfl, a, kvs, rfl, e1 _ _ ha, fun H2 p ts e2 _ _ _ hl2 hp2 => ?_⟩
      refine ⟨_, rfl, b, kvs, rfl, e2 _ _ (e1 _ _ hb), fun H3 q us e3 _ _ _ hl3 hp3 => ?_⟩
      refine ⟨.ref p, .ref q, rfl, ?_, fun H4 e4 => k _ (((e1.trans e2).trans e3).trans e4)⟩
      obtain ⟨m2, rfl⟩ : ∃ m2, m = m2 + 2 := ⟨m - 2, by omega⟩
      have hp2' := paired_imp hp2 fun t q z => e3 _ _ z
      refine .inr (.inl ⟨p, q, _, _, rfl, rfl, e3 _ _ hl2, hl3, items_eqt hp2' hp3 hp, ?_⟩)
      rw [List.length_map, hp2.length]
      exact Nat.le_trans hl (by decide)
theorem ok_same (hk : HKn K C) {fE : Addr} {fdE : FuncData} (S : Eqs K C fE) (GE : FnOk P w K mg base CX0 1 fE fdE ["self", "other"] (spEq4 C)) (bE : Binds K fdE ["self", "other"] []) {f : Addr} {fd : FuncData} (F : Fun K "_law_same" "_law_same" sSame f fd) (T : Bt mg) (gS : mg "_law_same" = some (.ref f)) (bS : Binds K fd ["_law_found", "_law_due_here"] []) :
    ∀ n : Nat, FnOk P w K mg base CX0 (n + 2) f fd ["_law_found", "_law_due_here"] (spSame K C n)
  | 0 => step_same hk S GE bE F T gS bS 0 (fun _ _ _ _ => False) ⟨fun _ _ _ _ z => z.elim, fun _ _ _ _ _ _ _ _ _ _ _ _ _ z => z.elim⟩ fun m z => by omega
  | n + 1 => step_same hk S GE bE F T gS bS (n + 1) (spSame K C n) (ok_same hk S GE bE F T gS bS n) fun m z => by
    have e : n = m := by omega
    rw [e]
end
end K05

set_option Elab.async false
set_option linter.all false
set_option maxRecDepth 100000
set_option maxHeartbeats 4000000
namespace K05
open PySem PySem.Spec PyProof.Rows L2 Own
/-! is_steps -/
def iv : V → Int
  | .int i => i
  | _ => 0
def stpL : Int → Int → List (Option (List V)) → Bool
  | _, b, [] => decide (b = 0)
  | l, b, some [x, y] :: r => isN x && (isN y && (decide (l < iv x) && (!decide (iv y = b) && stpL (iv x) (iv y) r)))
  | _, _, _ :: _ => false
def stp : Option (List (Option (List V))) → Bool
  | some os => stpL (-1) 0 os
  | none => false
/-- things and what they hold, and a kind for each of that -/
def Pr (K : PySem.W.Frag) (C : Addr) (H : Hp) (x : V) (o : Option (List V)) : Prop := SqR K C H x o ∧ ∀ ys, o = some ys → ys.length ≤ 1000 ∧ ∀ y ∈ ys, ∃ oy, SqR K C H y oy
def Cd (K : PySem.W.Frag) (C : Addr) (H : Hp) (v : V) : Option (List (Option (List V))) → Prop
  | none => SqR K C H v none
  | some os => ∃ xs, SqR K C H v (some xs) ∧ Paired (Pr K C H) xs os ∧ xs.length ≤ 1000
theorem Pr.same {K : PySem.W.Frag} {C : Addr} {H H' : Hp} {x : V} {o : Option (List V)} (h : Pr K C H x o) (e : Same H H') : Pr K C H' x o := ⟨h.1.same e, fun ys z => ⟨(h.2 ys z).1, fun y hy => by
  obtain ⟨oy, q⟩ := (h.2 ys z).2 y hy
  exact ⟨oy, q.same e⟩⟩⟩
theorem prs_imp {α β : Type} {F G : α → β → Prop} : ∀ {xs : List α} {ys : List β}, Paired F xs ys → (∀ a b, F a b → G a b) → Paired G xs ys
  | _, _, .nil, _ => .nil
  | _, _, .cons h t, k => .cons (k _ _ h) (prs_imp t k)
theorem prs_at {α β : Type} {F : α → β → Prop} : ∀ {xs : List α} {ys : List β} {i : Nat} {x : α}, Paired F xs ys → xs[i]? = some x → ∃ y, ys[i]? = some y ∧ F x y
  | _, _, _, _, .nil, h => by cases h
  | _, _, 0, _, .cons h t, e => by
    obtain rfl := Option.some.inj e
    exact ⟨_, rfl, h⟩
  | _, _, i + 1, _, .cons h t, e => prs_at (i := i) t e
theorem Cd.same {K : PySem.W.Frag} {C : Addr} {H H' : Hp} {v : V} : ∀ {c : Option (List (Option (List V)))}, Cd K C H v c → Same H H' → Cd K C H' v c
  | none, h, e => SqR.same h e
  | some os, h, e => by
    obtain ⟨xs, h1, h2, h3⟩ := h
    exact ⟨xs, h1.same e, prs_imp h2 fun _ _ q => q.same e, h3⟩
theorem Cd.sq {K : PySem.W.Frag} {C : Addr} {H : Hp} {v : V} : ∀ {c : Option (List (Option (List V)))}, Cd K C H v c → ∃ o, SqR K C H v o ∧ o.isSome = c.isSome
  | none, h => ⟨none, h, rfl⟩
  | some os, h => by
    obtain ⟨xs, h1, h2⟩ := h
    exact ⟨some xs, h1, rfl⟩
theorem sq_at {K : PySem.W.Frag} {C : Addr} {H : Hp} {v : V} {xs : List V} (h : SqR K C H v (some xs)) : ∃ p, v = .ref p ∧ (H p = some (.lst xs) ∨ H p = some (.tup xs)) := by
  rcases h with ⟨_, z⟩ | ⟨p, kvs, _, _, z⟩ | ⟨p, ys, rfl, h, z⟩
  · cases z
  · cases z
  · cases z
    exact ⟨p, rfl, h⟩
theorem isN_iv {v : V} (h : isN v = true) : v = .int (iv v) ∧ 0 ≤ iv v := by
  obtain ⟨i, rfl, h0⟩ := isN_int h
  exact ⟨rfl, h0⟩
abbrev NIsSteps : List Str := ["thing", "last", "before", "pair", "turn", "rate"]
theorem scIsSteps : FnScope NIsSteps ["thing"] (defScope s_is_steps) := ⟨rfl, rfl, rfl, by decide +kernel, rfl, by decide +kernel, by decide +kernel⟩
def spSteps (K : PySem.W.Frag) (C : Addr) : Sp := fun vs H Q _ => ∃ v c, vs = [v] ∧ Cd K C H v c ∧ ∀ H', Same H H' → Q (.bl (stp c)) H'
section
variable {P : Program} {w : World} {K : PySem.W.Frag} {mg : Str → Option Value} {base : Heap} {C : Addr}
theorem ok_isSteps (hk : HKn K C) {f fI fN fL : Addr} {fd fdI fdN fdL : FuncData} (F : Fun K "is_steps" "is_steps" s_is_steps f fd) (T : Bt mg) (FI : Fun K "is_integer" "is_integer" sIsInt fI fdI) (gI : mg "is_integer" = some (.ref fI)) (bI : Binds K fdI ["thing"] [])
    (FN : Fun K "is_number" "is_number" sIsNum fN fdN) (gN : mg "is_number" = some (.ref fN)) (bN : Binds K fdN ["thing"] []) (FL : Fun K "is_list" "is_list" sIsList fL fdL) (gL : mg "is_list" = some (.ref fL)) (bL : Binds K fdL ["thing"] []) : FnOk P w K mg base CX0 3 f fd ["thing"] (spSteps K C) := by
  have GN : FnOk P w K mg base CX0 2 fN fdN ["thing"] (spNumY K C) := ok_isNumY hk FN T FI gI bI
  have GL : FnOk P w K mg base CX0 1 fL fdL ["thing"] (spLstY K C) := ok_isLstY hk FL T
  refine F.ok scIsSteps (fun vs H Q E h => ?_) (fun cdv A outer s H vs Q E hr h => ?_)
  · obtain ⟨v, c, rfl, _⟩ := h
    rfl
  · obtain ⟨v, c, rfl, hc, k⟩ := h
    refine ⟨_, (pss_cons (ps_if (pt_not (pt_val (pe_call GL (hr.mono (by decide)) (by rfl) gL FL.kp bL .nil pass0 (pa_cons (pv 0) pa_nil)))) (pss_one (ps_ret pe_bl)) pss_nil)
  (pss_cons (ps_set (i := 1) scIsSteps.nd rfl (Or.inl rfl) (pe_un un_neg pe_int))
  (pss_cons (ps_set (i := 2) scIsSteps.nd rfl (Or.inl rfl) pe_int)
  (pss_cons (ps_for PassesOwn.never rfl (pi_or (pi_list (pv 0)) (pi_tup (pv 0))) (pg_name (i := 3) (x := "pair") scIsSteps.nd rfl (Or.inl rfl)) (pss_cons (ps_if (PW.pt (pw_or (pt_not (pt_val (pe_call GL (hr.mono (by decide)) (by rfl) gL FL.kp bL .nil pass0 (pa_cons (pv 3) pa_nil)))) (pw_or1 (pt_cmpR op_ne (pe_callB call_len_seq (by rfl) T.len (by decide +kernel) (pa_cons (pv 3) pa_nil)) pe_int (nomark _))))) (pss_one (ps_ret pe_bl)) pss_nil)
  (Evl.pss_cut (ps_asg (pv 3) (pg_or (pg_tup rfl (pgs_cons (pg_name (i := 4) (x := "turn") scIsSteps.nd rfl (Or.inl rfl)) (pgs_cons (pg_name (i := 5) (x := "rate") scIsSteps.nd rfl (Or.inl rfl)) pgs_nil))) (pg_unl rfl (pgs_cons (pg_name (i := 4) (x := "turn") scIsSteps.nd rfl (Or.inl rfl)) (pgs_cons (pg_name (i := 5) (x := "rate") scIsSteps.nd rfl (Or.inl rfl)) pgs_nil)))))
  (pss_cons (ps_if (PW.pt (pw_or (pt_not (pt_val (pe_call GN (hr.mono (by decide)) (by rfl) gN FN.kp bN .nil pass0 (pa_cons (pv 4) pa_nil)))) (pw_or (pt_not (pt_val (pe_call GN (hr.mono (by decide)) (by rfl) gN FN.kp bN .nil pass0 (pa_cons (pv 5) pa_nil)))) (pw_or (pt_cmpR op_le (pv 4) (pv 1) (nomark _)) (pw_or1 (pt_cmpR op_eq (pv 5) (pv 2) (nomark _))))))) (pss_one (ps_ret pe_bl)) pss_nil)
  (pss_cons (ps_set (i := 1) scIsSteps.nd rfl (Or.inl rfl) (pv 4))
  (pss_one (ps_set (i := 2) scIsSteps.nd rfl (Or.inl rfl) (pv 5))))))))
  (pss_one (ps_ret (pe_cmpR op_eq (pv 2) pe_int (nomark _)))))))), ?_⟩
    obtain ⟨o, ho, eo⟩ := hc.sq
    refine ⟨_, rfl, v, o, rfl, ho, fun H1 e1 => ⟨_, rfl, ?_⟩⟩
    rw [eo]
    cases c with
    | none => exact iteT (k _ e1)
    | some os =>
      obtain ⟨xs, h1, h2, h3⟩ := hc
      obtain ⟨b, rfl, hb⟩ := sq_at h1
      refine iteF ⟨1, rfl, ?_⟩
      refine walk_or (K := K) (H0 := H1) (hb.imp (e1 _ _) (e1 _ _)) (Same.refl H1) (fun S q => ⟨_, rfl, q⟩) fun J G wk hG => ?_
      refine for_it wk (fun i σ H' => (∃ (l b' : Int) (x3 x4 x5 : Option V), σ = [some (.ref b), some (.int l), some (.int b'), x3, x4, x5] ∧ stp (some os) = stpL l b' (os.drop i)) ∧ Same H1 H') ⟨⟨-1, 0, _, _, _, rfl, rfl⟩, Same.refl H1⟩ (fun i σ H' _ z => hG _ z.2) ?_ ?_
      · rintro i x σ H4 H5 hi ⟨⟨l, b', x3, x4, x5, rfl, eq⟩, s4⟩ ⟨rfl, hx⟩
        obtain ⟨oi, hoi, q⟩ := prs_at h2 hx
        have dr : os.drop i = oi :: os.drop (i + 1) := by
          obtain ⟨hl, hg⟩ := List.getElem?_eq_some_iff.mp hoi
          rw [← hg, List.drop_eq_getElem_cons hl]
        rw [dr] at eq
        have e5 : Same H H5 := e1.trans s4
        have q5 := q.same e5
        have no : ∀ H', Same H5 H' → stpL l b' (oi :: os.drop (i + 1)) = false → Q (.bl false) H' := fun H' e' z => by
          have y := k H' (e5.trans e')
          rw [eq, z] at y
          exact y
        refine ⟨_, rfl, x, oi, rfl, q5.1, fun H6 e6 => ⟨_, rfl, ?_⟩⟩
        cases oi with
        | none => exact no _ e6 rfl
        | some ys =>
          obtain ⟨p, rfl, hp⟩ := sq_at q5.1
          obtain ⟨hl, hy⟩ := q5.2 ys rfl
          refine iteF ⟨_, rfl, p, ys, rfl, hp.imp (fun z => SqL.of (e6 _ _ z)) (fun z => SqT.of (e6 _ _ z)), rfl, _, rfl, ?_⟩
          refine ite2 (fun hc => ?_) (fun hc => ?_)
          · refine no _ e6 ?_
            match ys, hc with
            | [], _ => rfl
            | [_], _ => rfl
            | [_, _], hc => cases hc
            | _ :: _ :: _ :: _, _ => rfl
          · have hl2 : ys.length = 2 := by
              have z : decide (V.int (ys.length : Nat) = V.int 2) = true := by simpa using hc
              exact Int.ofNat.inj (V.int.inj (of_decide_eq_true z))
            match ys, hl2 with
            | [u, v], _ =>
              obtain ⟨ou, su⟩ := hy u (by simp)
              obtain ⟨ov, sv⟩ := hy v (by simp)
              refine ⟨fun σ' H' => H' = H6 ∧ σ' = [some (.ref b), some (.int l), some (.int b'), some (.ref p), some u, some v], ?_, ?_⟩
              · refine ⟨_, rfl, ?_⟩
                rcases hp with hp | hp
                · exact .inr ⟨p, _, rfl, SqL.of (e6 _ _ hp), rfl, _, _, rfl, _, _, rfl, rfl, rfl, rfl⟩
                · exact .inl ⟨p, _, rfl, SqT.of (e6 _ _ hp), rfl, _, _, rfl, _, _, rfl, rfl, rfl, rfl⟩
              · rintro σ' H' ⟨rfl, rfl⟩
                have eq2 : stpL l b' (some [u, v] :: os.drop (i + 1)) = (isN u && (isN v && (decide (l < iv u) && (!decide (iv v = b') && stpL (iv u) (iv v) (os.drop (i + 1)))))) := rfl
                rw [eq2] at no eq
                refine ⟨_, rfl, u, ou, rfl, su.same e6, _, rfl, ?_⟩
                cases hu : isN u with
                | false => exact no _ e6 (by rw [hu]; rfl)
                | true =>
                  refine ⟨_, rfl, v, ov, rfl, sv.same e6, _, rfl, ?_⟩
                  cases hv : isN v with
                  | false => exact no _ e6 (by rw [hu, hv]; rfl)
                  | true =>
                    obtain ⟨eu, _⟩ := isN_iv hu
                    obtain ⟨ev, _⟩ := isN_iv hv
                    generalize iv u = iu at *
                    generalize iv v = iw at *
                    subst eu ev
                    rw [hu, hv] at no eq
                    refine ⟨_, rfl, _, rfl, _, _, rfl, rfl, _, rfl, ?_⟩
                    by_cases c1 : iu ≤ l
                    · rw [decide_eq_true c1]
                      exact no _ e6 (by rw [decide_eq_false (show ¬ l < iu by omega)]; rfl)
                    · rw [decide_eq_false c1]
                      refine ⟨_, rfl, _, rfl, rfl, _, rfl, ?_⟩
                      rw [decide_eq_true (show l < iu by omega)] at no eq
                      by_cases c2 : iw = b'
                      · subst c2
                        rw [decide_eq_true rfl]
                        exact no _ e6 (by rw [decide_eq_true rfl]; rfl)
                      · rw [decide_eq_false (fun z => c2 (V.int.inj z))]
                        rw [decide_eq_false c2] at eq
                        refine ⟨_, rfl, _, rfl, ⟨iu, iw, _, _, _, rfl, eq⟩, s4.trans e6⟩
      · rintro σ H4 ⟨⟨l, b', x3, x4, x5, rfl, eq⟩, s4⟩
        have hlen : xs.length = os.length := h2.length
        rw [hlen, List.drop_length] at eq
        have y := k H4 (e1.trans s4)
        rw [eq, show stpL l b' [] = decide (V.int b' = V.int 0) from by
          by_cases z : b' = 0
          · subst z
            rfl
          · rw [decide_eq_false (fun w => z (V.int.inj w))]
            exact decide_eq_false z] at y
        exact ⟨_, rfl, rfl, y⟩
end
end K05

set_option Elab.async false
set_option linter.all false
set_option maxRecDepth 100000
set_option maxHeartbeats 4000000
namespace K05
open PySem PySem.Spec PyProof.Rows L2 Own
/-! steps as pairs of numbers: the rate at a turn, what has passed -/
def itP (p : Int × Int) : Option (List V) := some [.int p.1, .int p.2]
def okL : Int → Int → List (Int × Int) → Prop
  | _, b, [] => b = 0
  | l, b, p :: r => 0 ≤ p.1 ∧ 0 ≤ p.2 ∧ l < p.1 ∧ p.2 ≠ b ∧ okL p.1 p.2 r
theorem stpL_ok : ∀ {os : List (Option (List V))} {l b : Int}, stpL l b os = true → ∃ L, os = L.map itP ∧ okL l b L
  | [], l, b, h => ⟨[], rfl, of_decide_eq_true (p := b = 0) h⟩
  | none :: r, l, b, h => by cases h
  | some [] :: r, l, b, h => by cases h
  | some [_] :: r, l, b, h => by cases h
  | some [x, y] :: r, l, b, h => by
    have h' : (isN x && (isN y && (decide (l < iv x) && (!decide (iv y = b) && stpL (iv x) (iv y) r)))) = true := h
    simp only [Bool.and_eq_true, Bool.not_eq_true', decide_eq_true_eq, decide_eq_false_iff_not] at h'
    obtain ⟨hx, hy, h1, h2, h3⟩ := h'
    obtain ⟨ex, x0⟩ := isN_iv hx
    obtain ⟨ey, y0⟩ := isN_iv hy
    obtain ⟨L, rfl, ok⟩ := stpL_ok h3
    refine ⟨(iv x, iv y) :: L, ?_, x0, y0, h1, h2, ok⟩
    show some [x, y] :: _ = some [V.int (iv x), V.int (iv y)] :: _
    rw [← ex, ← ey]
  | some (_ :: _ :: _ :: _) :: r, l, b, h => by cases h
theorem okL_stp : ∀ {L : List (Int × Int)} {l b : Int}, okL l b L → stpL l b (L.map itP) = true
  | [], l, b, h => decide_eq_true (p := b = 0) h
  | p :: r, l, b, h => by
    obtain ⟨h1, h2, h3, h4, h5⟩ := h
    show (decide (0 ≤ p.1) && (decide (0 ≤ p.2) && (decide (l < p.1) && (!decide (p.2 = b) && stpL p.1 p.2 (r.map itP))))) = true
    rw [decide_eq_true h1, decide_eq_true h2, decide_eq_true h3, decide_eq_false h4, okL_stp h5]
    rfl
/-- the rate at a turn -/
def rateF (t : Int) : Int → List (Int × Int) → Int
  | f, [] => f
  | f, p :: r => rateF t (if p.1 ≤ t then p.2 else f) r
/-- what has passed ahead of a turn, stretch by stretch -/
def pahF (t : Int) : List (Int × Int) → Int
  | p :: q :: r => (if p.1 < t then p.2 * (min q.1 t - p.1) else 0) + pahF t (q :: r)
  | _ => 0
/-- the same, change by change -/
def lpsF (t : Int) : Int → List (Int × Int) → Int
  | _, [] => 0
  | a, p :: r => (if p.1 ≤ t then (p.2 - a) * (t + 1 - p.1) else 0) + lpsF t p.2 r
def ovr (t s : Int) : Int := if s < t then t - s else 0
theorem lps_pah (t : Int) : ∀ (r : List (Int × Int)) (p : Int × Int) (l a : Int), okL l a (p :: r) → lpsF t a (p :: r) = pahF (t + 1) (p :: r) - a * ovr (t + 1) p.1
  | [], p, l, a, h => by
    obtain ⟨h1, h2, h3, h4, h5⟩ := h
    have h5 : p.2 = 0 := h5
    show (if p.1 ≤ t then (p.2 - a) * (t + 1 - p.1) else 0) + 0 = 0 - a * ovr (t + 1) p.1
    unfold ovr
    by_cases c : p.1 ≤ t
    · rw [if_pos c, if_pos (by omega), h5, Int.sub_mul]
      omega
    · rw [if_neg c, if_neg (by omega), Int.mul_zero]
      rfl
  | q :: r, p, l, a, h => by
    obtain ⟨h1, h2, h3, h4, h5⟩ := h
    have ih := lps_pah t r q p.1 p.2 h5
    have hq : p.1 < q.1 := h5.2.2.1
    show (if p.1 ≤ t then (p.2 - a) * (t + 1 - p.1) else 0) + lpsF t p.2 (q :: r) = ((if p.1 < t + 1 then p.2 * (min q.1 (t + 1) - p.1) else 0) + pahF (t + 1) (q :: r)) - a * ovr (t + 1) p.1
    rw [ih]
    unfold ovr
    by_cases c : p.1 ≤ t
    · rw [if_pos c, if_pos (show p.1 < t + 1 by omega), if_pos (show p.1 < t + 1 by omega), Int.sub_mul]
      by_cases d : q.1 < t + 1
      · rw [if_pos d, show min q.1 (t + 1) = q.1 by omega, show q.1 - p.1 = (t + 1 - p.1) - (t + 1 - q.1) by omega, show p.2 * ((t + 1 - p.1) - (t + 1 - q.1)) = p.2 * (t + 1 - p.1) - p.2 * (t + 1 - q.1) from Int.mul_sub _ _ _]
        omega
      · rw [if_neg d, show min q.1 (t + 1) = t + 1 by omega, Int.mul_zero]
        omega
    · rw [if_neg c, if_neg (show ¬ p.1 < t + 1 by omega), if_neg (show ¬ p.1 < t + 1 by omega), if_neg (show ¬ q.1 < t + 1 by omega), Int.mul_zero, Int.mul_zero]
      omega
theorem lps_all {t : Int} {L : List (Int × Int)} {l : Int} (h : okL l 0 L) : lpsF t 0 L = pahF (t + 1) L := by
  cases L with
  | nil => rfl
  | cons p r =>
    rw [lps_pah t r p l 0 h, Int.zero_mul]
    omega
end K05

set_option Elab.async false
set_option linter.all false
namespace K05
open PySem PySem.Spec PyProof.Rows L2 Own
theorem cut_to (xs : List V) {k : Int} (h : 0 ≤ k) : cutV xs none (some k) = xs.take k.toNat := by
  obtain ⟨n, rfl⟩ := Int.eq_ofNat_of_zero_le h
  unfold cutV
  rw [HT.sIx_nat]
  show (xs.drop 0).take (min n xs.length - 0) = xs.take n
  rw [List.drop_zero, Nat.sub_zero]
  by_cases z : n ≤ xs.length
  · rw [Nat.min_eq_left z]
  · rw [Nat.min_eq_right (by omega), List.take_of_length_le (Nat.le_refl _), List.take_of_length_le (by omega)]
theorem cut_from (xs : List V) {k : Int} (h : 0 ≤ k) : cutV xs (some k) none = xs.drop k.toNat := by
  obtain ⟨n, rfl⟩ := Int.eq_ofNat_of_zero_le h
  unfold cutV
  rw [HT.sIx_nat]
  show (xs.drop (min n xs.length)).take (xs.length - min n xs.length) = xs.drop n
  by_cases z : n ≤ xs.length
  · rw [Nat.min_eq_left z, List.take_of_length_le (by rw [List.length_drop]; exact Nat.le_refl _)]
  · rw [Nat.min_eq_right (by omega), List.drop_eq_nil_of_le (Nat.le_refl _), List.drop_eq_nil_of_le (by omega), List.take_nil]
end K05

set_option Elab.async false
set_option linter.all false
set_option maxRecDepth 100000
set_option maxHeartbeats 4000000
namespace K05
open PySem PySem.Spec PyProof.Rows L2 Own
/-! need_turn, need_steps, rate_at, passed, where all is right -/
/-- steps, as pairs of numbers -/
structure StL (K : PySem.W.Frag) (C : Addr) (H : Hp) (v : V) (L : List (Int × Int)) : Prop where
  cd : Cd K C H v (some (L.map itP))
  ok : okL (-1) 0 L
  bd : ∀ p ∈ L, p.1 < 2 ^ 60 ∧ 0 ≤ p.2 ∧ p.2 < 2 ^ 60
theorem StL.same {K : PySem.W.Frag} {C : Addr} {H H' : Hp} {v : V} {L : List (Int × Int)} (h : StL K C H v L) (e : Same H H') : StL K C H' v L := ⟨h.cd.same e, h.ok, h.bd⟩
/-- a row of such steps -/
theorem StL.at {K : PySem.W.Frag} {C : Addr} {H : Hp} {v : V} {L : List (Int × Int)} (h : StL K C H v L) : ∃ (p : Addr) (xs : List V), v = .ref p ∧ (H p = some (.lst xs) ∨ H p = some (.tup xs)) ∧ xs.length = L.length ∧
    ∀ (i : Nat) (x : V), xs[i]? = some x → ∃ (q : Addr) (d : Int × Int), L[i]? = some d ∧ x = .ref q ∧ (H q = some (.lst [.int d.1, .int d.2]) ∨ H q = some (.tup [.int d.1, .int d.2])) := by
  obtain ⟨xs, h1, h2, h3⟩ := h.cd
  obtain ⟨p, rfl, hp⟩ := sq_at h1
  refine ⟨p, xs, rfl, hp, by rw [h2.length, List.length_map], fun i x hx => ?_⟩
  obtain ⟨o, ho, q⟩ := prs_at h2 hx
  rw [List.getElem?_map] at ho
  cases e : L[i]? with
  | none =>
    rw [e] at ho
    cases ho
  | some d =>
    rw [e] at ho
    cases ho
    obtain ⟨b, rfl, hb⟩ := sq_at q.1
    exact ⟨b, d, rfl, rfl, hb⟩
/-- two names out of a list or a tuple -/
def gEi (K : PySem.W.Frag) (i j : Nat) : TG := fun v σ H Q => gTup K 2 (gCons (gName i) (gCons (gName j) gNil)) v σ H Q ∨ gUnl K 2 (gCons (gName i) (gCons (gName j) gNil)) v σ H Q
theorem gEi_ok {K : PySem.W.Frag} {i j : Nat} {q : Addr} {u v : V} {σ : L2.St} {H : Hp} {Q : L2.St → Hp → Prop} (h : H q = some (.lst [u, v]) ∨ H q = some (.tup [u, v])) (k : Q ((σ.set i (some u)).set j (some v)) H) : gEi K i j (.ref q) σ H Q := by
  rcases h with h | h
  · exact .inr ⟨q, _, rfl, SqL.of h, rfl, _, _, rfl, _, _, rfl, rfl, k⟩
  · exact .inl ⟨q, _, rfl, SqT.of h, rfl, _, _, rfl, _, _, rfl, rfl, k⟩
def spNSok (K : PySem.W.Frag) (C : Addr) : Sp := fun vs H Q _ => ∃ v L, vs = [v] ∧ StL K C H v L ∧ ∀ H', Same H H' → Q .non H'
theorem scNS : FnScope ["steps"] ["steps"] (defScope s_need_steps) := ⟨rfl, rfl, rfl, by decide +kernel, rfl, by decide +kernel, by decide +kernel⟩
section
variable {P : Program} {w : World} {K : PySem.W.Frag} {mg : Str → Option Value} {base : Heap} {C : Addr}
theorem ok_NS {f fS : Addr} {fd fdS : FuncData} (F : Fun K "need_steps" "need_steps" s_need_steps f fd) (FS : Fun K "is_steps" "is_steps" s_is_steps fS fdS) (gS : mg "is_steps" = some (.ref fS)) (bS : Binds K fdS ["thing"] []) (GS : FnOk P w K mg base CX0 3 fS fdS ["thing"] (spSteps K C)) :
    FnOk P w K mg base CX0 4 f fd ["steps"] (spNSok K C) := by
  refine F.ok scNS (fun vs H Q E h => ?_) (fun cdv A outer s H vs Q E hr h => ?_)
  · obtain ⟨v, L, rfl, _⟩ := h
    rfl
  · obtain ⟨v, L, rfl, hv, k⟩ := h
    refine ⟨_, pss_one (ps_if (pt_not (pt_val (pe_call GS (hr.mono (by decide)) (by rfl) gS FS.kp bS .nil pass0 (pa_cons (pv 0) pa_nil)))) (pss_one ps_never) pss_nil), ?_⟩
    refine ⟨_, rfl, v, _, rfl, hv.cd, fun H1 e1 => ⟨_, rfl, ?_⟩⟩
    rw [show stp (some (L.map itP)) = true from okL_stp hv.ok]
    exact k _ e1
end
end K05

set_option Elab.async false
set_option linter.all false
set_option maxRecDepth 100000
set_option maxHeartbeats 4000000
namespace K05
open PySem PySem.Spec PyProof.Rows L2 Own
/-! the law's own reckoning: steps, rates, what has passed -/
theorem scLNum : FnScope ["_law_thing"] ["_law_thing"] (defScope s_l_is_number) := ⟨rfl, rfl, rfl, by decide +kernel, rfl, by decide +kernel, by decide +kernel⟩
theorem scLLst : FnScope ["_law_thing"] ["_law_thing"] (defScope s_l_is_list) := ⟨rfl, rfl, rfl, by decide +kernel, rfl, by decide +kernel, by decide +kernel⟩
theorem scLSteps : FnScope ["_law_thing", "_law_ahead", "_law_last", "_law_pair"] ["_law_thing"] (defScope s_l_is_steps) := ⟨rfl, rfl, rfl, by decide +kernel, rfl, by decide +kernel, by decide +kernel⟩
theorem scLRate : FnScope ["_law_steps", "_law_turn", "_law_found", "_law_begin", "_law_rate_here"] ["_law_steps", "_law_turn"] (defScope s_l_rate) := ⟨rfl, rfl, rfl, by decide +kernel, rfl, by decide +kernel, by decide +kernel⟩
def spRate (K : PySem.W.Frag) (C : Addr) : Sp := fun vs H Q _ => ∃ (v : V) (i : Int) (L : List (Int × Int)), vs = [v, .int i] ∧ StL K C H v L ∧ 0 ≤ i ∧ ∀ H', Same H H' → Q (.int (rateF i 0 L)) H'
section
variable {P : Program} {w : World} {K : PySem.W.Frag} {mg : Str → Option Value} {base : Heap} {C : Addr}
theorem ok_LNum (hk : HKn K C) {f : Addr} {fd : FuncData} (F : Fun K "_law_is_number" "_law_is_number" s_l_is_number f fd) (T : Bt mg) : FnOk P w K mg base CX0 1 f fd ["_law_thing"] (spNumY K C) := by
  refine F.ok scLNum (fun vs H Q E h => ?_) (fun cdv A outer s H vs Q E hr h => ?_)
  · obtain ⟨v, o, rfl, _⟩ := h
    rfl
  · obtain ⟨v, o, rfl, hv, k⟩ := h
    refine ⟨_, (pss_one (ps_ret (pe_and (pe_callB call_isiY (by rfl) T.isi (by decide +kernel) (pa_cons (pv 0) (pa_cons (pe_bltn (v := .ty "int") (by rfl) T.int (by decide +kernel) rfl) pa_nil))) (pe_and (pe_not (pe_callB call_isiY (by rfl) T.isi (by decide +kernel) (pa_cons (pv 0) (pa_cons (pe_bltn (v := .ty "bool") (by rfl) T.bool (by decide +kernel) rfl) pa_nil)))) (pe_one (pe_cmpR op_ge (pv 0) pe_int (nomark _))))))), ?_⟩
    obtain ⟨t, i, b, l, u, d, z, ty, ka, e1, _⟩ := sq_ty hk hv
    refine ⟨_, rfl, _, _, _, _, i, rfl, .ty _, ty.now, ka.i, i, rfl, ?_⟩
    cases i with
    | true =>
      refine iteT ⟨_, rfl, _, _, _, _, b, rfl, .ty _, ty.now, ka.b, b, rfl, ?_⟩
      cases b with
      | true =>
        have e : isN v = false := by cases v <;> first | rfl | cases e1
        rw [e] at k
        exact ⟨_, rfl, iteF k⟩
      | false =>
        cases v with
        | int i => exact ⟨_, rfl, iteT ⟨_, rfl, _, _, rfl, rfl, k⟩⟩
        | _ => cases e1
    | false =>
      have e : isN v = false := by cases v <;> first | rfl | cases e1
      rw [e] at k
      exact iteF k
theorem ok_LLst (hk : HKn K C) {f : Addr} {fd : FuncData} (F : Fun K "_law_is_list" "_law_is_list" s_l_is_list f fd) (T : Bt mg) : FnOk P w K mg base CX0 1 f fd ["_law_thing"] (spLstY K C) := by
  refine F.ok scLLst (fun vs H Q E h => ?_) (fun cdv A outer s H vs Q E hr h => ?_)
  · obtain ⟨v, o, rfl, _⟩ := h
    rfl
  · obtain ⟨v, o, rfl, hv, k⟩ := h
    refine ⟨_, (pss_one (ps_ret (pe_callB call_isiTY (by rfl) T.isi (by decide +kernel) (pa_cons (pv 0) (pa_cons (pe_tup (pa_cons (pe_bltn (v := .ty "list") (by rfl) T.list (by decide +kernel) rfl) (pa_cons (pe_bltn (v := .ty "tuple") (by rfl) T.tuple (by decide +kernel) rfl) pa_nil))) pa_nil))))), ?_⟩
    obtain ⟨t, i, b, l, u, d, z, ty, ka, e1, e2⟩ := sq_ty hk hv
    refine ⟨_, rfl, (by show 2 ≤ sizeLine; decide), fun tp htp => ?_⟩
    have e3 := same_new (o := HO.tup [V.ty "list", V.ty "tuple"]) htp
    refine ⟨_, tp, _, _, _, l || u, rfl, upd_same, .cons (.ty _) (.cons (.ty _) .nil), (ty.grow e3).now, any2 ka.l ka.u rfl, ?_⟩
    rw [← e2]
    exact k _ e3
theorem ok_LSteps {f fN fL : Addr} {fd fdN fdL : FuncData} (F : Fun K "_law_is_steps" "_law_is_steps" s_l_is_steps f fd) (T : Bt mg)
    (FN : Fun K "_law_is_number" "_law_is_number" s_l_is_number fN fdN) (gN : mg "_law_is_number" = some (.ref fN)) (bN : Binds K fdN ["_law_thing"] []) (GN : FnOk P w K mg base CX0 1 fN fdN ["_law_thing"] (spNumY K C))
    (FL : Fun K "_law_is_list" "_law_is_list" s_l_is_list fL fdL) (gL : mg "_law_is_list" = some (.ref fL)) (bL : Binds K fdL ["_law_thing"] []) (GL : FnOk P w K mg base CX0 1 fL fdL ["_law_thing"] (spLstY K C)) : FnOk P w K mg base CX0 2 f fd ["_law_thing"] (spSteps K C) := by
  refine F.ok scLSteps (fun vs H Q E h => ?_) (fun cdv A outer s H vs Q E hr h => ?_)
  · obtain ⟨v, c, rfl, _⟩ := h
    rfl
  · obtain ⟨v, c, rfl, hc, k⟩ := h
    refine ⟨_, (pss_cons (ps_if (pt_not (pt_val (pe_call GL (hr.mono (by decide)) (by rfl) gL FL.kp bL .nil pass0 (pa_cons (pv 0) pa_nil)))) (pss_one (ps_ret pe_bl)) pss_nil)
  (Evl.pss_cut (ps_asg (pe_tup (pa_cons (pe_un un_neg pe_int) (pa_cons pe_int pa_nil))) (pg_tup rfl (pgs_cons (pg_name (i := 1) (x := "_law_ahead") scLSteps.nd rfl (Or.inl rfl)) (pgs_cons (pg_name (i := 2) (x := "_law_last") scLSteps.nd rfl (Or.inl rfl)) pgs_nil))))
  (Evl.pss_cut (ps_for PassesOwn.never rfl (pi_or (pi_list (pv 0)) (pi_tup (pv 0))) (pg_name (i := 3) (x := "_law_pair") scLSteps.nd rfl (Or.inl rfl)) (pss_cons (ps_if (PW.pt (pw_or (pt_not (pt_val (pe_call GL (hr.mono (by decide)) (by rfl) gL FL.kp bL .nil pass0 (pa_cons (pv 3) pa_nil)))) (pw_or (pt_cmpR op_ne (pe_callB call_len_seq (by rfl) T.len (by decide +kernel) (pa_cons (pv 3) pa_nil)) pe_int (nomark _)) (pw_or (pt_not (pt_val (pe_call GN (hr.mono (by decide)) (by rfl) gN FN.kp bN .nil pass0 (pa_cons (pe_ix (ix_list.or ix_tup) (pv 3) pe_int (fun _ _ => rfl)) pa_nil)))) (pw_or1 (pt_not (pt_val (pe_call GN (hr.mono (by decide)) (by rfl) gN FN.kp bN .nil pass0 (pa_cons (pe_ix (ix_list.or ix_tup) (pv 3) pe_int (fun _ _ => rfl)) pa_nil))))))))) (pss_one (ps_ret pe_bl)) pss_nil)
  (pss_cons (ps_if (PW.pt (pw_or (pt_cmpR op_le (pe_ix (ix_list.or ix_tup) (pv 3) pe_int (fun _ _ => rfl)) (pv 1) (nomark _)) (pw_or1 (pt_cmpR op_eq (pe_ix (ix_list.or ix_tup) (pv 3) pe_int (fun _ _ => rfl)) (pv 2) (nomark _))))) (pss_one (ps_ret pe_bl)) pss_nil)
  (pss_one (ps_asg (pv 3) (pg_or (pg_tup rfl (pgs_cons (pg_name (i := 1) (x := "_law_ahead") scLSteps.nd rfl (Or.inl rfl)) (pgs_cons (pg_name (i := 2) (x := "_law_last") scLSteps.nd rfl (Or.inl rfl)) pgs_nil))) (pg_unl rfl (pgs_cons (pg_name (i := 1) (x := "_law_ahead") scLSteps.nd rfl (Or.inl rfl)) (pgs_cons (pg_name (i := 2) (x := "_law_last") scLSteps.nd rfl (Or.inl rfl)) pgs_nil)))))))))
  (pss_one (ps_ret (pe_cmpR op_eq (pv 2) pe_int (nomark _))))))), ?_⟩
    obtain ⟨o, ho, eo⟩ := hc.sq
    refine ⟨_, rfl, v, o, rfl, ho, fun H1 e1 => ⟨_, rfl, ?_⟩⟩
    rw [eo]
    cases c with
    | none => exact iteT (k _ e1)
    | some os =>
      obtain ⟨xs, h1, h2, h3⟩ := hc
      obtain ⟨b, rfl, hb⟩ := sq_at h1
      refine iteF ⟨fun σ' H' => σ' = [some (.ref b), some (.int (-1)), some (.int 0), none] ∧ Same H1 H', ?_, ?_⟩
      · refine ⟨1, rfl, by show 2 ≤ sizeLine; decide, fun tp htp => ?_⟩
        exact ⟨tp, _, rfl, SqT.of upd_same, rfl, _, _, rfl, _, _, rfl, rfl, rfl, same_new htp⟩
      rintro σ' H2 ⟨rfl, e2⟩
      have e12 := e1.trans e2
      refine ⟨fun σ' H' => (∃ (l b' : Int) (x3 : Option V), σ' = [some (.ref b), some (.int l), some (.int b'), x3] ∧ stp (some os) = decide (b' = 0)) ∧ Same H H', ?_, ?_⟩
      · refine walk_or (K := K) (H0 := H2) (hb.imp (e12 _ _) (e12 _ _)) (Same.refl H2) (fun S q => ⟨_, rfl, q⟩) fun J G wk hG => ?_
        refine for_it (g := gName 3) wk (fun i σ H' => (∃ (l b' : Int) (x3 : Option V), σ = [some (.ref b), some (.int l), some (.int b'), x3] ∧ stp (some os) = stpL l b' (os.drop i)) ∧ Same H2 H') ⟨⟨-1, 0, none, rfl, rfl⟩, Same.refl H2⟩ (fun i σ H' _ z => hG _ z.2) ?_ ?_
        · rintro i x σ H4 H5 hi ⟨⟨l, b', x3, rfl, eq⟩, s4⟩ ⟨rfl, hx⟩
          obtain ⟨oi, hoi, q⟩ := prs_at h2 hx
          have dr : os.drop i = oi :: os.drop (i + 1) := by
            obtain ⟨hl, hg⟩ := List.getElem?_eq_some_iff.mp hoi
            rw [← hg, List.drop_eq_getElem_cons hl]
          rw [dr] at eq
          have e5 : Same H H5 := e12.trans s4
          have q5 := q.same e5
          have no : ∀ H', Same H5 H' → stpL l b' (oi :: os.drop (i + 1)) = false → Q (.bl false) H' := fun H' e' z => by
            have y := k H' (e5.trans e')
            rw [eq, z] at y
            exact y
          refine ⟨_, rfl, x, oi, rfl, q5.1, fun H6 e6 => ⟨_, rfl, ?_⟩⟩
          cases oi with
          | none => exact no _ e6 rfl
          | some ys =>
            obtain ⟨p, rfl, hp⟩ := sq_at q5.1
            obtain ⟨hl, hy⟩ := q5.2 ys rfl
            refine iteF ⟨_, rfl, p, ys, rfl, hp.imp (fun z => SqL.of (e6 _ _ z)) (fun z => SqT.of (e6 _ _ z)), rfl, _, rfl, ?_⟩
            refine ite2 (fun hc => ?_) (fun hc => ?_)
            · refine no _ e6 ?_
              match ys, hc with
              | [], _ => rfl
              | [_], _ => rfl
              | [_, _], hc => cases hc
              | _ :: _ :: _ :: _, _ => rfl
            · have hl2 : ys.length = 2 := by
                have z : decide (V.int (ys.length : Nat) = V.int 2) = true := by simpa using hc
                exact Int.ofNat.inj (V.int.inj (of_decide_eq_true z))
              match ys, hl2 with
              | [u, v], _ =>
                obtain ⟨ou, su⟩ := hy u (by simp)
                obtain ⟨ov, sv⟩ := hy v (by simp)
                have eq2 : stpL l b' (some [u, v] :: os.drop (i + 1)) = (isN u && (isN v && (decide (l < iv u) && (!decide (iv v = b') && stpL (iv u) (iv v) (os.drop (i + 1)))))) := rfl
                rw [eq2] at no eq
                have g0 : ∀ (Z : VK), Z u H6 → (rIxL K (.ref p) (.int 0) H6 Z ∨ rIxT K (.ref p) (.int 0) H6 Z) := fun Z z => hp.elim (fun y => .inl ⟨p, _, 0, u, rfl, rfl, SqL.of (e6 _ _ y), rfl, z⟩) fun y => .inr ⟨p, _, 0, u, rfl, rfl, SqT.of (e6 _ _ y), rfl, z⟩
                have g1 : ∀ (Z : VK), Z v H6 → (rIxL K (.ref p) (.int 1) H6 Z ∨ rIxT K (.ref p) (.int 1) H6 Z) := fun Z z => hp.elim (fun y => .inl ⟨p, _, 1, v, rfl, rfl, SqL.of (e6 _ _ y), rfl, z⟩) fun y => .inr ⟨p, _, 1, v, rfl, rfl, SqT.of (e6 _ _ y), rfl, z⟩
                refine ⟨_, rfl, ?_⟩
                refine g0 _ ⟨u, ou, rfl, su.same e6, _, rfl, ?_⟩
                cases hu : isN u with
                | false => exact no _ e6 (by rw [hu]; rfl)
                | true =>
                  refine ⟨_, rfl, g1 _ ⟨v, ov, rfl, sv.same e6, _, rfl, ?_⟩⟩
                  cases hv : isN v with
                  | false => exact no _ e6 (by rw [hu, hv]; rfl)
                  | true =>
                    obtain ⟨eu, _⟩ := isN_iv hu
                    obtain ⟨ev, _⟩ := isN_iv hv
                    generalize iv u = iu at *
                    generalize iv v = iw at *
                    subst eu ev
                    rw [hu, hv] at no eq
                    refine ⟨_, rfl, g0 _ ⟨_, rfl, _, _, rfl, rfl, _, rfl, ?_⟩⟩
                    by_cases c1 : iu ≤ l
                    · rw [decide_eq_true c1]
                      exact no _ e6 (by rw [decide_eq_false (show ¬ l < iu by omega)]; rfl)
                    · rw [decide_eq_false c1]
                      refine ⟨_, rfl, g1 _ ⟨_, rfl, rfl, _, rfl, ?_⟩⟩
                      rw [decide_eq_true (show l < iu by omega)] at no eq
                      by_cases c2 : iw = b'
                      · subst c2
                        rw [decide_eq_true rfl]
                        exact no _ e6 (by rw [decide_eq_true rfl]; rfl)
                      · rw [decide_eq_false (fun z => c2 (V.int.inj z))]
                        rw [decide_eq_false c2] at eq
                        refine ⟨_, rfl, gEi_ok (i := 1) (j := 2) (K := K) (hp.imp (e6 _ _) (e6 _ _)) ⟨⟨iu, iw, _, rfl, eq⟩, s4.trans e6⟩⟩
        · rintro σ H4 ⟨⟨l, b', x3, rfl, eq⟩, s4⟩
          have hlen : xs.length = os.length := h2.length
          rw [hlen, List.drop_length] at eq
          exact ⟨⟨l, b', x3, rfl, eq⟩, e12.trans s4⟩
      · rintro σ' H4 ⟨⟨l, b', x3, rfl, eq⟩, s4⟩
        have y := k H4 s4
        rw [eq, show decide (b' = 0) = decide (V.int b' = V.int 0) from by
          by_cases z : b' = 0
          · subst z
            rfl
          · rw [decide_eq_false (fun w => z (V.int.inj w))]
            exact decide_eq_false z] at y
        exact ⟨_, rfl, rfl, y⟩
theorem ok_LRate {f : Addr} {fd : FuncData} (F : Fun K "_law_rate" "_law_rate" s_l_rate f fd) : FnOk P w K mg base CX0 1 f fd ["_law_steps", "_law_turn"] (spRate K C) := by
  refine F.ok scLRate (fun vs H Q E h => ?_) (fun cdv A outer s H vs Q E hr h => ?_)
  · obtain ⟨v, i, L, rfl, _⟩ := h
    rfl
  · obtain ⟨v, i, L, rfl, hv, hi, k⟩ := h
    refine ⟨_, (pss_cons (ps_set (i := 2) scLRate.nd rfl (Or.inl rfl) pe_int)
  (Evl.pss_cut (ps_for PassesOwn.never rfl (pi_or (pi_list (pv 0)) (pi_tup (pv 0))) (pg_or (pg_tup rfl (pgs_cons (pg_name (i := 3) (x := "_law_begin") scLRate.nd rfl (Or.inl rfl)) (pgs_cons (pg_name (i := 4) (x := "_law_rate_here") scLRate.nd rfl (Or.inl rfl)) pgs_nil))) (pg_unl rfl (pgs_cons (pg_name (i := 3) (x := "_law_begin") scLRate.nd rfl (Or.inl rfl)) (pgs_cons (pg_name (i := 4) (x := "_law_rate_here") scLRate.nd rfl (Or.inl rfl)) pgs_nil)))) (pss_one (ps_set (i := 2) scLRate.nd rfl (Or.inl rfl) (pe_ifExp (pt_cmpR op_le (pv 3) (pv 1) (nomark _)) (pv 4) (pv 2)))))
  (pss_one (ps_ret (pv 2))))), ?_⟩
    obtain ⟨b, xs, rfl, hb, hlen, hat⟩ := hv.at
    have e1 := Same.refl H
    refine ⟨fun σ' H' => (∃ x3 x4 : Option V, σ' = [some (.ref b), some (.int i), some (.int (rateF i 0 L)), x3, x4]) ∧ Same H H', ?_, ?_⟩
    · refine walk_or (K := K) (H0 := H) hb e1 (fun S q => ⟨_, rfl, q⟩) fun J G wk hG => ?_
      refine for_it (g := gEi K 3 4) wk (fun j σ H' => (∃ (f0 : Int) (x3 x4 : Option V), σ = [some (.ref b), some (.int i), some (.int f0), x3, x4] ∧ rateF i 0 L = rateF i f0 (L.drop j)) ∧ Same H H') ⟨⟨0, none, none, rfl, rfl⟩, Same.refl H⟩ (fun i σ H' _ z => hG _ z.2) ?_ ?_
      · rintro j x σ H4 H5 hj ⟨⟨f0, x3, x4, rfl, eq⟩, s4⟩ ⟨rfl, hx⟩
        obtain ⟨q, d, hd, rfl, hq⟩ := hat j x hx
        have dr : L.drop j = d :: L.drop (j + 1) := by
          obtain ⟨hl, hg⟩ := List.getElem?_eq_some_iff.mp hd
          rw [← hg, List.drop_eq_getElem_cons hl]
        rw [dr] at eq
        have fin : ∀ (m : Int), m = (if d.1 ≤ i then d.2 else f0) → (∃ (f1 : Int) (x3 x4 : Option V), [some (V.ref b), some (V.int i), some (V.int m), some (V.int d.1), some (V.int d.2)] = [some (.ref b), some (.int i), some (.int f1), x3, x4] ∧ rateF i 0 L = rateF i f1 (L.drop (j + 1))) ∧ Same H H5 := fun m em => ⟨⟨m, _, _, rfl, by rw [eq, em]; rfl⟩, s4⟩
        refine gEi_ok (hq.imp (s4 _ _) (s4 _ _)) ?_
        refine ⟨_, rfl, _, rfl, _, _, rfl, rfl, _, rfl, ?_⟩
        refine ite2 (fun hc => ?_) (fun hc => ?_)
        · refine ⟨_, rfl, fin _ ?_⟩
          rw [if_pos (of_decide_eq_true hc)]
        · refine ⟨_, rfl, fin _ ?_⟩
          rw [if_neg (fun z => hc (decide_eq_true z))]
      · rintro σ H4 ⟨⟨f0, x3, x4, rfl, eq⟩, s4⟩
        rw [hlen, List.drop_length] at eq
        exact ⟨⟨x3, x4, by rw [eq]; rfl⟩, s4⟩
    · rintro σ' H' ⟨⟨x3, x4, rfl⟩, s4⟩
      exact ⟨_, rfl, k _ s4⟩
end
end K05

set_option Elab.async false
set_option linter.all false
set_option maxRecDepth 100000
set_option maxHeartbeats 4000000
namespace K05
open PySem PySem.Spec PyProof.Rows L2 Own
/-! things as trees: what of them stays when lists and tuples are exchanged -/
inductive Tr where
  | leaf (v : V)
  | seq (ts : List Tr)
def bigI : V → Bool
  | .int i => decide (-(2 ^ 60) < i) && decide (i < 2 ^ 60)
  | _ => true
/-- a leaf: an atom that is not too great, a function, a House, a dict; none at a or l -/
def Lb (K : PySem.W.Frag) (C : Addr) (S : Addr → Prop) (H : Hp) (v : V) : Prop :=
  (atomV v = true ∧ bigI v = true) ∨ (∃ (f : Addr) (o : Obj), v = .ref f ∧ K.lookup f = some o ∧ o.cls = .type "function") ∨
  (∃ x dx p q : Addr, v = .ref x ∧ H x = some (.ins C dx [("_places", .int 1), ("_roads", .ref p), ("_doors", .ref q)]) ∧ H p = some (.lst []) ∧ H q = some (.lst []) ∧ ¬ S x ∧ ¬ S p ∧ ¬ S q) ∨
  ∃ (p : Addr) (kvs : List (Key × V)), v = .ref p ∧ H p = some (.dK kvs) ∧ ¬ S p ∧ (∀ y ∈ kvs, atomV y.2 = true) ∧ kvs.length ≤ 1000
mutual
def Re (K : PySem.W.Frag) (C : Addr) (S : Addr → Prop) (H : Hp) : Tr → V → Prop
  | .leaf u, v => v = u ∧ Lb K C S H v
  | .seq ts, v => ∃ (p : Addr) (xs : List V), v = .ref p ∧ (H p = some (.lst xs) ∨ H p = some (.tup xs)) ∧ ¬ S p ∧ ReL K C S H ts xs ∧ xs.length ≤ 1000
def ReL (K : PySem.W.Frag) (C : Addr) (S : Addr → Prop) (H : Hp) : List Tr → List V → Prop
  | [], xs => xs = []
  | t :: ts, xs => ∃ x r, xs = x :: r ∧ Re K C S H t x ∧ ReL K C S H ts r
end
/-- all stays that is not in S, tables aside -/
def Kp (S : Addr → Prop) (H H' : Hp) : Prop := ∀ b o, ¬ S b → (∀ t, o ≠ .tbl t) → H b = some o → H' b = some o
theorem Kp.same {S : Addr → Prop} {H H' : Hp} (e : Same H H') : Kp S H H' := fun b o _ _ h => e b o h
theorem Kp.ext {S : Addr → Prop} {H H' : Hp} (e : Ext H H') : Kp S H H' := fun b o _ n h => e b o h n
theorem Kp.but {S : Addr → Prop} {a l : Addr} {H H' : Hp} (ha : S a) (hl : S l) (e : But2 a l H H') : Kp S H H' := fun b o n _ h => e b o (fun z => n (by rw [z]; exact ha)) (fun z => n (by rw [z]; exact hl)) h
theorem Kp.trans {S : Addr → Prop} {H H1 H2 : Hp} (x : Kp S H H1) (y : Kp S H1 H2) : Kp S H H2 := fun b o n t h => y b o n t (x b o n t h)
theorem nt_lst {xs : List V} (t : Array Value) : HO.lst xs ≠ .tbl t := fun z => by cases z
theorem nt_tup {xs : List V} (t : Array Value) : HO.tup xs ≠ .tbl t := fun z => by cases z
theorem nt_dK {xs : List (Key × V)} (t : Array Value) : HO.dK xs ≠ .tbl t := fun z => by cases z
theorem Lb.keep {K : PySem.W.Frag} {C : Addr} {S : Addr → Prop} {H H' : Hp} {v : V} (h : Lb K C S H v) (e : Kp S H H') : Lb K C S H' v := by
  rcases h with h | h | ⟨x, dx, p, q, rfl, h1, h2, h3, n1, n2, n3⟩ | ⟨p, kvs, rfl, h1, n1, h2, h3⟩
  · exact .inl h
  · exact .inr (.inl h)
  · exact .inr (.inr (.inl ⟨x, dx, p, q, rfl, e _ _ n1 (fun t z => by cases z) h1, e _ _ n2 nt_lst h2, e _ _ n3 nt_lst h3, n1, n2, n3⟩))
  · exact .inr (.inr (.inr ⟨p, kvs, rfl, e _ _ n1 nt_dK h1, n1, h2, h3⟩))
mutual
theorem Re.keep {K : PySem.W.Frag} {C : Addr} {S : Addr → Prop} {H H' : Hp} (e : Kp S H H') : ∀ (t : Tr) (v : V), Re K C S H t v → Re K C S H' t v
  | .leaf u, v, h => by
    unfold Re at h ⊢
    exact ⟨h.1, h.2.keep e⟩
  | .seq ts, v, h => by
    unfold Re at h ⊢
    obtain ⟨p, xs, rfl, h1, n1, h2, h3⟩ := h
    exact ⟨p, xs, rfl, h1.imp (e _ _ n1 nt_lst) (e _ _ n1 nt_tup), n1, ReL.keep e ts xs h2, h3⟩
theorem ReL.keep {K : PySem.W.Frag} {C : Addr} {S : Addr → Prop} {H H' : Hp} (e : Kp S H H') : ∀ (ts : List Tr) (xs : List V), ReL K C S H ts xs → ReL K C S H' ts xs
  | [], xs, h => by
    unfold ReL at h ⊢
    exact h
  | t :: ts, xs, h => by
    unfold ReL at h ⊢
    obtain ⟨x, r, rfl, h1, h2⟩ := h
    exact ⟨x, r, rfl, Re.keep e t x h1, ReL.keep e ts r h2⟩
end
theorem Lb.set {K : PySem.W.Frag} {C : Addr} {S S' : Addr → Prop} {H : Hp} {v : V} (h : Lb K C S H v) (e : ∀ b o, ¬ S b → H b = some o → ¬ S' b) : Lb K C S' H v := by
  rcases h with h | h | ⟨x, dx, p, q, rfl, h1, h2, h3, n1, n2, n3⟩ | ⟨p, kvs, rfl, h1, n1, h2, h3⟩
  · exact .inl h
  · exact .inr (.inl h)
  · exact .inr (.inr (.inl ⟨x, dx, p, q, rfl, h1, h2, h3, e _ _ n1 h1, e _ _ n2 h2, e _ _ n3 h3⟩))
  · exact .inr (.inr (.inr ⟨p, kvs, rfl, h1, e _ _ n1 h1, h2, h3⟩))
mutual
/-- other things to be kept away from -/
theorem Re.set {K : PySem.W.Frag} {C : Addr} {S S' : Addr → Prop} {H : Hp} (e : ∀ b o, ¬ S b → H b = some o → ¬ S' b) : ∀ (t : Tr) (v : V), Re K C S H t v → Re K C S' H t v
  | .leaf u, v, h => by
    unfold Re at h ⊢
    exact ⟨h.1, h.2.set e⟩
  | .seq ts, v, h => by
    unfold Re at h ⊢
    obtain ⟨p, xs, rfl, h1, n1, h2, h3⟩ := h
    exact ⟨p, xs, rfl, h1, h1.elim (e _ _ n1) (e _ _ n1), ReL.set e ts xs h2, h3⟩
theorem ReL.set {K : PySem.W.Frag} {C : Addr} {S S' : Addr → Prop} {H : Hp} (e : ∀ b o, ¬ S b → H b = some o → ¬ S' b) : ∀ (ts : List Tr) (xs : List V), ReL K C S H ts xs → ReL K C S' H ts xs
  | [], xs, h => by
    unfold ReL at h ⊢
    exact h
  | t :: ts, xs, h => by
    unfold ReL at h ⊢
    obtain ⟨x, r, rfl, h1, h2⟩ := h
    exact ⟨x, r, rfl, Re.set e t x h1, ReL.set e ts r h2⟩
end
theorem ReL.snoc {K : PySem.W.Frag} {C : Addr} {S : Addr → Prop} {H : Hp} {t : Tr} {x : V} (h : Re K C S H t x) : ∀ (ts : List Tr) (xs : List V), ReL K C S H ts xs → ReL K C S H (ts ++ [t]) (xs ++ [x])
  | [], xs, g => by
    unfold ReL at g
    subst g
    unfold ReL
    exact ⟨x, [], rfl, h, by unfold ReL; rfl⟩
  | u :: ts, xs, g => by
    unfold ReL at g
    obtain ⟨y, r, rfl, g1, g2⟩ := g
    show ReL K C S H (u :: (ts ++ [t])) (y :: (r ++ [x]))
    unfold ReL
    exact ⟨y, _, rfl, g1, ReL.snoc h ts r g2⟩
theorem ReL.len {K : PySem.W.Frag} {C : Addr} {S : Addr → Prop} {H : Hp} : ∀ {ts : List Tr} {xs : List V}, ReL K C S H ts xs → xs.length = ts.length
  | [], xs, h => by
    unfold ReL at h
    rw [h]
    rfl
  | t :: ts, xs, h => by
    unfold ReL at h
    obtain ⟨x, r, rfl, _, h2⟩ := h
    show r.length + 1 = ts.length + 1
    rw [ReL.len h2]
theorem ReL.at {K : PySem.W.Frag} {C : Addr} {S : Addr → Prop} {H : Hp} : ∀ {ts : List Tr} {xs : List V} {i : Nat} {x : V}, ReL K C S H ts xs → xs[i]? = some x → ∃ t, ts[i]? = some t ∧ Re K C S H t x
  | [], xs, i, x, h, e => by
    unfold ReL at h
    rw [h] at e
    cases e
  | t :: ts, xs, i, x, h, e => by
    unfold ReL at h
    obtain ⟨y, r, rfl, h1, h2⟩ := h
    cases i with
    | zero =>
      obtain rfl := Option.some.inj e
      exact ⟨t, rfl, h1⟩
    | succ i => exact ReL.at (i := i) h2 e
/-- every such thing is of a kind -/
theorem Re.sq {K : PySem.W.Frag} {C : Addr} {S : Addr → Prop} {H : Hp} {t : Tr} {v : V} (h : Re K C S H t v) : ∃ o, SqR K C H v o := by
  cases t with
  | leaf u =>
    unfold Re at h
    rcases h.2 with h | h | ⟨x, dx, p, q, rfl, h1, h2, h3, _⟩ | ⟨p, kvs, rfl, h1, _⟩
    · exact ⟨none, .inl ⟨.inl h.1, rfl⟩⟩
    · exact ⟨none, .inl ⟨.inr (.inl h), rfl⟩⟩
    · exact ⟨none, .inl ⟨.inr (.inr ⟨x, rfl, dx, p, q, h1, h2, h3⟩), rfl⟩⟩
    · exact ⟨none, .inr (.inl ⟨p, kvs, rfl, h1, rfl⟩)⟩
  | seq ts =>
    unfold Re at h
    obtain ⟨p, xs, rfl, h1, _⟩ := h
    exact ⟨some xs, .inr (.inr ⟨p, xs, rfl, h1, rfl⟩)⟩
theorem Re.big {K : PySem.W.Frag} {C : Addr} {S : Addr → Prop} {H : Hp} {t : Tr} {i : Int} (h : Re K C S H t (.int i)) : bigI (.int i) = true := by
  cases t with
  | leaf u =>
    unfold Re at h
    rcases h.2 with h | ⟨_, _, z, _⟩ | ⟨_, _, _, _, z, _⟩ | ⟨_, _, z, _⟩
    · exact h.2
    · cases z
    · cases z
    · cases z
  | seq ts =>
    unfold Re at h
    obtain ⟨_, _, z, _⟩ := h
    cases z
/-- its ints are not too great -/
def Bd (o : Option (List V)) : Prop := ∀ ys, o = some ys → ∀ i, V.int i ∈ ys → bigI (.int i) = true
theorem Re.pr {K : PySem.W.Frag} {C : Addr} {S : Addr → Prop} {H : Hp} {t : Tr} {v : V} (h : Re K C S H t v) : ∃ o, Pr K C H v o ∧ Bd o := by
  cases t with
  | leaf u =>
    unfold Re at h
    refine ⟨none, ⟨?_, fun ys z => by cases z⟩, fun ys z => by cases z⟩
    rcases h.2 with h | h | ⟨x, dx, p, q, rfl, h1, h2, h3, _⟩ | ⟨p, kvs, rfl, h1, _⟩
    · exact .inl ⟨.inl h.1, rfl⟩
    · exact .inl ⟨.inr (.inl h), rfl⟩
    · exact .inl ⟨.inr (.inr ⟨x, rfl, dx, p, q, h1, h2, h3⟩), rfl⟩
    · exact .inr (.inl ⟨p, kvs, rfl, h1, rfl⟩)
  | seq ts =>
    unfold Re at h
    obtain ⟨p, xs, rfl, h1, _, h2, h3⟩ := h
    refine ⟨some xs, ⟨.inr (.inr ⟨p, xs, rfl, h1, rfl⟩), fun ys z => ?_⟩, fun ys z i hi => ?_⟩
    · cases z
      refine ⟨h3, fun y hy => ?_⟩
      obtain ⟨j, hj⟩ := List.getElem?_of_mem hy
      obtain ⟨t, _, q⟩ := h2.at hj
      exact q.sq
    · cases z
      obtain ⟨j, hj⟩ := List.getElem?_of_mem hi
      obtain ⟨t, _, q⟩ := h2.at hj
      exact q.big
theorem ReL.prs {K : PySem.W.Frag} {C : Addr} {S : Addr → Prop} {H : Hp} : ∀ {ts : List Tr} {xs : List V}, ReL K C S H ts xs → ∃ os, Paired (fun x o => Pr K C H x o ∧ Bd o) xs os
  | [], xs, h => by
    unfold ReL at h
    subst h
    exact ⟨[], .nil⟩
  | t :: ts, xs, h => by
    unfold ReL at h
    obtain ⟨x, r, rfl, h1, h2⟩ := h
    obtain ⟨o, ho⟩ := h1.pr
    obtain ⟨os, hos⟩ := ReL.prs h2
    exact ⟨o :: os, .cons ho hos⟩
theorem bd_of {K : PySem.W.Frag} {C : Addr} {H : Hp} : ∀ {L : List (Int × Int)} {xs : List V}, Paired (fun x o => Pr K C H x o ∧ Bd o) xs (L.map itP) → ∀ p ∈ L, bigI (.int p.1) = true ∧ bigI (.int p.2) = true
  | [], _, _, p, hp => by cases hp
  | d :: L, _, .cons h t, p, hp => by
    rcases List.mem_cons.mp hp with rfl | hp
    · exact ⟨h.2 _ rfl _ (by simp), h.2 _ rfl _ (by simp)⟩
    · exact bd_of t p hp
theorem ok_nn : ∀ {L : List (Int × Int)} {l b : Int}, okL l b L → ∀ p ∈ L, 0 ≤ p.1 ∧ 0 ≤ p.2
  | [], _, _, _, p, hp => by cases hp
  | d :: L, _, _, h, p, hp => by
    obtain ⟨h1, h2, _, _, h5⟩ := h
    rcases List.mem_cons.mp hp with rfl | hp
    · exact ⟨h1, h2⟩
    · exact ok_nn h5 p hp
/-- its code; where that is of steps, these -/
theorem Re.cd {K : PySem.W.Frag} {C : Addr} {S : Addr → Prop} {H : Hp} {t : Tr} {v : V} (h : Re K C S H t v) : ∃ c, Cd K C H v c ∧ (stp c = true → ∃ L, StL K C H v L) := by
  cases t with
  | leaf u =>
    unfold Re at h
    refine ⟨none, ?_, fun z => by cases z⟩
    show SqR K C H v none
    rcases h.2 with h | h | ⟨x, dx, p, q, rfl, h1, h2, h3, _⟩ | ⟨p, kvs, rfl, h1, _⟩
    · exact .inl ⟨.inl h.1, rfl⟩
    · exact .inl ⟨.inr (.inl h), rfl⟩
    · exact .inl ⟨.inr (.inr ⟨x, rfl, dx, p, q, h1, h2, h3⟩), rfl⟩
    · exact .inr (.inl ⟨p, kvs, rfl, h1, rfl⟩)
  | seq ts =>
    unfold Re at h
    obtain ⟨p, xs, rfl, h1, _, h2, h3⟩ := h
    obtain ⟨os, hos⟩ := h2.prs
    have hc : Cd K C H (.ref p) (some os) := ⟨xs, .inr (.inr ⟨p, xs, rfl, h1, rfl⟩), prs_imp hos fun _ _ q => q.1, h3⟩
    refine ⟨some os, hc, fun z => ?_⟩
    obtain ⟨L, rfl, ok⟩ := stpL_ok z
    refine ⟨L, hc, ok, fun d hd => ?_⟩
    obtain ⟨b1, b2⟩ := bd_of hos d hd
    obtain ⟨_, n2⟩ := ok_nn ok d hd
    have c1 : (decide (-(2 ^ 60) < d.1) && decide (d.1 < 2 ^ 60)) = true := b1
    have c2 : (decide (-(2 ^ 60) < d.2) && decide (d.2 < 2 ^ 60)) = true := b2
    exact ⟨of_decide_eq_true (Bool.and_eq_true_iff.mp c1).2, n2, of_decide_eq_true (Bool.and_eq_true_iff.mp c2).2⟩
mutual
/-- how deep -/
def dpT : Tr → Nat
  | .leaf _ => 3
  | .seq ts => dpL ts + 1
def dpL : List Tr → Nat
  | [] => 0
  | t :: ts => max (dpT t) (dpL ts)
end
theorem Lb.eqt {K : PySem.W.Frag} {C : Addr} {S : Addr → Prop} {H : Hp} {v : V} {n : Nat} (h : Lb K C S H v) (hn : 3 ≤ n) : Eqt K C n H v v := by
  obtain ⟨m, rfl⟩ : ∃ m, n = m + 1 := ⟨n - 1, by omega⟩
  rcases h with h | h | ⟨x, dx, p, q, rfl, h1, h2, h3, _⟩ | ⟨p, kvs, rfl, h1, _, h2, h3⟩
  · exact .inl ⟨rfl, .inl h.1⟩
  · exact .inl ⟨rfl, .inr (.inl h)⟩
  · exact .inl ⟨rfl, .inr (.inr ⟨x, rfl, dx, p, q, h1, h2, h3⟩)⟩
  · exact .inr (.inr (.inr ⟨by omega, p, p, kvs, rfl, rfl, h1, h1, h2, h3⟩))
mutual
theorem Re.eqt {K : PySem.W.Frag} {C : Addr} {S : Addr → Prop} {H : Hp} : ∀ (t : Tr) (v : V) (n : Nat), dpT t ≤ n → Re K C S H t v → Eqt K C n H v v
  | .leaf u, v, n, hn, h => by
    unfold Re at h
    unfold dpT at hn
    exact h.2.eqt hn
  | .seq ts, v, n, hn, h => by
    unfold Re at h
    unfold dpT at hn
    obtain ⟨p, xs, rfl, h1, _, h2, h3⟩ := h
    obtain ⟨m, rfl⟩ : ∃ m, n = m + 1 := ⟨n - 1, by omega⟩
    have q := ReL.eqt ts xs m (by omega) h2
    rcases h1 with h1 | h1
    · exact .inr (.inl ⟨p, p, xs, xs, rfl, rfl, h1, h1, q, Nat.le_trans h3 (by decide)⟩)
    · exact .inr (.inr (.inl ⟨p, p, xs, xs, rfl, rfl, h1, h1, q, Nat.le_trans h3 (by decide)⟩))
theorem ReL.eqt {K : PySem.W.Frag} {C : Addr} {S : Addr → Prop} {H : Hp} : ∀ (ts : List Tr) (xs : List V) (n : Nat), dpL ts ≤ n → ReL K C S H ts xs → Paired (Eqt K C n H) xs xs
  | [], xs, n, hn, h => by
    unfold ReL at h
    subst h
    exact .nil
  | t :: ts, xs, n, hn, h => by
    unfold ReL at h
    unfold dpL at hn
    obtain ⟨x, r, rfl, h1, h2⟩ := h
    exact .cons (Re.eqt t x n (by omega) h1) (ReL.eqt ts r n (by omega) h2)
end
end K05

set_option Elab.async false
set_option linter.all false
set_option maxRecDepth 100000
set_option maxHeartbeats 4000000
namespace K05
open PySem PySem.Spec PyProof.Rows L2 Own
/-! _law_loose of any thing -/
abbrev NLoose : List Str := ["_law_stream_here", "_law_thing", "_law_some", "_law_one"]
theorem scLoose : FnScope NLoose ["_law_stream_here", "_law_thing"] (defScope sLoose) := ⟨rfl, rfl, rfl, by decide +kernel, rfl, by decide +kernel, by decide +kernel⟩
def isSq : Tr → Bool
  | .leaf _ => false
  | .seq _ => true
theorem Re.kind {K : PySem.W.Frag} {C : Addr} {S : Addr → Prop} {H : Hp} {t : Tr} {v : V} (h : Re K C S H t v) : ∃ o, SqR K C H v o ∧ o.isSome = isSq t := by
  cases t with
  | leaf u =>
    unfold Re at h
    rcases h.2 with h | h | ⟨x, dx, p, q, rfl, h1, h2, h3, _⟩ | ⟨p, kvs, rfl, h1, _⟩
    · exact ⟨none, .inl ⟨.inl h.1, rfl⟩, rfl⟩
    · exact ⟨none, .inl ⟨.inr (.inl h), rfl⟩, rfl⟩
    · exact ⟨none, .inl ⟨.inr (.inr ⟨x, rfl, dx, p, q, h1, h2, h3⟩), rfl⟩, rfl⟩
    · exact ⟨none, .inr (.inl ⟨p, kvs, rfl, h1, rfl⟩), rfl⟩
  | seq ts =>
    unfold Re at h
    obtain ⟨p, xs, rfl, h1, _⟩ := h
    exact ⟨some xs, .inr (.inr ⟨p, xs, rfl, h1, rfl⟩), rfl⟩
mutual
def rkT : Tr → Nat
  | .leaf _ => 0
  | .seq ts => rkL ts + 1
def rkL : List Tr → Nat
  | [] => 0
  | t :: ts => max (rkT t) (rkL ts)
end
mutual
def ndT : Tr → Nat
  | .leaf _ => 0
  | .seq ts => ndL ts + 1
def ndL : List Tr → Nat
  | [] => 0
  | t :: ts => ndT t + ndL ts
end
theorem rk_at : ∀ {ts : List Tr} {i : Nat} {t : Tr}, ts[i]? = some t → rkT t ≤ rkL ts
  | [], i, t, h => by cases h
  | u :: ts, 0, t, h => by
    obtain rfl := Option.some.inj h
    unfold rkL
    exact Nat.le_max_left _ _
  | u :: ts, i + 1, t, h => by
    unfold rkL
    exact Nat.le_trans (rk_at (i := i) h) (Nat.le_max_right _ _)
theorem nd_take : ∀ {ts : List Tr} {i : Nat} {t : Tr}, ts[i]? = some t → ndL (ts.take i) + ndT t = ndL (ts.take (i + 1))
  | [], i, t, h => by cases h
  | u :: ts, 0, t, h => by
    obtain rfl := Option.some.inj h
    show ndL [] + ndT u = ndL (u :: List.take 0 ts)
    rw [List.take_zero]
    unfold ndL
    unfold ndL
    omega
  | u :: ts, i + 1, t, h => by
    have q := nd_take (ts := ts) (i := i) h
    show ndL (u :: ts.take i) + ndT t = ndL (u :: ts.take (i + 1))
    unfold ndL
    omega
theorem nd_le : ∀ (ts : List Tr) (i : Nat), ndL (ts.take i) ≤ ndL ts
  | [], i => by rw [List.take_nil]; exact Nat.le_refl _
  | u :: ts, 0 => Nat.zero_le _
  | u :: ts, i + 1 => by
    show ndL (u :: ts.take i) ≤ ndL (u :: ts)
    unfold ndL
    exact Nat.add_le_add_left (nd_le ts i) _
/-- a walk over what is not of the stream, while a new list grows -/
theorem walk_or4 {K : PySem.W.Frag} {te : TE} {σ : L2.St} {H : Hp} {S : Addr → Prop} {a l p : Addr} {xs : List V} (np : ¬ S p) (sa : S a) (sl : S l) (hs : H p = some (.lst xs) ∨ H p = some (.tup xs)) {R : It → Hp → Prop} (hte : ∀ S : VK, S (.ref p) H → te σ H S)
    (h : ∀ (J : It) (G : Hp → Prop), Walk J xs.length G (YAt xs) → (∀ H', (H p = none ∨ ∀ o, H p = some o → H' p = some o) → G H') → R J H) : iList K te σ H R ∨ iTup K te σ H R := by
  rcases hs with hs | hs
  · exact .inl (hte _ ⟨p, rfl, ⟨_, SqL.of hs⟩, h (Itl K p) _ walk_list fun H' k => SqL.of (k.elim (fun z => by rw [z] at hs; cases hs) fun k => k _ hs)⟩)
  · exact .inr (hte _ ⟨p, rfl, ⟨_, SqT.of hs⟩, h (Itt K p) _ walk_tup fun H' k => SqT.of (k.elim (fun z => by rw [z] at hs; cases hs) fun k => k _ hs)⟩)
def spLo (K : PySem.W.Frag) (C : Addr) (n : Nat) : Sp := fun vs H Q _ => ∃ (a l : Addr) (N : Int) (S : Addr → Prop) (v : V) (t : Tr), vs = [.ref a, v] ∧ Strm N H a l ∧ 0 ≤ N ∧ N + ndT t ≤ 1000000000 ∧ S a ∧ S l ∧ (∀ b, S b → H b ≠ none) ∧ Re K C S H t v ∧ rkT t ≤ n ∧
  ∀ H' v', But2 a l H H' → Re K C S H' t v' → Strm (N + ndT t) H' a l → Q v' H'
section
variable {P : Program} {w : World} {K : PySem.W.Frag} {mg : Str → Option Value} {base : Heap} {C : Addr} {f fD : Addr} {fd fdD : FuncData}
theorem step_lo (hk : HKn K C) (F : Fun K "_law_loose" "_law_loose" sLoose f fd) (T : Bt mg) (FD : Fun K "_law_draw" "_law_draw" sDraw fD fdD) (gD : mg "_law_draw" = some (.ref fD)) (bD : Binds K fdD ["_law_stream_here", "_law_many"] [])
    (gL : mg "_law_loose" = some (.ref f)) (bL : Binds K fd ["_law_stream_here", "_law_thing"] []) (n : Nat) (sp : Sp) (GL : FnOk P w K mg base CX0 (n + 1) f fd ["_law_stream_here", "_law_thing"] sp) (hsub : ∀ m, n = m + 1 → sp = spLo K C m) : FnOk P w K mg base CX0 (n + 2) f fd ["_law_stream_here", "_law_thing"] (spLo K C n) := by
  have GD : FnOk P w K mg base CX0 1 fD fdD ["_law_stream_here", "_law_many"] spDraw := ok_draw FD T
  refine F.ok scLoose (fun vs H Q E h => ?_) (fun cdv A outer s H vs Q E hr h => ?_)
  · obtain ⟨a, l, N, S, v, t, rfl, _⟩ := h
    rfl
  · obtain ⟨a, l, N, S, v, t, rfl, St, hN0, hN1, sa, sl, sd, hv, hrk, k⟩ := h
    refine ⟨_, (pss_cons (ps_if (pt_val (pe_callB call_isiTY (by rfl) T.isi (by decide +kernel) (pa_cons (pv 1) (pa_cons (pe_tup (pa_cons (pe_bltn (v := .ty "list") (by rfl) T.list (by decide +kernel) rfl) (pa_cons (pe_bltn (v := .ty "tuple") (by rfl) T.tuple (by decide +kernel) rfl) pa_nil))) pa_nil)))) (pss_cons (ps_setLc (i := 2) (own := [("_law_one", 3)]) (g := gName 3) (tt := tYes) (by rfl) scLoose.nd rfl rfl (sw_true rfl rfl rfl (by decide +kernel)) (pi_or (pi_list (pv 1)) (pi_tup (pv 1))) (blkOk_by (N := NLoose) (sc := defScope sLoose) (by decide +kernel)) (fun _ _ _ _ _ => pg_name (i := 3) (x := "_law_one") scLoose.nd rfl (Or.inl rfl)) (fun _ _ _ _ _ => pts_nil) (fun _ _ _ _ _ => (pe_call GL (hr.mono (Nat.le_refl _)) (by rfl) gL F.kp bL .nil pass0 (pa_cons (pv 0) (pa_cons (pv 3) pa_nil))))) (pss_one (ps_ret (pe_ifExp (pt_cmpR op_eq (pe_call GD (hr.mono (by omega)) (by rfl) gD FD.kp bD .nil pass0 (pa_cons (pv 0) (pa_cons pe_int pa_nil))) pe_int (nomark _)) (pv 2) (pe_tupK (K := K) rfl (by rfl) T.tuple (pv 2)))))) pss_nil) (pss_one (ps_ret (pv 1)))), ?_⟩
    obtain ⟨o, hpr, hso⟩ := hv.kind
    obtain ⟨Ty, i, b, li, ti, d, z, ty, ka, e1, e2⟩ := sq_ty hk hpr
    refine ⟨_, rfl, (by show 2 ≤ sizeLine; decide), fun tp htp => ?_⟩
    have e3 := same_new (o := HO.tup [V.ty "list", V.ty "tuple"]) htp
    refine ⟨_, tp, _, _, _, li || ti, rfl, upd_same, .cons (.ty _) (.cons (.ty _) .nil), (ty.grow e3).now, any2 ka.l ka.u rfl, _, rfl, ?_⟩
    cases t with
    | leaf u =>
      have hl : (li || ti) = false := by
        rw [← e2, hso]
        rfl
      rw [hl]
      refine iteF ⟨_, rfl, k _ v (fun b o _ _ q => e3 b o q) (Re.keep (Kp.same e3) _ _ hv) ?_⟩
      show Strm (N + ((0 : Nat) : Int)) _ a l
      rw [show N + ((0 : Nat) : Int) = N by omega]
      exact St.but e3
    | seq ts =>
      unfold Re at hv
      obtain ⟨p, xs, rfl, hp, np, hts, hlen⟩ := hv
      unfold rkT at hrk
      obtain ⟨m, rfl⟩ : ∃ m, n = m + 1 := ⟨n - 1, by omega⟩
      obtain rfl := hsub m rfl
      unfold ndT at hN1 k
      have hl : (li || ti) = true := by
        rw [← e2, hso]
        rfl
      rw [hl]
      refine iteT ?_
      have S1 := St.but e3
      have sd1 : ∀ b, S b → upd H tp (.tup [V.ty "list", V.ty "tuple"]) b ≠ none := fun b hb q => by
        cases y : H b with
        | none => exact sd b hb y
        | some u =>
          rw [e3 _ _ y] at q
          cases q
      generalize upd H tp (.tup [V.ty "list", V.ty "tuple"]) = H1 at e3 S1 sd1 ⊢
      clear htp
      have hts1 := ReL.keep (Kp.same e3) _ _ hts
      have npa : p ≠ a := fun z => np (by rw [z]; exact sa)
      have npl : p ≠ l := fun z => np (by rw [z]; exact sl)
      have hl2 := hts.len
      refine walk_or4 (K := K) np sa sl (hp.imp (e3 _ _) (e3 _ _)) (fun S q => ⟨_, rfl, q⟩) fun J G wk hG => fun D hD => ?_
      have nD := S1.ne_new hD
      have DS : ¬ S D := fun q => sd1 D q hD
      let S' : Addr → Prop := fun b => S b ∨ b = D
      refine lc_it wk (fun i H' => (∀ b o, b ≠ a → b ≠ l → b ≠ D → H1 b = some o → H' b = some o) ∧ Strm (N + ndL (ts.take i)) H' a l ∧ ∃ acc, H' D = some (.lst acc) ∧ ReL K C S' H' (ts.take i) acc) ⟨fun b o _ _ n h => by rw [upd_ne n]; exact h, ?_, [], upd_same, ?_⟩ (fun i H' _ q => hG _ (.inr fun o h => q.1 p o npa npl (ne_of_none h hD) h)) ?_ ?_
      · rw [List.take_zero]
        unfold ndL
        rw [show N + ((0 : Nat) : Int) = N by omega]
        exact S1.but (same_new hD)
      · rw [List.take_zero]
        unfold ReL
        rfl
      · rintro i x H3 H4 hi ⟨q1, S3, acc, a3, r3⟩ ⟨rfl, hx⟩
        obtain ⟨t, ht, hre⟩ := hts1.at hx
        have sa' : S' a := .inl sa
        have sl' : S' l := .inl sl
        have hre1 : Re K C S' H1 t x := Re.set (fun b o n h z => z.elim n (ne_of_none h hD)) _ _ hre
        have k13 : Kp S' H1 H4 := fun b o n _ h => q1 b o (fun z => n (by rw [z]; exact sa')) (fun z => n (by rw [z]; exact sl')) (fun z => n (.inr z)) h
        have hre3 := Re.keep k13 _ _ hre1
        have n1 := nd_take ht
        have n2 := nd_le ts (i + 1)
        have n3 := rk_at ht
        have sd3 : ∀ b, S' b → H4 b ≠ none := fun b hb q => by
          obtain ⟨ys, c, n0, m0, h1, h2, _⟩ := S3.ex
          rcases hb with hb | hb
          · by_cases z1 : b = a
            · rw [z1, h1] at q
              cases q
            · by_cases z2 : b = l
              · rw [z2, h2] at q
                cases q
              · cases y : H1 b with
                | none => exact sd1 b hb y
                | some u =>
                  rw [q1 b u z1 z2 (ne_of_none y hD) y] at q
                  cases q
          · rw [hb, a3] at q
            cases q
        refine ⟨rfl, _, rfl, _, rfl, a, l, _, S', x, t, rfl, S3, by omega, by omega, sa', sl', sd3, hre3, by omega, fun H5 v' b5 r5 S5 => ?_⟩
        have la : acc.length = (ts.take i).length := r3.len
        have k35 : Kp S' H4 H5 := .but sa' sl' b5
        have k5u : Kp S' H5 (upd H5 D (.lst (acc ++ [v']))) := fun b o n _ h => by
          rw [upd_ne (fun z => n (.inr z))]
          exact h
        refine ⟨acc, b5 _ _ nD.1 nD.2 a3, ?_, fun b o n1 n2 n3 h => by rw [upd_ne n3]; exact b5 _ _ n1 n2 (q1 b o n1 n2 n3 h), ?_, _, upd_same, ?_⟩
        · rw [la, List.length_take]
          exact Nat.lt_of_le_of_lt (show min i ts.length ≤ 1000 by omega) (by decide)
        · rw [← n1, show N + ((ndL (ts.take i) + ndT t : Nat) : Int) = N + (ndL (ts.take i) : Int) + (ndT t : Int) by omega]
          exact S5.upd nD.1 nD.2
        · rw [List.take_add_one, ht]
          exact ReL.snoc (Re.keep k5u _ _ r5) _ _ (ReL.keep (k35.trans k5u) _ _ r3)
      · rintro H3 ⟨q1, S3, acc, a3, r3⟩
        rw [hl2, List.take_length] at r3 S3
        have k13 : But2 a l H H3 := fun b o n1 n2 h => q1 b o n1 n2 (ne_of_none (e3 _ _ h) hD) (e3 _ _ h)
        have la := r3.len
        refine ⟨_, rfl, a, l, _, 2, rfl, S3, by omega, by omega, by decide, by decide, fun H4 d d0 d1 b4 S4 => ⟨rfl, _, rfl, ite2 (fun hc => ?_) (fun hc => ?_)⟩⟩
        · have r4 : ReL K C S H4 ts acc := ReL.keep (.but sa sl b4) _ _ (ReL.set (fun b o n h z => n (.inl z)) _ _ r3)
          refine ⟨_, rfl, k _ _ (k13.trans b4) ?_ ?_⟩
          · unfold Re
            exact ⟨D, acc, rfl, .inl (b4 _ _ nD.1 nD.2 a3), DS, r4, by omega⟩
          · rw [show N + ((ndL ts + 1 : Nat) : Int) = N + (ndL ts : Int) + 1 by omega]
            exact S4
        · have r4 : ReL K C S H4 ts acc := ReL.keep (.but sa sl b4) _ _ (ReL.set (fun b o n h z => n (.inl z)) _ _ r3)
          refine ⟨_, rfl, .inl ⟨D, acc, rfl, SqL.of (b4 _ _ nD.1 nD.2 a3), fun q hq => ?_⟩⟩
          have s5 := same_new (o := .tup acc) hq
          refine k _ _ ((k13.trans b4).trans fun b o _ _ h => s5 _ _ h) ?_ ?_
          · unfold Re
            refine ⟨q, acc, rfl, .inr upd_same, fun z => ?_, ReL.keep (.same s5) _ _ r4, by omega⟩
            obtain ⟨ys, c, n0, m0, h1, h2, _⟩ := S4.ex
            by_cases z1 : q = a
            · rw [z1, h1] at hq
              cases hq
            · by_cases z2 : q = l
              · rw [z2, h2] at hq
                cases hq
              · cases y : H1 q with
                | none => exact sd1 q z y
                | some u =>
                  have := b4 _ _ z1 z2 (q1 q u z1 z2 (ne_of_none y hD) y)
                  rw [this] at hq
                  cases hq
          · rw [show N + ((ndL ts + 1 : Nat) : Int) = N + (ndL ts : Int) + 1 by omega]
            exact S4.but s5
theorem ok_lo (hk : HKn K C) (F : Fun K "_law_loose" "_law_loose" sLoose f fd) (T : Bt mg) (FD : Fun K "_law_draw" "_law_draw" sDraw fD fdD) (gD : mg "_law_draw" = some (.ref fD)) (bD : Binds K fdD ["_law_stream_here", "_law_many"] [])
    (gL : mg "_law_loose" = some (.ref f)) (bL : Binds K fd ["_law_stream_here", "_law_thing"] []) : ∀ n : Nat, FnOk P w K mg base CX0 (n + 2) f fd ["_law_stream_here", "_law_thing"] (spLo K C n)
  | 0 => step_lo hk F T FD gD bD gL bL 0 (fun _ _ _ _ => False) ⟨fun _ _ _ _ z => z.elim, fun _ _ _ _ _ _ _ _ _ _ _ _ _ z => z.elim⟩ fun m z => by omega
  | n + 1 => step_lo hk F T FD gD bD gL bL (n + 1) (spLo K C n) (ok_lo hk F T FD gD bD gL bL n) fun m z => by
    have e : n = m := by omega
    rw [e]
end
end K05

set_option Elab.async false
set_option linter.all false
set_option maxRecDepth 100000
set_option maxHeartbeats 4000000
namespace K05
open PySem PySem.Spec PyProof.Rows L2 Own
/-! _law_p_deep -/
def dT : Nat → Tr
  | 0 => .seq []
  | n + 1 => .seq [dT n]
/-- a thing made anew -/
def New (K : PySem.W.Frag) (C : Addr) (H H' : Hp) (t : Tr) (v : V) : Prop := ∀ S : Addr → Prop, (∀ b, S b → H b ≠ none) → Re K C S H' t v
def spDeep (K : PySem.W.Frag) (C : Addr) : Sp := fun vs H Q _ => vs = [] ∧ ∀ H' v, Same H H' → New K C H H' (dT 40) v → Q v H'
theorem scDeep : FnScope ["_law_found", "_law_k"] [] (defScope s_l_p_deep) := ⟨rfl, rfl, rfl, by decide +kernel, rfl, by decide +kernel, by decide +kernel⟩
section
variable {P : Program} {w : World} {K : PySem.W.Frag} {mg : Str → Option Value} {base : Heap} {C : Addr}
theorem ok_deep {f : Addr} {fd : FuncData} (F : Fun K "_law_p_deep" "_law_p_deep" s_l_p_deep f fd) (T : Bt mg) : FnOk P w K mg base CX0 1 f fd [] (spDeep K C) := by
  refine F.ok scDeep (fun vs H Q E h => ?_) (fun cdv A outer s H vs Q E hr h => ?_)
  · obtain ⟨rfl, _⟩ := h
    rfl
  · obtain ⟨rfl, k⟩ := h
    refine ⟨_, (pss_cons (ps_set (i := 0) scDeep.nd rfl (Or.inl rfl) (pe_lst pa_nil))
  (Evl.pss_cut (ps_for PassesOwn.never rfl (pi_range1 (by rfl) T.range (pa_cons pe_int pa_nil)) (pg_name (i := 1) (x := "_law_k") scDeep.nd rfl (Or.inl rfl)) (pss_one (ps_set (i := 0) scDeep.nd rfl (Or.inl rfl) (pe_ifExp (pt_cmpR op_eq (pe_op op_mod (pe_callTy call_int1 (by rfl) T.int (by decide +kernel) (pa_cons (pv 1) pa_nil)) pe_int) pe_int (nomark _)) (pe_lst (pa_cons (pv 0) pa_nil)) (pe_tup (pa_cons (pv 0) pa_nil))))))
  (pss_one (ps_ret (pv 0))))), ?_⟩
    refine ⟨Nat.zero_le _, fun p hp => ?_⟩
    have s0 := same_new (o := HO.lst []) hp
    refine ⟨fun σ' H' => (∃ (v : V) (x : Option V), σ' = [some v, x] ∧ New K C H H' (dT 40) v) ∧ Same H H', ?_, ?_⟩
    · refine ⟨40, rfl, by decide, by decide, ?_⟩
      refine for_it (g := gName 1) (walk_range (lo := 0) (n := 40)) (fun i σ H' => (∃ (v : V) (x : Option V), σ = [some v, x] ∧ New K C H H' (dT i) v) ∧ Same H H') ⟨⟨.ref p, none, rfl, fun S hS => ?_⟩, s0⟩ (fun _ _ _ _ _ => trivial) ?_ ?_
      · unfold dT Re
        refine ⟨p, [], rfl, .inl upd_same, fun z => hS p z hp, ?_, Nat.zero_le _⟩
        unfold ReL
        rfl
      · rintro i x σ H4 H5 hi ⟨⟨v, y, rfl, hv⟩, s4⟩ ⟨rfl, rfl⟩
        have step : ∀ (o : HO) (q : Addr), H5 q = none → (o = .lst [v] ∨ o = .tup [v]) → New K C H (upd H5 q o) (dT (i + 1)) (.ref q) := fun o q hq ho S hS => by
          have sq := same_new (o := o) hq
          have hn : H q = none := none_back s4 hq
          unfold dT Re
          refine ⟨q, [v], rfl, ?_, fun z => hS q z hn, ?_, by show 1 ≤ 1000; decide⟩
          · rcases ho with rfl | rfl
            · exact .inl upd_same
            · exact .inr upd_same
          · unfold ReL
            exact ⟨v, [], rfl, Re.keep (.same sq) _ _ (hv S hS), by unfold ReL; rfl⟩
        refine ⟨_, rfl, .inl ⟨_, rfl, _, _, rfl, rfl, (by decide : (0 : Int) < 2), rfl, _, rfl, ite2 (fun hc => ?_) (fun hc => ?_)⟩⟩
        · refine ⟨_, rfl, by show 1 ≤ sizeLine; decide, fun q hq => ?_⟩
          exact ⟨⟨.ref q, _, rfl, step _ q hq (.inl rfl)⟩, s4.trans (same_new hq)⟩
        · refine ⟨_, rfl, by show 1 ≤ sizeLine; decide, fun q hq => ?_⟩
          exact ⟨⟨.ref q, _, rfl, step _ q hq (.inr rfl)⟩, s4.trans (same_new hq)⟩
      · rintro σ H4 ⟨⟨v, y, rfl, hv⟩, s4⟩
        exact ⟨⟨v, y, rfl, hv⟩, s4⟩
    · rintro σ' H' ⟨⟨v, x, rfl, hv⟩, s4⟩
      exact ⟨_, rfl, k _ _ s4 hv⟩
end
end K05

set_option Elab.async false
set_option linter.all false
set_option maxRecDepth 100000
set_option maxHeartbeats 4000000
namespace K05
open PySem PySem.Spec PyProof.Rows L2 Own
/-! a pick out of a list or a tuple; turns near the steps -/
def stT (L : List (Int × Int)) : Tr := .seq (L.map fun d => .seq [.leaf (.int d.1), .leaf (.int d.2)])
theorem Re.int {K : PySem.W.Frag} {C : Addr} {S : Addr → Prop} {H : Hp} {t : Tr} {i : Int} (h : Re K C S H t (.int i)) : t = .leaf (.int i) := by
  cases t with
  | leaf u =>
    unfold Re at h
    rw [← h.1]
  | seq ts =>
    unfold Re at h
    obtain ⟨_, _, z, _⟩ := h
    cases z
/-- as Re.pr, with what it is as a tree -/
theorem Re.pr2 {K : PySem.W.Frag} {C : Addr} {S : Addr → Prop} {H : Hp} {t : Tr} {v : V} (h : Re K C S H t v) : ∃ o, Pr K C H v o ∧ Bd o ∧ ∀ x y, o = some [.int x, .int y] → t = .seq [.leaf (.int x), .leaf (.int y)] := by
  cases t with
  | leaf u =>
    unfold Re at h
    have b0 : Bd none := fun ys z => by cases z
    have c0 : ∀ x y : Int, (none : Option (List V)) = some [.int x, .int y] → Tr.leaf u = .seq [.leaf (.int x), .leaf (.int y)] := fun x y z => by cases z
    refine ⟨none, ⟨?_, fun ys z => by cases z⟩, b0, c0⟩
    rcases h.2 with h | h | ⟨x, dx, p, q, rfl, h1, h2, h3, _⟩ | ⟨p, kvs, rfl, h1, _⟩
    · exact .inl ⟨.inl h.1, rfl⟩
    · exact .inl ⟨.inr (.inl h), rfl⟩
    · exact .inl ⟨.inr (.inr ⟨x, rfl, dx, p, q, h1, h2, h3⟩), rfl⟩
    · exact .inr (.inl ⟨p, kvs, rfl, h1, rfl⟩)
  | seq ts =>
    have h' := h
    unfold Re at h
    obtain ⟨p, xs, rfl, h1, _, h2, h3⟩ := h
    refine ⟨some xs, ⟨.inr (.inr ⟨p, xs, rfl, h1, rfl⟩), fun ys z => ?_⟩, fun ys z i hi => ?_, fun x y z => ?_⟩
    · cases z
      refine ⟨h3, fun y hy => ?_⟩
      obtain ⟨j, hj⟩ := List.getElem?_of_mem hy
      obtain ⟨t, _, q⟩ := h2.at hj
      exact q.sq
    · cases z
      obtain ⟨j, hj⟩ := List.getElem?_of_mem hi
      obtain ⟨t, _, q⟩ := h2.at hj
      exact q.big
    · have e := Option.some.inj z
      subst e
      cases ts with
      | nil =>
        unfold ReL at h2
        cases h2
      | cons t1 r =>
        unfold ReL at h2
        obtain ⟨u, us, e1, g1, g2⟩ := h2
        obtain ⟨rfl, rfl⟩ := List.cons.inj e1
        obtain rfl := g1.int
        cases r with
        | nil =>
          unfold ReL at g2
          cases g2
        | cons t2 r2 =>
          unfold ReL at g2
          obtain ⟨u, us, e1, g3, g4⟩ := g2
          obtain ⟨rfl, rfl⟩ := List.cons.inj e1
          obtain rfl := g3.int
          cases r2 with
          | nil => rfl
          | cons t3 r3 =>
            unfold ReL at g4
            obtain ⟨_, _, z, _⟩ := g4
            cases z
theorem ReL.prs2 {K : PySem.W.Frag} {C : Addr} {S : Addr → Prop} {H : Hp} : ∀ {ts : List Tr} {xs : List V}, ReL K C S H ts xs → ∃ os, Paired (fun x o => Pr K C H x o ∧ Bd o) xs os ∧ Paired (fun t (o : Option (List V)) => ∀ x y : Int, o = some [.int x, .int y] → t = .seq [.leaf (.int x), .leaf (.int y)]) ts os
  | [], xs, h => by
    unfold ReL at h
    subst h
    exact ⟨[], .nil, .nil⟩
  | t :: ts, xs, h => by
    unfold ReL at h
    obtain ⟨x, r, rfl, h1, h2⟩ := h
    obtain ⟨o, ho, hb, hs⟩ := h1.pr2
    obtain ⟨os, hos, hts⟩ := ReL.prs2 h2
    exact ⟨o :: os, .cons ⟨ho, hb⟩ hos, .cons hs hts⟩
theorem shape_of : ∀ {L : List (Int × Int)} {ts : List Tr}, Paired (fun t (o : Option (List V)) => ∀ x y : Int, o = some [.int x, .int y] → t = .seq [.leaf (.int x), .leaf (.int y)]) ts (L.map itP) → ts = L.map fun d => .seq [.leaf (.int d.1), .leaf (.int d.2)]
  | [], _, .nil => rfl
  | d :: L, _, .cons h t => by
    rw [List.map_cons, ← shape_of t, h d.1 d.2 rfl]
/-- its code; where that is of steps, these, and what it is as a tree -/
theorem Re.cd2 {K : PySem.W.Frag} {C : Addr} {S : Addr → Prop} {H : Hp} {t : Tr} {v : V} (h : Re K C S H t v) : ∃ c, Cd K C H v c ∧ (stp c = true → ∃ L, StL K C H v L ∧ t = stT L) := by
  cases t with
  | leaf u =>
    obtain ⟨c, hc, hL⟩ := h.cd
    unfold Re at h
    refine ⟨none, ?_, fun z => by cases z⟩
    show SqR K C H v none
    rcases h.2 with h | h | ⟨x, dx, p, q, rfl, h1, h2, h3, _⟩ | ⟨p, kvs, rfl, h1, _⟩
    · exact .inl ⟨.inl h.1, rfl⟩
    · exact .inl ⟨.inr (.inl h), rfl⟩
    · exact .inl ⟨.inr (.inr ⟨x, rfl, dx, p, q, h1, h2, h3⟩), rfl⟩
    · exact .inr (.inl ⟨p, kvs, rfl, h1, rfl⟩)
  | seq ts =>
    unfold Re at h
    obtain ⟨p, xs, rfl, h1, _, h2, h3⟩ := h
    obtain ⟨os, hos, hsh⟩ := h2.prs2
    have hc : Cd K C H (.ref p) (some os) := ⟨xs, .inr (.inr ⟨p, xs, rfl, h1, rfl⟩), prs_imp hos fun _ _ q => q.1, h3⟩
    refine ⟨some os, hc, fun z => ?_⟩
    obtain ⟨L, rfl, ok⟩ := stpL_ok z
    refine ⟨L, ⟨hc, ok, fun d hd => ?_⟩, ?_⟩
    · obtain ⟨b1, b2⟩ := bd_of hos d hd
      obtain ⟨_, n2⟩ := ok_nn ok d hd
      have c1 : (decide (-(2 ^ 60) < d.1) && decide (d.1 < 2 ^ 60)) = true := b1
      have c2 : (decide (-(2 ^ 60) < d.2) && decide (d.2 < 2 ^ 60)) = true := b2
      exact ⟨of_decide_eq_true (Bool.and_eq_true_iff.mp c1).2, n2, of_decide_eq_true (Bool.and_eq_true_iff.mp c2).2⟩
    · unfold stT
      rw [shape_of hsh]
def spPickE : Sp := fun vs H Q _ => ∃ (a l p : Addr) (N : Int) (xs : List V), vs = [.ref a, .ref p] ∧ Strm N H a l ∧ 0 ≤ N ∧ N ≤ 1000000000 ∧ p ≠ a ∧ p ≠ l ∧ (H p = some (.lst xs) ∨ H p = some (.tup xs)) ∧ 0 < xs.length ∧ xs.length ≤ 1000 ∧
  ∀ H' v, v ∈ xs → But2 a l H H' → Strm (N + 1) H' a l → Q v H'
section
variable {P : Program} {w : World} {K : PySem.W.Frag} {mg : Str → Option Value} {base : Heap} {C : Addr}
theorem ok_pickE {f fD : Addr} {fd fdD : FuncData} (F : Fun K "_law_pick" "_law_pick" sPick f fd) (T : Bt mg) (FD : Fun K "_law_draw" "_law_draw" sDraw fD fdD) (gD : mg "_law_draw" = some (.ref fD)) (bD : Binds K fdD ["_law_stream_here", "_law_many"] []) :
    FnOk P w K mg base CX0 2 f fd ["_law_stream_here", "_law_things"] spPickE := by
  have GD : FnOk P w K mg base CX0 1 fD fdD ["_law_stream_here", "_law_many"] spDraw := ok_draw FD T
  refine F.ok scPick (fun vs H Q E h => ?_) (fun cdv A outer s H vs Q E hr h => ?_)
  · obtain ⟨a, l, p, N, xs, rfl, _⟩ := h
    rfl
  · obtain ⟨a, l, p, N, xs, rfl, S, hN0, hN1, hpa, hpl, hp, hx0, hx1, k⟩ := h
    refine ⟨_, pss_one (ps_ret (pe_ix (ix_list.or ix_tup) (pv 1) (pe_call GD hr (by rfl) gD FD.kp bD .nil pass0 (pa_cons (pv 0) (pa_cons (pe_callB call_len_seq (by rfl) T.len PySem.boot_len (pa_cons (pv 1) pa_nil)) pa_nil))) (fun _ _ => rfl))), ?_⟩
    refine ⟨_, rfl, _, rfl, _, rfl, p, xs, rfl, hp.imp SqL.of SqT.of, a, l, N, (xs.length : Int), rfl, S, hN0, hN1, by omega, by omega, fun H' d d0 d1 b S' => ?_⟩
    have hd : d.toNat < xs.length := by omega
    have e : atI xs d = some xs[d.toNat] := at_of (j := d.toNat) (by omega) (List.getElem?_eq_getElem hd)
    have q := k H' _ (List.getElem_mem hd) b S'
    exact hp.elim (fun z => .inl ⟨p, xs, d, _, rfl, rfl, SqL.of (b _ _ hpa hpl z), e, q⟩) fun z => .inr ⟨p, xs, d, _, rfl, rfl, SqT.of (b _ _ hpa hpl z), e, q⟩
end
end K05

set_option Elab.async false
set_option linter.all false
set_option maxRecDepth 100000
set_option maxHeartbeats 4000000
namespace K05
open PySem PySem.Spec PyProof.Rows L2 Own
/-! _law_p_steps -/
/-- as okL, with the last turn and rate -/
def okS : Int → Int → List (Int × Int) → Int → Int → Prop
  | l, b, [], l', b' => l' = l ∧ b' = b
  | l, b, p :: r, l', b' => 0 ≤ p.1 ∧ 0 ≤ p.2 ∧ l < p.1 ∧ p.2 ≠ b ∧ okS p.1 p.2 r l' b'
theorem okS.snoc : ∀ {L : List (Int × Int)} {l b l' b' t e : Int}, okS l b L l' b' → 0 ≤ t → 0 ≤ e → l' < t → e ≠ b' → okS l b (L ++ [(t, e)]) t e
  | [], l, b, l', b', t, e, h, h1, h2, h3, h4 => by
    obtain ⟨rfl, rfl⟩ := h
    exact ⟨h1, h2, h3, h4, rfl, rfl⟩
  | p :: r, l, b, l', b', t, e, h, h1, h2, h3, h4 => by
    obtain ⟨q1, q2, q3, q4, q5⟩ := h
    exact ⟨q1, q2, q3, q4, okS.snoc q5 h1 h2 h3 h4⟩
theorem okS.fin : ∀ {L : List (Int × Int)} {l b l' : Int}, okS l b L l' 0 → okL l b L
  | [], l, b, l', h => h.2.symm
  | p :: r, l, b, l', h => by
    obtain ⟨q1, q2, q3, q4, q5⟩ := h
    exact ⟨q1, q2, q3, q4, okS.fin q5⟩
/-- new tuples of two numbers each -/
def Rows (H0 H : Hp) (xs : List V) (L : List (Int × Int)) : Prop := Paired (fun x (d : Int × Int) => ∃ q, x = V.ref q ∧ H0 q = none ∧ H q = some (.tup [.int d.1, .int d.2])) xs L
theorem Rows.keep {H0 H H' : Hp} {xs : List V} {L : List (Int × Int)} (h : Rows H0 H xs L) (k : ∀ q t, H0 q = none → H q = some (.tup t) → H' q = some (.tup t)) : Rows H0 H' xs L :=
  prs_imp h fun _ _ ⟨q, h1, h2, h3⟩ => ⟨q, h1, h2, k _ _ h2 h3⟩
theorem paired_snoc {α β : Type} {F : α → β → Prop} {x : α} {y : β} (h : F x y) : ∀ {xs : List α} {ys : List β}, Paired F xs ys → Paired F (xs ++ [x]) (ys ++ [y])
  | _, _, .nil => .cons h .nil
  | _, _, .cons a t => .cons a (paired_snoc h t)
theorem Rows.re {K : PySem.W.Frag} {C : Addr} {S : Addr → Prop} {H0 H : Hp} (hS : ∀ b, S b → H0 b ≠ none) : ∀ {xs : List V} {L : List (Int × Int)}, Rows H0 H xs L → (∀ d ∈ L, bigI (.int d.1) = true ∧ bigI (.int d.2) = true) → ReL K C S H (L.map fun d => .seq [.leaf (.int d.1), .leaf (.int d.2)]) xs
  | _, _, .nil, _ => by
    show ReL K C S H [] []
    unfold ReL
    rfl
  | _, _, .cons (b := d) h t, hb => by
    obtain ⟨q, rfl, n, e⟩ := h
    obtain ⟨b1, b2⟩ := hb d List.mem_cons_self
    show ReL K C S H (Tr.seq [.leaf (.int d.1), .leaf (.int d.2)] :: List.map (fun d : Int × Int => Tr.seq [.leaf (.int d.1), .leaf (.int d.2)]) _) _
    unfold ReL
    refine ⟨_, _, rfl, ?_, Rows.re hS t fun d hd => hb d (List.mem_cons_of_mem _ hd)⟩
    unfold Re
    refine ⟨q, _, rfl, .inr e, fun z => hS q z n, ?_, by show 2 ≤ 1000; decide⟩
    unfold ReL
    refine ⟨_, _, rfl, ?_, ?_⟩
    · unfold Re
      exact ⟨rfl, .inl ⟨rfl, b1⟩⟩
    · unfold ReL
      refine ⟨_, _, rfl, ?_, by unfold ReL; rfl⟩
      unfold Re
      exact ⟨rfl, .inl ⟨rfl, b2⟩⟩
theorem big_of {i : Int} (h0 : 0 ≤ i) (h1 : i < 2 ^ 60) : bigI (.int i) = true := by
  show (decide (-(2 ^ 60) < i) && decide (i < 2 ^ 60)) = true
  rw [decide_eq_true (show -(2 ^ 60) < i by omega), decide_eq_true h1]
  rfl
theorem small1000 {n : Nat} (h : n ≤ 1000) : n < sizeLine := Nat.lt_of_le_of_lt h (by decide)
theorem Rows.len {H0 H : Hp} {xs : List V} {L : List (Int × Int)} (h : Rows H0 H xs L) : xs.length = L.length := Paired.length h
/-- a new list of new tuples -/
def spPSteps : Sp := fun vs H Q _ => ∃ (a l : Addr) (N : Int) (many : Nat) (wide high : Int), vs = [.ref a, .int many, .int wide, .int high] ∧ Strm N H a l ∧ 0 ≤ N ∧ N + 1000 ≤ 1000000000 ∧ many ≤ 100 ∧ 0 < wide ∧ wide ≤ 100000000000 ∧ 0 < high ∧ high ≤ 10000000000000 ∧
  ∀ H' p xs L, But2 a l H H' → H p = none → H' p = some (.lst xs) → Rows H H' xs L → okL (-1) 0 L → (∀ d ∈ L, 0 ≤ d.1 ∧ d.1 ≤ 102 * wide ∧ 0 ≤ d.2 ∧ d.2 ≤ high) → L.length ≤ many + 1 → Strm (N + 1000) H' a l → Q (.ref p) H'
theorem scPSt : FnScope ["_law_stream_here", "_law_many", "_law_wide", "_law_high", "_law_turn", "_law_found", "_law_last", "_law_k", "_law_rate_here"] ["_law_stream_here", "_law_many", "_law_wide", "_law_high"] (defScope s_l_p_steps) := ⟨rfl, rfl, rfl, by decide +kernel, rfl, by decide +kernel, by decide +kernel⟩
/-- between two turns -/
structure PstI (a l p : Addr) (N wide high : Int) (H0 : Hp) (i : Nat) (t e : Int) (H : Hp) : Prop where
  b : But2 a l H0 H
  s : Strm (N + 1 + 2 * i) H a l
  ex : ∃ xs L l', H p = some (.lst xs) ∧ Rows H0 H xs L ∧ okS (-1) 0 L l' e ∧ l' < t ∧ (∀ d ∈ L, 0 ≤ d.1 ∧ d.1 ≤ (i + 1) * wide ∧ 0 ≤ d.2 ∧ d.2 ≤ high) ∧ L.length ≤ i
  t0 : 0 ≤ t
  t1 : t ≤ (i + 1) * wide
  e0 : 0 ≤ e
section
variable {P : Program} {w : World} {K : PySem.W.Frag} {mg : Str → Option Value} {base : Heap}
theorem ok_pst {f fD : Addr} {fd fdD : FuncData} (F : Fun K "_law_p_steps" "_law_p_steps" s_l_p_steps f fd) (T : Bt mg) (FD : Fun K "_law_draw" "_law_draw" sDraw fD fdD) (gD : mg "_law_draw" = some (.ref fD)) (bD : Binds K fdD ["_law_stream_here", "_law_many"] []) :
    FnOk P w K mg base CX0 2 f fd ["_law_stream_here", "_law_many", "_law_wide", "_law_high"] spPSteps := by
  have GD : FnOk P w K mg base CX0 1 fD fdD ["_law_stream_here", "_law_many"] spDraw := ok_draw FD T
  refine F.ok scPSt (fun vs H Q E h => ?_) (fun cdv A outer s H vs Q E hr h => ?_)
  · obtain ⟨a, l, N, many, wide, high, rfl, _⟩ := h
    rfl
  · obtain ⟨a, l, N, many, wide, high, rfl, S, hN0, hN1, hm, hw0, hw1, hh0, hh1, k⟩ := h
    refine ⟨_, (Evl.pss_cut (ps_par3 (i := 4) (j := 5) (l := 6) (by rfl) scPSt.nd rfl rfl rfl (by decide) (by decide) (by decide) rfl rfl rfl (pa_cons (pe_call GD (hr.mono (by decide)) (by rfl) gD FD.kp bD .nil pass0 (pa_cons (pv 0) (pa_cons (pe_op op_add (pv 2) pe_int) pa_nil))) (pa_cons (pe_lst pa_nil) (pa_cons pe_int pa_nil))) (by rfl))
  (Evl.pss_cut (ps_for PassesOwn.never rfl (pi_range1 (by rfl) T.range (pa_cons (pv 1) pa_nil)) (pg_name (i := 7) (x := "_law_k") scPSt.nd rfl (Or.inl rfl)) (pss_cons (ps_set (i := 8) scPSt.nd rfl (Or.inl rfl) (pe_call GD (hr.mono (by decide)) (by rfl) gD FD.kp bD .nil pass0 (pa_cons (pv 0) (pa_cons (pe_op op_add (pv 3) pe_int) pa_nil))))
  (Evl.pss_cut (ps_if (pt_cmpR op_ne (pv 8) (pv 6) (nomark _)) (pss_cons (ps_expr (pe_bm PySem.F.plainAttrs_list PySem.F.slot_list_append PySem.F.type_list_append mt_append (pv 5) (pa_cons (pe_tup (pa_cons (pv 4) (pa_cons (pv 8) pa_nil))) pa_nil)))
  (pss_one (ps_set (i := 6) scPSt.nd rfl (Or.inl rfl) (pv 8)))) pss_nil)
  (pss_one (ps_set (i := 4) scPSt.nd rfl (Or.inl rfl) (pe_op op_add (pe_op op_add (pv 4) pe_int) (pe_call GD (hr.mono (by decide)) (by rfl) gD FD.kp bD .nil pass0 (pa_cons (pv 0) (pa_cons (pv 2) pa_nil)))))))))
  (pss_one (ps_ret (pe_op op_cat (pv 5) (pe_ifExp (pt_cmpR op_gt (pv 6) pe_int (nomark _)) (pe_lst (pa_cons (pe_tup (pa_cons (pv 4) (pa_cons pe_int pa_nil))) pa_nil)) (pe_lst pa_nil))))))), ?_⟩
    refine ⟨fun σ' H' => ∃ (t : Int) (p : Addr), σ' = [some (.ref a), some (.int many), some (.int wide), some (.int high), some (.int t), some (.ref p), some (.int 0), none, none] ∧ H p = none ∧ PstI a l p N wide high H 0 t 0 H', ?_, ?_⟩
    · refine ⟨_, rfl, _, rfl, _, _, rfl, rfl, a, l, N, wide + 1, rfl, S, hN0, by omega, by omega, by omega, fun H1 d d0 d1 b1 S1 => ⟨by decide, fun p hp => ?_⟩⟩
      have np := S1.ne_new hp
      have hp0 : H p = none := b1.fresh S1 hp
      refine ⟨_, _, _, rfl, d, p, rfl, hp0, ⟨but2_new b1 hp, ?_, ⟨[], [], -1, upd_same, .nil, ⟨rfl, rfl⟩, by omega, (fun d hd => by cases hd), Nat.le_refl _⟩, d0, by omega, Int.le_refl _⟩⟩
      exact (S1.but (same_new hp)).mono (by omega)
    rintro σ' H1 ⟨t1, p, rfl, hp0, I0⟩
    refine ⟨fun σ' H' => ∃ (t e : Int) (x7 x8 : Option V), σ' = [some (.ref a), some (.int many), some (.int wide), some (.int high), some (.int t), some (.ref p), some (.int e), x7, x8] ∧ PstI a l p N wide high H many t e H', ?_, ?_⟩
    · refine ⟨_, rfl, many, rfl, by omega, by omega, ?_⟩
      refine for_it (g := gName 7) (walk_range (lo := 0) (n := many)) (fun i σ H' => ∃ (t e : Int) (x7 x8 : Option V), σ = [some (.ref a), some (.int many), some (.int wide), some (.int high), some (.int t), some (.ref p), some (.int e), x7, x8] ∧ PstI a l p N wide high H i t e H') ⟨t1, 0, none, none, rfl, I0⟩ (fun _ _ _ _ _ => trivial) ?_ ?_
      · rintro i x σ H4 H5 hi ⟨t, e, x7, x8, rfl, I⟩ ⟨rfl, rfl⟩
        obtain ⟨b, s, ⟨xs, L, l', hp, hx, ok, hl', hb, hlen⟩, t0, tb, e0⟩ := I
        have npa : p ≠ a := fun z => by
          obtain ⟨ys, c, n0, m0, h1, h2, _⟩ := S.ex
          rw [z, h1] at hp0
          cases hp0
        have npl : p ≠ l := fun z => by
          obtain ⟨ys, c, n0, m0, h1, h2, _⟩ := S.ex
          rw [z, h2] at hp0
          cases hp0
        refine ⟨_, rfl, _, rfl, _, _, rfl, rfl, a, l, _, high + 1, rfl, s, by omega, by omega, by omega, by omega, fun H6 r r0 r1 b6 S6 => ?_⟩
        have rowk : ∀ {H7 H8 : Hp}, (∀ b o, b ≠ a → b ≠ l → H7 b = some o → H8 b = some o) → Rows H H7 xs L → Rows H H8 xs L := fun k7 z => z.keep fun q t n e => k7 _ _ (fun z => by
          obtain ⟨ys, c, n0, m0, h1, h2, _⟩ := S.ex
          rw [z, h1] at n
          cases n) (fun z => by
          obtain ⟨ys, c, n0, m0, h1, h2, _⟩ := S.ex
          rw [z, h2] at n
          cases n) e
        have hp6 := b6 _ _ npa npl hp
        have hx6 := rowk b6 hx
        have wid : ((i : Int) + 1) * wide ≤ ((i : Int) + 1 + 1) * wide := by
          rw [Int.add_mul ((i : Int) + 1) 1 wide]
          omega
        have last : ∀ (H7 : Hp) (e7 : Int) (ys : List V) (M : List (Int × Int)) (l7 : Int), But2 a l H H7 → Strm (N + 1 + 2 * i + 1) H7 a l → H7 p = some (.lst ys) → Rows H H7 ys M → okS (-1) 0 M l7 e7 → l7 ≤ t → (∀ d ∈ M, 0 ≤ d.1 ∧ d.1 ≤ ((i + 1 : Nat) + 1) * wide ∧ 0 ≤ d.2 ∧ d.2 ≤ high) → M.length ≤ i + 1 → 0 ≤ e7 →
            ∀ (H8 : Hp) (d : Int), 0 ≤ d → d < wide → But2 a l H7 H8 → Strm (N + 1 + 2 * i + 1 + 1) H8 a l → PstI a l p N wide high H (i + 1) (t + 1 + d) e7 H8 := fun H7 e7 ys M l7 q1 q2 q3 q4 q5 q6 q7 q8 q9 H8 d d0 d1 b8 S8 => by
          refine ⟨q1.trans b8, S8.mono (by omega), ⟨ys, M, l7, b8 _ _ npa npl q3, q4.keep (fun q t n e => b8 _ _ (fun z => by
            obtain ⟨ys, c, n0, m0, h1, h2, _⟩ := S.ex
            rw [z, h1] at n
            cases n) (fun z => by
            obtain ⟨ys, c, n0, m0, h1, h2, _⟩ := S.ex
            rw [z, h2] at n
            cases n) e), q5, by omega, q7, q8⟩, by omega, ?_, q9⟩
          have e1 : ((i + 1 : Nat) + 1 : Int) * wide = ((i : Int) + 1) * wide + wide := by
            rw [show ((i + 1 : Nat) + 1 : Int) = ((i : Int) + 1) + 1 by omega, Int.add_mul ((i : Int) + 1) 1 wide]
            omega
          rw [e1]
          omega
        have hbw : ∀ d ∈ L, 0 ≤ d.1 ∧ d.1 ≤ ((i + 1 : Nat) + 1) * wide ∧ 0 ≤ d.2 ∧ d.2 ≤ high := fun d hd => by
          obtain ⟨y1, y2, y3, y4⟩ := hb d hd
          refine ⟨y1, Int.le_trans y2 ?_, y3, y4⟩
          rw [show ((i + 1 : Nat) + 1 : Int) = (i : Int) + 1 + 1 by omega]
          exact wid
        refine ⟨fun σ' H7 => ∃ (e7 : Int) (ys : List V) (M : List (Int × Int)) (l7 : Int), σ' = [some (.ref a), some (.int many), some (.int wide), some (.int high), some (.int t), some (.ref p), some (.int e7), some (.int (0 + (i : Int))), some (.int r)] ∧ But2 a l H H7 ∧ Strm (N + 1 + 2 * i + 1) H7 a l ∧ H7 p = some (.lst ys) ∧ Rows H H7 ys M ∧ okS (-1) 0 M l7 e7 ∧ l7 ≤ t ∧ (∀ d ∈ M, 0 ≤ d.1 ∧ d.1 ≤ ((i + 1 : Nat) + 1) * wide ∧ 0 ≤ d.2 ∧ d.2 ≤ high) ∧ M.length ≤ i + 1 ∧ 0 ≤ e7, ?_, ?_⟩
        · refine ⟨_, rfl, _, rfl, rfl, _, rfl, ite2 (fun hc => ?_) (fun hc => ?_)⟩
          · have ne : r ≠ e := fun z => by
              subst z
              have hc2 : (!decide (V.int r = V.int r)) = true := hc
              rw [decide_eq_true rfl] at hc2
              cases hc2
            refine ⟨_, rfl, .inl ⟨rfl, _, SqL.of hp6⟩, _, rfl, _, rfl, by show 2 ≤ sizeLine; decide, fun q hq => ?_⟩
            have nq := S6.ne_new hq
            have sq := same_new (o := HO.tup [V.int t, V.int r]) hq
            refine ⟨p, xs, .ref q, rfl, rfl, sq _ _ hp6, ?_, _, rfl, r, xs ++ [.ref q], L ++ [(t, r)], t, rfl, ?_, ?_, upd_same, ?_, ok.snoc t0 r0 hl' ne, Int.le_refl _, ?_, ?_, r0⟩
            · have := hx.len
              exact small1000 (by omega)
            · refine fun b' o n1 n2 h => ?_
              have h6 := sq _ _ (b6 _ _ n1 n2 (b _ _ n1 n2 h))
              rw [upd_ne (fun z => by rw [z, hp0] at h; cases h)]
              exact h6
            · exact (S6.but sq).upd npa npl
            · have hq0 : H q = none := b.fresh s (b6.fresh S6 hq)
              refine paired_snoc ⟨q, rfl, hq0, ?_⟩ (hx6.keep fun c u n e => ?_)
              · rw [upd_ne (fun z => by rw [z, hp6] at e; cases e)]
                exact sq _ _ e
              · rw [upd_ne (fun z => by rw [z, hp6] at hq; cases hq)]
                exact upd_same
            · intro d hd
              rcases List.mem_append.mp hd with hd | hd
              · exact hbw d hd
              · obtain rfl := List.mem_singleton.mp hd
                refine ⟨t0, Int.le_trans tb ?_, r0, by omega⟩
                rw [show ((i + 1 : Nat) + 1 : Int) = (i : Int) + 1 + 1 by omega]
                exact wid
            · rw [List.length_append]
              show L.length + 1 ≤ i + 1
              omega
          · exact ⟨e, xs, L, l', rfl, b.trans b6, S6, hp6, hx6, ok, by omega, hbw, by omega, e0⟩
        · rintro σ' H7 ⟨e7, ys, M, l7, rfl, q1, q2, q3, q4, q5, q6, q7, q8, q9⟩
          refine ⟨_, rfl, _, _, rfl, rfl, _, rfl, _, rfl, a, l, _, wide, rfl, q2, by omega, by omega, hw0, by omega, fun H8 d d0 d1 b8 S8 => ?_⟩
          exact ⟨_, _, rfl, rfl, t + 1 + d, e7, _, _, rfl, last H7 e7 ys M l7 q1 q2 q3 q4 q5 q6 q7 q8 q9 H8 d d0 d1 b8 S8⟩
      · rintro σ H4 ⟨t, e, x7, x8, rfl, I⟩
        exact ⟨t, e, x7, x8, rfl, I⟩
    · rintro σ' H2 ⟨t, e, x7, x8, rfl, I⟩
      obtain ⟨b, s, ⟨xs, L, l', hp, hx, ok, hl', hb, hlen⟩, t0, tb, e0⟩ := I
      have hw : ((many : Int) + 1) * wide ≤ 102 * wide := Int.mul_le_mul_of_nonneg_right (by omega) (by omega)
      have hb2 : ∀ d ∈ L, 0 ≤ d.1 ∧ d.1 ≤ 102 * wide ∧ 0 ≤ d.2 ∧ d.2 ≤ high := fun d hd => by
        obtain ⟨y1, y2, y3, y4⟩ := hb d hd
        exact ⟨y1, Int.le_trans y2 hw, y3, y4⟩
      have lx := hx.len
      refine ⟨_, rfl, _, rfl, _, _, rfl, rfl, _, rfl, ite2 (fun hc => ?_) (fun hc => ?_)⟩
      · have he : 0 < e := by
          have z := of_decide_eq_true hc
          omega
        refine ⟨_, rfl, by show 2 ≤ sizeLine; decide, fun q hq => ⟨by show 1 ≤ sizeLine; decide, fun u hu => ?_⟩⟩
        have sq := same_new (o := HO.tup [V.int t, V.int 0]) hq
        have su := same_new (o := HO.lst [V.ref q]) hu
        have nq : q ≠ u := fun z => by
          rw [← z, upd_same] at hu
          cases hu
        refine ⟨p, u, xs, [.ref q], rfl, rfl, su _ _ (sq _ _ hp), upd_same, ?_, fun v hv => ?_⟩
        · rw [lx]
          exact Nat.le_of_lt (small1000 (by show L.length + 1 ≤ 1000; omega))
        · have sv := same_new (o := HO.lst (xs ++ [V.ref q])) hv
          have s3 : Same H2 (upd (upd (upd H2 q (.tup [.int t, .int 0])) u (.lst [.ref q])) v (.lst (xs ++ [.ref q]))) := (sq.trans su).trans sv
          have b3 : But2 a l H (upd (upd (upd H2 q (.tup [.int t, .int 0])) u (.lst [.ref q])) v (.lst (xs ++ [.ref q]))) := b.trans fun c o _ _ h => s3 _ _ h
          have S3 := s.but s3
          have hq0 : H q = none := b.fresh s hq
          have hv2 : H2 v = none := none_back (sq.trans su) hv
          refine k _ v _ (L ++ [(t, 0)]) b3 (b.fresh s hv2) upd_same (paired_snoc ⟨q, rfl, hq0, ?_⟩ (hx.keep fun c t _ e => s3 _ _ e)) (okS.snoc ok t0 (Int.le_refl 0) hl' (by omega)).fin ?_ ?_ (S3.mono (by omega))
          · intro d hd
            rcases List.mem_append.mp hd with hd | hd
            · exact hb2 d hd
            · obtain rfl := List.mem_singleton.mp hd
              exact ⟨t0, Int.le_trans tb hw, Int.le_refl 0, by omega⟩
          · rw [List.length_append]
            show L.length + 1 ≤ many + 1
            omega
          · exact sv _ _ (su _ _ upd_same)
      · have he : e = 0 := by
          have z : ¬ 0 < e := fun z => hc (decide_eq_true z)
          omega
        subst he
        refine ⟨by decide, fun u hu => ?_⟩
        have su := same_new (o := HO.lst ([] : List V)) hu
        refine ⟨p, u, xs, [], rfl, rfl, su _ _ hp, upd_same, ?_, fun v hv => ?_⟩
        · rw [lx]
          exact Nat.le_of_lt (small1000 (by show L.length + 0 ≤ 1000; omega))
        · rw [List.append_nil] at *
          have sv := same_new (o := HO.lst xs) hv
          have s3 : Same H2 (upd (upd H2 u (.lst [])) v (.lst xs)) := su.trans sv
          exact k _ v xs L (b.trans fun c o _ _ h => s3 _ _ h) (b.fresh s (none_back su hv)) upd_same (hx.keep fun c t _ e => s3 _ _ e) ok.fin hb2 (by omega) ((s.but s3).mono (by omega))
end
end K05

set_option Elab.async false
set_option linter.all false
set_option maxRecDepth 100000
set_option maxHeartbeats 4000000
namespace K05
open PySem PySem.Spec PyProof.Rows L2 Own
/-! _law_p_odd -/
theorem New.base {K : PySem.W.Frag} {C : Addr} {H0 H H' : Hp} {t : Tr} {v : V} (h : New K C H H' t v) (e : Same H0 H) : New K C H0 H' t v := fun S hS => h S fun b hb z => hS b hb (none_back e z)
/-- new things, one behind another -/
def NewL (K : PySem.W.Frag) (C : Addr) (H H' : Hp) (ts : List Tr) (vs : List V) : Prop := ∀ S : Addr → Prop, (∀ b, S b → H b ≠ none) → ReL K C S H' ts vs
/-- how great a thing is at most -/
def Bn (r m d : Nat) (t : Tr) : Prop := rkT t ≤ r ∧ ndT t ≤ m ∧ dpT t ≤ d
theorem Bn.mono {r m d r' m' d' : Nat} {t : Tr} (b : Bn r m d t) (h1 : r ≤ r') (h2 : m ≤ m') (h3 : d ≤ d') : Bn r' m' d' t := ⟨Nat.le_trans b.1 h1, Nat.le_trans b.2.1 h2, Nat.le_trans b.2.2 h3⟩
theorem bn_leaf (u : V) : Bn 0 0 3 (.leaf u) := by
  unfold Bn rkT ndT dpT
  decide
theorem bn_L {r m d : Nat} : ∀ {ts : List Tr}, (∀ t ∈ ts, Bn r m d t) → rkL ts ≤ r ∧ ndL ts ≤ ts.length * m ∧ dpL ts ≤ d
  | [], _ => ⟨Nat.zero_le _, Nat.zero_le _, Nat.zero_le _⟩
  | t :: ts, h => by
    obtain ⟨h1, h2, h3⟩ := bn_L fun u hu => h u (List.mem_cons_of_mem _ hu)
    obtain ⟨b1, b2, b3⟩ := h t List.mem_cons_self
    unfold rkL ndL dpL
    refine ⟨Nat.max_le.mpr ⟨b1, h1⟩, ?_, Nat.max_le.mpr ⟨b3, h3⟩⟩
    rw [List.length_cons, Nat.add_mul]
    omega
theorem bn_seq {r m d : Nat} {ts : List Tr} (h : ∀ t ∈ ts, Bn r m d t) : Bn (r + 1) (ts.length * m + 1) (d + 1) (.seq ts) := by
  obtain ⟨h1, h2, h3⟩ := bn_L h
  unfold Bn rkT ndT dpT
  omega
/-- what a term gives: a new thing, not too great -/
def Gv (K : PySem.W.Frag) (C : Addr) (te : TE) (r m d : Nat) : Prop := ∀ σ H0 H Q, Same H0 H → (∀ H' v t, Same H H' → New K C H0 H' t v → Bn r m d t → Q v H') → te σ H Q
def GvA (K : PySem.W.Frag) (C : Addr) (ta : TA) (n r m d : Nat) : Prop := ∀ σ H0 H Q, Same H0 H → (∀ H' vs ts, Same H H' → NewL K C H0 H' ts vs → (∀ t ∈ ts, Bn r m d t) → ts.length = n → Q vs H') → ta σ H Q
theorem NewL.len {K : PySem.W.Frag} {C : Addr} {H0 H : Hp} {ts : List Tr} {vs : List V} (n : NewL K C H0 H ts vs) : vs.length = ts.length := (n (fun _ => False) fun b z => z.elim).len
section
variable {K : PySem.W.Frag} {C : Addr} {te : TE} {ta : TA} {n r m d : Nat}
theorem Gv.mono {r' m' d' : Nat} (g : Gv K C te r m d) (h1 : r ≤ r') (h2 : m ≤ m') (h3 : d ≤ d') : Gv K C te r' m' d' := fun σ H0 H Q e k => g σ H0 H Q e fun H' v t e1 n1 b1 => k H' v t e1 n1 (b1.mono h1 h2 h3)
theorem gv_c {u : V} (h : atomV u = true) (b : bigI u = true) : Gv K C (tC u) 0 0 3 := fun σ H0 H Q e k => k H u (.leaf u) (Same.refl H) (fun S _ => by
  unfold Re
  exact ⟨rfl, .inl ⟨h, b⟩⟩) (bn_leaf u)
theorem gv_neg {i : Int} (b : bigI (.int (-i)) = true) : Gv K C (tUn (rU fun i => .int (-i)) (tC (.int i))) 0 0 3 := fun σ H0 H Q e k => by
  refine ⟨i, rfl, k H _ (.leaf (.int (-i))) (Same.refl H) (fun S _ => ?_) (bn_leaf _)⟩
  unfold Re
  exact ⟨rfl, .inl ⟨rfl, b⟩⟩
theorem gv_fn {f : Addr} {o : Obj} (h : K.lookup f = some o) (c : o.cls = .type "function") : Gv K C (tC (.ref f)) 0 0 3 := fun σ H0 H Q e k => k H _ (.leaf (.ref f)) (Same.refl H) (fun S _ => by
  unfold Re
  exact ⟨rfl, .inr (.inl ⟨f, o, rfl, h, c⟩)⟩) (bn_leaf _)
theorem new_dict {H0 H : Hp} {kvs : List (Key × V)} {p : Addr} (hp : H0 p = none) (e : H p = some (.dK kvs)) (h : ∀ y ∈ kvs, atomV y.2 = true) (hl : kvs.length ≤ 1000) : New K C H0 H (.leaf (.ref p)) (.ref p) := fun S hS => by
  unfold Re
  exact ⟨rfl, .inr (.inr (.inr ⟨p, kvs, rfl, e, fun z => hS p z hp, h, hl⟩))⟩
theorem gv_d0 : Gv K C tDNewK 0 0 3 := fun σ H0 H Q e k p hp => k _ _ (.leaf (.ref p)) (same_new hp) (new_dict (none_back e hp) upd_same (fun y hy => by cases hy) (Nat.zero_le _)) (bn_leaf _)
theorem gv_d2 {a b c d : Int} : Gv K C (tDisp [(tC (.int a), tC (.int b)), (tC (.int c), tC (.int d))]) 0 0 3 := fun σ H0 H Q e k p hp => by
  refine ⟨upd_same, [(.inl a, .int b), (.inl c, .int d)], rfl, by show 2 ≤ 15; decide, ?_⟩
  have nn := none_back e hp
  refine k _ _ (.leaf (.ref p)) (fun x o z => ?_) (new_dict nn upd_same ?_ ?_) (bn_leaf _)
  · have y := ne_of_none z hp
    rw [upd_ne y, upd_ne y]
    exact z
  · show ∀ y ∈ putK (putK [] (Sum.inl a) (V.int b)) (Sum.inl c) (V.int d), atomV y.2 = true
    by_cases z : a = c
    · subst z
      simp [putK, atomV]
    · simp [putK, atomV, z]
  · show (putK (putK [] (Sum.inl a) (V.int b)) (Sum.inl c) (V.int d)).length ≤ 1000
    by_cases z : a = c
    · subst z
      simp [putK]
    · simp [putK, z]
theorem gva_nil : GvA K C tNil 0 r m d := fun σ H0 H Q e k => k H [] [] (Same.refl H) (fun S _ => by
  unfold ReL
  rfl) (fun t ht => by cases ht) rfl
theorem gva_cons (h : Gv K C te r m d) (g : GvA K C ta n r m d) : GvA K C (tCons te ta) (n + 1) r m d := fun σ H0 H Q e k => by
  refine h σ H0 H _ e fun H1 v t e1 n1 b1 => g σ H0 H1 _ (e.trans e1) fun H2 vs ts e2 n2 b2 l2 => k H2 (v :: vs) (t :: ts) (e1.trans e2) (fun S hS => ?_) (fun u hu => ?_) (by rw [List.length_cons, l2])
  · unfold ReL
    exact ⟨v, vs, rfl, Re.keep (.same e2) _ _ (n1 S hS), n2 S hS⟩
  · rcases List.mem_cons.mp hu with rfl | hu
    · exact b1
    · exact b2 u hu
theorem GvA.use {σ : L2.St} {H0 H : Hp} {Q : List V → Hp → Prop} (g : GvA K C ta n r m d) (e : Same H0 H) (k : ∀ H' vs ts, Same H H' → NewL K C H0 H' ts vs → (∀ t ∈ ts, Bn r m d t) → ts.length = n → Q vs H') : ta σ H Q := g σ H0 H Q e k
theorem GvA.set {σ : L2.St} {H0 H : Hp} {i : Nat} {tz : TS} {D : Ends} (g : GvA K C ta n r m d) (e : Same H0 H) (k : ∀ H' vs ts, Same H H' → NewL K C H0 H' ts vs → (∀ t ∈ ts, Bn r m d t) → ts.length = n → vs.length ≤ sizeLine ∧ ∀ p, H' p = none → tz D (σ.set i (some (.ref p))) (upd H' p (.lst vs))) :
    tSeq (tAsg (tLst ta) (gName i)) tz D σ H := g σ H0 H _ e k
theorem GvA.ext {σ : L2.St} {H0 H : Hp} {Q : List V → Hp → Prop} (g : GvA K C ta n r m d) (e : Same H0 H) (k : ∀ H' vs ts, Same H H' → NewL K C H0 H' ts vs → (∀ t ∈ ts, Bn r m d t) → ts.length = n → vs.length ≤ sizeLine ∧ ∀ p, H' p = none → Q [.ref p] (upd H' p (.lst vs))) :
    tCons (tLst ta) tNil σ H Q := g σ H0 H _ e k
theorem newL_seq {H0 H : Hp} {ts : List Tr} {vs : List V} {p : Addr} {o : HO} (e : Same H0 H) (n : NewL K C H0 H ts vs) (hp : H p = none) (ho : o = .lst vs ∨ o = .tup vs) (hl : vs.length ≤ 1000) : New K C H0 (upd H p o) (.seq ts) (.ref p) := fun S hS => by
  have s := same_new (o := o) hp
  unfold Re
  refine ⟨p, vs, rfl, ?_, fun z => hS p z (none_back e hp), ReL.keep (.same s) _ _ (n S hS), hl⟩
  rcases ho with rfl | rfl
  · exact .inl upd_same
  · exact .inr upd_same
theorem gv_lst (g : GvA K C ta n r m d) (hl : n ≤ 1000) : Gv K C (tLst ta) (r + 1) (n * m + 1) (d + 1) := fun σ H0 H Q e k => by
  refine g σ H0 H _ e fun H1 vs ts e1 n1 b1 l1 => ⟨by rw [n1.len, l1]; exact Nat.le_of_lt (small1000 hl), fun p hp => ?_⟩
  have b := bn_seq b1
  rw [l1] at b
  exact k _ _ _ (e1.trans (same_new hp)) (newL_seq (e.trans e1) n1 hp (.inl rfl) (by rw [n1.len, l1]; exact hl)) b
theorem gv_tup (g : GvA K C ta n r m d) (hl : n ≤ 1000) : Gv K C (tTup ta) (r + 1) (n * m + 1) (d + 1) := fun σ H0 H Q e k => by
  refine g σ H0 H _ e fun H1 vs ts e1 n1 b1 l1 => ⟨by rw [n1.len, l1]; exact Nat.le_of_lt (small1000 hl), fun p hp => ?_⟩
  have b := bn_seq b1
  rw [l1] at b
  exact k _ _ _ (e1.trans (same_new hp)) (newL_seq (e.trans e1) n1 hp (.inr rfl) (by rw [n1.len, l1]; exact hl)) b
theorem gv_deep : Gv K C (tCall (spDeep K C) [] E0 tNil) 41 41 41 := fun σ H0 H Q e k => by
  refine ⟨rfl, fun H' v e1 n1 => k H' v (dT 40) e1 (n1.base e) ?_⟩
  exact ⟨by decide +kernel, by decide +kernel, by decide +kernel⟩
theorem gv_house {Cp Cr Cd : Addr} (hC : HC K C) : Gv K C (tMake C (spHInit K Cp Cr Cd) [] E0 (tCons (tC (.int 1)) (tCons (tLst tNil) (tCons (tLst tNil) tNil)))) 0 0 3 := fun σ H0 H Q e k => by
  refine ⟨Nat.zero_le _, fun p hp => ⟨Nat.zero_le _, fun q hq => ?_⟩⟩
  have e1 := same_new (o := HO.lst []) hp
  have e2 := same_new (o := HO.lst []) hq
  intro x dx hx hdx nx
  have s1 := (same_new (o := HO.own x) hdx).trans (same_new (H := upd (upd (upd H p (.lst [])) q (.lst [])) dx (.own x)) (o := .ins C dx []) (by rw [upd_ne (Ne.symm nx)]; exact hx))
  have hp2 := s1 _ _ (e2 _ _ upd_same)
  have hq2 := s1 _ _ (upd_same (H := upd H p (.lst [])) (a := q) (o := .lst []))
  have s2 := (e1.trans e2).trans s1
  have hxx : upd (upd (upd (upd H p (.lst [])) q (.lst [])) dx (.own x)) x (.ins C dx []) x = some (.ins C dx []) := upd_same
  generalize upd (upd (upd (upd H p (.lst [])) q (.lst [])) dx (.own x)) x (.ins C dx []) = H2 at s1 s2 hp2 hq2 hxx ⊢
  have w0 : ∀ (j : Nat), ¬ WRes 1 ([] : List (Option (List V))) (.int j) := fun j z => by
    rcases z with ⟨z, _⟩ | ⟨i, _, z, _⟩
    · cases z
    · exact absurd z (Nat.not_lt_zero _)
  have d0 : ∀ (j : Nat), ¬ DRes 1 ([] : List (Option (List V))) (.int j) := fun j z => by
    rcases z with ⟨z, _⟩ | ⟨i, _, z, _⟩
    · cases z
    · exact absurd z (Nat.not_lt_zero _)
  have it0 : Items H2 [] := fun v hv => by cases hv
  have sp : Sqs H2 p [] := .inl hp2
  have sq : Sqs H2 q [] := .inl hq2
  refine ⟨x, C, dx, .int 1, .ref p, .ref q, rfl, hxx, hC, .inl rfl, .inr ⟨1, rfl, by decide, sp.shp, .inr ⟨p, [], rfl, sp, it0, Nat.zero_le _, fun j w => absurd w (w0 j), fun _ => ⟨sq.shp, .inr ⟨q, [], rfl, sq, it0, Nat.zero_le _, fun j w => absurd w (d0 j), fun _ => ?_⟩⟩⟩⟩⟩
  intro H' p' q' rs ds kp hx' hp' hq' npq h1 h2 t1 t2
  cases t1
  cases t2
  have s3 : Same H H' := fun b o z => kp b o (fun y => by
    have z1 := e2 _ _ (e1 _ _ z)
    rw [y, hx] at z1
    cases z1) (s2 _ _ z)
  have x0 : H x = none := none_back (e1.trans e2) hx
  have p0 : H p' = none := none_back s2 hp'
  have q0 : H q' = none := none_back s2 hq'
  refine ⟨rfl, k H' (.ref x) (.leaf (.ref x)) s3 (fun S hS => ?_) (bn_leaf _)⟩
  unfold Re
  exact ⟨rfl, .inr (.inr (.inl ⟨x, dx, p', q', rfl, hx', h1, h2, fun z => hS x z (none_back e x0), fun z => hS p' z (none_back e p0), fun z => hS q' z (none_back e q0)⟩))⟩
end
theorem ReL.app {K : PySem.W.Frag} {C : Addr} {S : Addr → Prop} {H : Hp} {us : List Tr} {ys : List V} (h : ReL K C S H us ys) : ∀ {ts : List Tr} {xs : List V}, ReL K C S H ts xs → ReL K C S H (ts ++ us) (xs ++ ys)
  | [], xs, g => by
    unfold ReL at g
    subst g
    exact h
  | t :: ts, xs, g => by
    unfold ReL at g
    obtain ⟨y, r, rfl, g1, g2⟩ := g
    show ReL K C S H (t :: (ts ++ us)) (y :: (r ++ ys))
    unfold ReL
    exact ⟨y, _, rfl, g1, ReL.app h g2⟩
abbrev OkT : Tr → Prop := Bn 41 60 45
def spOdd (K : PySem.W.Frag) (C : Addr) : Sp := fun vs H Q _ => ∃ (a l : Addr) (N : Int), vs = [.ref a] ∧ Strm N H a l ∧ 0 ≤ N ∧ N + 1 ≤ 1000000000 ∧ ∀ H' v t, But2 a l H H' → Strm (N + 1) H' a l → New K C H H' t v → OkT t → Q v H'
theorem scOdd : FnScope ["_law_stream_here", "_law_some"] ["_law_stream_here"] (defScope s_l_p_odd) := ⟨rfl, rfl, rfl, by decide +kernel, rfl, by decide +kernel, by decide +kernel⟩
section
variable {P : Program} {w : World} {K : PySem.W.Frag} {mg : Str → Option Value} {base : Heap} {C : Addr}
theorem ok_odd {f fP fD fDe fI Cp Cr Cd : Addr} {fd fdP fdD fdDe fdI : FuncData} (F : Fun K "_law_p_odd" "_law_p_odd" s_l_p_odd f fd) (T : Bt mg) (FD : Fun K "_law_draw" "_law_draw" sDraw fD fdD) (gD : mg "_law_draw" = some (.ref fD)) (bD : Binds K fdD ["_law_stream_here", "_law_many"] [])
    (FP : Fun K "_law_pick" "_law_pick" sPick fP fdP) (gP : mg "_law_pick" = some (.ref fP)) (bP : Binds K fdP ["_law_stream_here", "_law_things"] [])
    (FDe : Fun K "_law_p_deep" "_law_p_deep" s_l_p_deep fDe fdDe) (gDe : mg "_law_p_deep" = some (.ref fDe)) (bDe : Binds K fdDe [] [])
    (M : Mk K C fI) (hC : HC K C) (GI : FnOk P w K mg base (L2.CX P w) 6 fI fdI ["self", "places", "roads", "doors"] (spHInit K Cp Cr Cd)) (gH : mg "House" = some (.ref C)) (bI : Binds K fdI ["self", "places", "roads", "doors"] [])
    (od : ∃ o : Obj, K.lookup fD = some o ∧ o.cls = .type "function") : FnOk P w K mg base CX0 8 f fd ["_law_stream_here"] (spOdd K C) := by
  have GP : FnOk P w K mg base CX0 2 fP fdP ["_law_stream_here", "_law_things"] spPick := ok_pick FP T FD gD bD
  have GDe : FnOk P w K mg base CX0 1 fDe fdDe [] (spDeep K C) := ok_deep FDe T
  obtain ⟨o, od1, od2⟩ := od
  refine F.ok scOdd (fun vs H Q E h => ?_) (fun cdv A outer s H vs Q E hr h => ?_)
  · obtain ⟨a, l, N, rfl, _⟩ := h
    rfl
  · obtain ⟨a, l, N, rfl, S0, hN0, hN1, k⟩ := h
    refine ⟨_, (pss_cons (ps_set (i := 1) scOdd.nd rfl (Or.inl rfl) (pe_lst (pa_cons pe_non (pa_cons (pe_un un_neg pe_int) (pa_cons pe_bl (pa_cons pe_bl (pa_cons pe_str (pa_cons pe_str (pa_cons pe_str (pa_cons (pe_tup pa_nil) (pa_cons (pe_lst pa_nil) (pa_cons pe_dnewK (pa_cons (pe_lst (pa_cons (pe_lst pa_nil) pa_nil)) (pa_cons (pe_tup (pa_cons pe_int (pa_cons pe_int pa_nil))) (pa_cons (pe_lst (pa_cons pe_int (pa_cons pe_int pa_nil))) (pa_cons (pe_disp (pps_cons pe_int pe_int (pps_cons pe_int pe_int pps_nil)) (by rfl) (by rfl) (fun z => by cases z) (by decide)) (pa_cons pe_int (pa_cons (pe_glob (v := .ref fD) (by rfl) gD rfl) pa_nil))))))))))))))))))
  (pss_cons (ps_expr (pe_bm PySem.F.plainAttrs_list PySem.F.slot_list_extend PySem.F.type_list_extend mt_extend (pv 1) (pa_cons (pe_lst (pa_cons (pe_make M GI (hr.mono (by decide)) (by rfl) gH bI .nil passL (pa_cons pe_int (pa_cons (pe_lst pa_nil) (pa_cons (pe_lst pa_nil) pa_nil))) (by decide)) (pa_cons (pe_lst (pa_cons (pe_lst (pa_cons (pe_tup (pa_cons pe_int (pa_cons pe_int pa_nil))) (pa_cons (pe_tup (pa_cons pe_int (pa_cons pe_int pa_nil))) pa_nil))) pa_nil)) (pa_cons (pe_tup (pa_cons (pe_tup (pa_cons pe_int (pa_cons pe_int pa_nil))) (pa_cons (pe_tup (pa_cons pe_int (pa_cons pe_int pa_nil))) pa_nil))) (pa_cons (pe_tup (pa_cons pe_str (pa_cons pe_str pa_nil))) (pa_cons (pe_lst (pa_cons (pe_tup (pa_cons pe_int (pa_cons pe_bl pa_nil))) pa_nil)) (pa_cons (pe_call0 GDe (hr.mono (by decide)) (by rfl) gDe FDe.kp bDe .nil pass0) pa_nil))))))) pa_nil)))
  (pss_one (ps_ret (pe_call GP (hr.mono (by decide)) (by rfl) gP FP.kp bP .nil pass0 (pa_cons (pv 0) (pa_cons (pv 1) pa_nil))))))), ?_⟩
    have up : ∀ {te : TE} {r m d : Nat}, Gv K C te r m d → r ≤ 41 → m ≤ 60 → d ≤ 45 → Gv K C te 41 60 45 := fun g h1 h2 h3 => g.mono h1 h2 h3
    have cc : ∀ {u : V}, atomV u = true → bigI u = true → Gv K C (tC u) 41 60 45 := fun h b => up (gv_c h b) (by decide) (by decide) (by decide)
    have p2 : ∀ {u v : V}, atomV u = true → bigI u = true → atomV v = true → bigI v = true → GvA K C (tCons (tC u) (tCons (tC v) tNil)) 2 0 0 3 := fun a b c d => gva_cons (gv_c a b) (gva_cons (gv_c c d) gva_nil)
    have q0 : GvA K C tNil 0 0 0 3 := gva_nil
    refine GvA.set (K := K) (C := C) (n := 16) (r := 41) (m := 60) (d := 45) ?_ (Same.refl H) fun H1 xs ts e1 n1 b1 l1 => ⟨by rw [n1.len, l1]; decide, fun p hp => ?_⟩
    · refine gva_cons (cc (by rfl) (by rfl)) ?_
      refine gva_cons (up (gv_neg (by decide)) (by decide) (by decide) (by decide)) ?_
      refine gva_cons (cc (by rfl) (by rfl)) ?_
      refine gva_cons (cc (by rfl) (by rfl)) ?_
      refine gva_cons (cc (by rfl) (by rfl)) ?_
      refine gva_cons (cc (by rfl) (by rfl)) ?_
      refine gva_cons (cc (by rfl) (by rfl)) ?_
      refine gva_cons (up (gv_tup q0 (by decide)) (by decide) (by decide) (by decide)) ?_
      refine gva_cons (up (gv_lst q0 (by decide)) (by decide) (by decide) (by decide)) ?_
      refine gva_cons (up gv_d0 (by decide) (by decide) (by decide)) ?_
      refine gva_cons (up (gv_lst (gva_cons (gv_lst q0 (by decide)) gva_nil) (by decide)) (by decide) (by decide) (by decide)) ?_
      refine gva_cons (up (gv_tup (p2 (by rfl) (by rfl) (by rfl) (by rfl)) (by decide)) (by decide) (by decide) (by decide)) ?_
      refine gva_cons (up (gv_lst (p2 (by rfl) (by rfl) (by rfl) (by rfl)) (by decide)) (by decide) (by decide) (by decide)) ?_
      refine gva_cons (up gv_d2 (by decide) (by decide) (by decide)) ?_
      refine gva_cons (cc (by rfl) (by rfl)) ?_
      exact gva_cons (up (gv_fn od1 od2) (by decide) (by decide) (by decide)) gva_nil
    have e2 := same_new (o := HO.lst xs) hp
    have hp2 : upd H1 p (.lst xs) p = some (.lst xs) := upd_same
    refine ⟨_, rfl, .inl ⟨rfl, _, SqL.of hp2⟩, ?_⟩
    have pr := gv_tup (gva_cons (gv_tup (p2 (u := .int 0) (v := .int 1) rfl rfl rfl rfl) (by decide)) (gva_cons (gv_tup (p2 (u := .int 1) (v := .int 0) rfl rfl rfl rfl) (by decide)) gva_nil)) (by decide)
    have pr' := gv_lst (gva_cons (gv_tup (p2 (u := .int 0) (v := .int 1) rfl rfl rfl rfl) (by decide)) (gva_cons (gv_tup (p2 (u := .int 1) (v := .int 0) rfl rfl rfl rfl) (by decide)) gva_nil)) (by decide)
    refine GvA.ext (K := K) (C := C) (n := 6) (r := 41) (m := 60) (d := 45) ?_ (Same.refl (upd H1 p (.lst xs))) fun H2 ys us e3 n2 b2 l2 => ⟨by rw [n2.len, l2]; decide, fun q hq => ?_⟩
    · refine gva_cons (up (gv_house hC) (by decide) (by decide) (by decide)) ?_
      refine gva_cons (up (gv_lst (gva_cons pr' gva_nil) (by decide)) (by decide) (by decide) (by decide)) ?_
      refine gva_cons (up pr (by decide) (by decide) (by decide)) ?_
      refine gva_cons (up (gv_tup (p2 (by rfl) (by rfl) (by rfl) (by rfl)) (by decide)) (by decide) (by decide) (by decide)) ?_
      refine gva_cons (up (gv_lst (gva_cons (gv_tup (p2 (by rfl) (by rfl) (by rfl) (by rfl)) (by decide)) gva_nil) (by decide)) (by decide) (by decide) (by decide)) ?_
      exact gva_cons (up gv_deep (by decide) (by decide) (by decide)) gva_nil
    have e4 := same_new (o := HO.lst ys) hq
    have hp3 := e4 _ _ (e3 _ _ hp2)
    have hq3 : upd H2 q (.lst ys) q = some (.lst ys) := upd_same
    have lx := n1.len
    have ly := n2.len
    have npq : p ≠ q := ne_of_none (e3 _ _ hp2) hq
    refine ⟨p, q, xs, ys, rfl, rfl, hp3, hq3, by rw [lx, ly, l1, l2]; decide, ?_⟩
    have e14 : Same H1 (upd H2 q (.lst ys)) := (e2.trans e3).trans e4
    have s5 : Same H1 (upd (upd H2 q (.lst ys)) p (.lst (xs ++ ys))) := fun b o z => by
      rw [upd_ne (ne_of_none z hp)]
      exact e14 _ _ z
    have s0 := e1.trans s5
    have hp0 := none_back e1 hp
    have np := S0.ne_new hp0
    refine ⟨_, rfl, _, rfl, a, l, p, N, xs ++ ys, rfl, S0.but s0, hN0, by omega, np.1, np.2, upd_same, ?_, ?_, fun H3 v hv b3 S3 => ?_⟩
    · rw [List.length_append, lx, l1]
      omega
    · rw [List.length_append, lx, ly, l1, l2]
      decide
    · obtain ⟨j, hj⟩ := List.getElem?_of_mem hv
      have key : ∀ S : Addr → Prop, (∀ b, S b → H b ≠ none) → ReL K C (fun b => S b ∨ b = a ∨ b = l ∨ b = p) H3 (ts ++ us) (xs ++ ys) := fun S hS => by
        have hal : ∀ b, (S b ∨ b = a ∨ b = l) → H b ≠ none := fun b hb z => by
          rcases hb with hb | rfl | rfl
          · exact hS b hb z
          · exact (S0.ne_new z).1 rfl
          · exact (S0.ne_new z).2 rfl
        have r1 : ReL K C (fun b => S b ∨ b = a ∨ b = l ∨ b = p) H1 ts xs := ReL.set (S := fun b => S b ∨ b = a ∨ b = l) (fun b o n z y => by
          rcases y with y | y | y | y
          · exact n (.inl y)
          · exact n (.inr (.inl y))
          · exact n (.inr (.inr y))
          · rw [y, hp] at z
            cases z) _ _ (n1 _ hal)
        have r2 : ReL K C (fun b => S b ∨ b = a ∨ b = l ∨ b = p) H2 us ys := n2 _ fun b hb z => by
          rcases hb with hb | rfl | rfl | rfl
          · exact hS b hb (none_back (e1.trans e2) z)
          · exact (S0.ne_new (none_back (e1.trans e2) z)).1 rfl
          · exact (S0.ne_new (none_back (e1.trans e2) z)).2 rfl
          · rw [hp2] at z
            cases z
        have k1 : Kp (fun b => S b ∨ b = a ∨ b = l ∨ b = p) H1 (upd (upd H2 q (.lst ys)) p (.lst (xs ++ ys))) := .same s5
        have k2 : Kp (fun b => S b ∨ b = a ∨ b = l ∨ b = p) H2 (upd (upd H2 q (.lst ys)) p (.lst (xs ++ ys))) := fun b o n _ z => by
          rw [upd_ne (fun y => n (.inr (.inr (.inr y))))]
          exact e4 _ _ z
        have k3 : Kp (fun b => S b ∨ b = a ∨ b = l ∨ b = p) (upd (upd H2 q (.lst ys)) p (.lst (xs ++ ys))) H3 := .but (.inr (.inl rfl)) (.inr (.inr (.inl rfl))) b3
        exact (ReL.keep (k2.trans k3) _ _ r2).app (ReL.keep (k1.trans k3) _ _ r1)
      obtain ⟨t, ht, _⟩ := (key (fun _ => False) fun b z => z.elim).at hj
      refine k H3 v t (fun b o n1 n2 z => b3 _ _ n1 n2 (s0 _ _ z)) S3 (fun S hS => ?_) ?_
      · obtain ⟨t', ht', r⟩ := (key S hS).at hj
        rw [ht] at ht'
        obtain rfl := Option.some.inj ht'
        exact Re.set (fun b o n z y => n (.inl y)) _ _ r
      · rcases List.mem_append.mp (List.mem_of_getElem? ht) with z | z
        · exact b1 t z
        · exact b2 t z
end
end K05

set_option Elab.async false
set_option linter.all false
set_option maxRecDepth 100000
set_option maxHeartbeats 4000000
namespace K05
open PySem PySem.Spec PyProof.Rows L2 Own
/-! _law_p_bent -/
theorem call_listK {X : Cx} {K : PySem.W.Frag} (h : X.K = K) : CallR X (.type "list") (fun xs H Q => ∃ p ys, xs = [.ref p] ∧ (SqL K H p ys ∨ SqT K H p ys) ∧ ∀ l, H l = none → Q (.ref l) (upd H l (.lst ys))) := by
  subst h
  exact call_list_of
/-- new lists of two numbers each -/
def RowsL (H0 H : Hp) (xs : List V) (L : List (Int × Int)) : Prop := Paired (fun x (d : Int × Int) => ∃ q, x = V.ref q ∧ H0 q = none ∧ H q = some (.lst [.int d.1, .int d.2])) xs L
theorem RowsL.keep {H0 H H' : Hp} {xs : List V} {L : List (Int × Int)} (h : RowsL H0 H xs L) (k : ∀ q t, H0 q = none → H q = some (.lst t) → .ref q ∈ xs → H' q = some (.lst t)) : RowsL H0 H' xs L := by
  unfold RowsL at h ⊢
  induction h with
  | nil => exact .nil
  | cons a t ih =>
    obtain ⟨q, rfl, h2, h3⟩ := a
    exact .cons ⟨q, rfl, h2, k _ _ h2 h3 List.mem_cons_self⟩ (ih fun q t n e m => k q t n e (List.mem_cons_of_mem _ m))
theorem RowsL.len {H0 H : Hp} {xs : List V} {L : List (Int × Int)} (h : RowsL H0 H xs L) : xs.length = L.length := Paired.length h
theorem RowsL.at {H0 H : Hp} {xs : List V} {L : List (Int × Int)} (h : RowsL H0 H xs L) {i : Nat} {d : Int × Int} (hd : L[i]? = some d) : ∃ q, xs[i]? = some (V.ref q) ∧ H0 q = none ∧ H q = some (.lst [.int d.1, .int d.2]) := by
  obtain ⟨hl, _⟩ := List.getElem?_eq_some_iff.mp hd
  have hx : i < xs.length := by rw [h.len]; exact hl
  obtain ⟨q, h1, h2, h3⟩ := paired_at h (List.getElem?_eq_getElem hx) hd
  exact ⟨q, by rw [List.getElem?_eq_getElem hx, h1], h2, h3⟩
def rowD (d : Int × Int) : PyData := .list [.int d.1, .int d.2]
theorem dp_rows {K : PySem.W.Frag} {H0 H : Hp} : ∀ {xs : List V} {L : List (Int × Int)}, RowsL H0 H xs L → DpAll K H xs (L.map rowD)
  | _, _, .nil => .nil
  | _, _, .cons h t => by
    obtain ⟨q, rfl, _, e⟩ := h
    exact .cons (.lst (SqL.of e) (.cons (.int _) (.cons (.int _) .nil))) (dp_rows t)
theorem lay_rows : ∀ L : List (Int × Int), PyData.canLayAll0 (L.map rowD) = true ∧ PyData.depthAll (L.map rowD) ≤ 1
  | [] => ⟨rfl, Nat.zero_le _⟩
  | d :: r => by
    obtain ⟨h1, h2⟩ := lay_rows r
    constructor
    · show (PyData.canLay0 (rowD d) && PyData.canLayAll0 (r.map rowD)) = true
      rw [h1]
      rfl
    · show max (PyData.depth (rowD d)) (PyData.depthAll (r.map rowD)) ≤ 1
      have e : PyData.depth (rowD d) = 1 := rfl
      omega
theorem sh_rows (L : List (Int × Int)) : SeqAt.shaped (.list (L.map rowD)) = true := by
  obtain ⟨h1, h2⟩ := lay_rows L
  show (PyData.canLayAll0 (L.map rowD) && decide (PyData.depthAll (L.map rowD) + 1 ≤ 64)) = true
  rw [h1, decide_eq_true (show PyData.depthAll (L.map rowD) + 1 ≤ 64 by omega)]
  rfl
/-- a thing that is new stays so, while what is newer stays -/
theorem New.keep {K : PySem.W.Frag} {C : Addr} {H1 H H' : Hp} {t : Tr} {v : V} (h : New K C H1 H t v) (k : ∀ b o, H1 b = none → H b = some o → H' b = some o) : New K C H1 H' t v := fun S hS =>
  Re.set (S := fun b => H1 b ≠ none) (fun b o n _ z => n (hS b z)) _ _ (Re.keep (fun b o n _ z => k b o (Classical.byContradiction n) z) _ _ (h (fun b => H1 b ≠ none) fun b z => z))
theorem New.old {K : PySem.W.Frag} {C : Addr} {H1 H2 H : Hp} {t : Tr} {v : V} (h : New K C H2 H t v) (k : ∀ b, H2 b = none → H1 b = none) : New K C H1 H t v := fun S hS => h S fun b hb z => hS b hb (k b z)
/-- a row: a list of up to three things -/
def Row (K : PySem.W.Frag) (C : Addr) (H0 H1 H : Hp) (x : V) : Prop := ∃ q ys, x = V.ref q ∧ H0 q = none ∧ H q = some (.lst ys) ∧ ys.length ≤ 3 ∧ ∀ y ∈ ys, ∃ t, OkT t ∧ New K C H1 H t y
def Fi (K : PySem.W.Frag) (C : Addr) (H0 H : Hp) (x : V) : Prop := ∃ t, Bn 42 181 46 t ∧ New K C H0 H t x
theorem choose_L {K : PySem.W.Frag} {C : Addr} {H0 H : Hp} {B : Tr → Prop} : ∀ {ys : List V}, (∀ y ∈ ys, ∃ t, B t ∧ New K C H0 H t y) → ∃ ts, (∀ t ∈ ts, B t) ∧ NewL K C H0 H ts ys
  | [], _ => ⟨[], (fun t ht => by cases ht), fun S _ => by unfold ReL; rfl⟩
  | y :: ys, h => by
    obtain ⟨t, b, n⟩ := h y List.mem_cons_self
    obtain ⟨ts, bs, ns⟩ := choose_L fun z hz => h z (List.mem_cons_of_mem _ hz)
    refine ⟨t :: ts, fun u hu => ?_, fun S hS => ?_⟩
    · rcases List.mem_cons.mp hu with rfl | hu
      · exact b
      · exact bs u hu
    · unfold ReL
      exact ⟨y, ys, rfl, n S hS, ns S hS⟩
theorem seq_new {K : PySem.W.Frag} {C : Addr} {H0 H : Hp} {r m d n : Nat} {ys : List V} {q : Addr} (hq : H0 q = none) (e : H q = some (.lst ys)) (hl : ys.length ≤ n) (hn : n ≤ 1000) (h : ∀ y ∈ ys, ∃ t, Bn r m d t ∧ New K C H0 H t y) : ∃ t, Bn (r + 1) (n * m + 1) (d + 1) t ∧ New K C H0 H t (.ref q) := by
  obtain ⟨ts, bs, ns⟩ := choose_L h
  have l := ns.len
  refine ⟨.seq ts, (bn_seq bs).mono (Nat.le_refl _) (Nat.add_le_add_right (Nat.mul_le_mul_right _ (by omega)) _) (Nat.le_refl _), fun S hS => ?_⟩
  unfold Re
  exact ⟨q, ys, rfl, .inl e, fun z => hS q z hq, ns S hS, by omega⟩
theorem Row.fi {K : PySem.W.Frag} {C : Addr} {H0 H1 H : Hp} {x : V} (h : Row K C H0 H1 H x) (k : ∀ b, H1 b = none → H0 b = none) : Fi K C H0 H x := by
  obtain ⟨q, ys, rfl, h1, h2, h3, h4⟩ := h
  obtain ⟨t, b, n⟩ := seq_new (r := 41) (m := 60) (d := 45) (K := K) (C := C) h1 h2 h3 (by decide) fun y hy => by
    obtain ⟨t, b, n⟩ := h4 y hy
    exact ⟨t, b, n.old k⟩
  exact ⟨t, b, n⟩
theorem new_int {K : PySem.W.Frag} {C : Addr} {H1 H : Hp} {i : Int} (h : bigI (.int i) = true) : ∃ t, OkT t ∧ New K C H1 H t (.int i) := ⟨.leaf (.int i), (bn_leaf _).mono (by decide) (by decide) (by decide), fun S _ => by
  unfold Re
  exact ⟨rfl, .inl ⟨rfl, h⟩⟩⟩
def Mid2 (d : Int × Int) : Prop := 0 ≤ d.1 ∧ d.1 ≤ 2 ^ 59 ∧ 0 ≤ d.2 ∧ d.2 ≤ 2 ^ 59
theorem RowsL.row {K : PySem.W.Frag} {C : Addr} {H0 H1 H : Hp} {xs : List V} {L : List (Int × Int)} (h : RowsL H0 H xs L) (hb : ∀ d ∈ L, Mid2 d) : ∀ x ∈ xs, Row K C H0 H1 H x := fun x hx => by
  obtain ⟨j, hj⟩ := List.getElem?_of_mem hx
  obtain ⟨d, hd, q, rfl, h1, h2⟩ := prs_at h hj
  obtain ⟨b1, b2, b3, b4⟩ := hb d (List.mem_of_getElem? hd)
  refine ⟨q, _, rfl, h1, h2, by show 2 ≤ 3; decide, fun y hy => ?_⟩
  simp only [List.mem_cons, List.not_mem_nil, or_false] at hy
  rcases hy with rfl | rfl
  · exact new_int (big_of b1 (by omega))
  · exact new_int (big_of b3 (by omega))
theorem New.but {K : PySem.W.Frag} {C : Addr} {H0 H H' : Hp} {a l : Addr} {t : Tr} {v : V} (h : New K C H0 H t v) (na : H0 a ≠ none) (nl : H0 l ≠ none) (b : But2 a l H H') : New K C H0 H' t v := fun S hS =>
  Re.set (S := fun b => S b ∨ b = a ∨ b = l) (fun b o n _ z => n (.inl z)) _ _ (Re.keep (.but (.inr (.inl rfl)) (.inr (.inr rfl)) b) _ _ (h _ fun b hb => by
    rcases hb with hb | rfl | rfl
    · exact hS b hb
    · exact na
    · exact nl))
theorem Strm.some {N : Int} {H : Hp} {a l : Addr} (S : Strm N H a l) : H a ≠ none ∧ H l ≠ none := ⟨fun z => (S.ne_new z).1 rfl, fun z => (S.ne_new z).2 rfl⟩
/-- some things, the last one with a draw -/
def GvO (K : PySem.W.Frag) (C : Addr) (tb : TA) (n : Nat) : Prop := ∀ (σ : L2.St) (H : Hp) (Q : List V → Hp → Prop) (a l : Addr) (N : Int), σ[0]? = some (some (.ref a)) → Strm N H a l → 0 ≤ N → N + 1 ≤ 1000000000 →
  (∀ H' vs ts, But2 a l H H' → Strm (N + 1) H' a l → NewL K C H H' ts vs → (∀ t ∈ ts, OkT t) → ts.length = n → Q vs H') → tb σ H Q
theorem gvo_one {K : PySem.W.Frag} {C : Addr} : GvO K C (tCons (tCall (spOdd K C) [] E0 (tCons (tVar 0) tNil)) tNil) 1 := fun σ H Q a l N h0 S n0 n1 k => by
  refine ⟨_, h0, a, l, N, rfl, S, n0, n1, fun H' v t b S' n bt => k H' [v] [t] b S' (fun S hS => ?_) (fun u hu => by rw [List.mem_singleton.mp hu]; exact bt) rfl⟩
  unfold ReL
  exact ⟨v, [], rfl, n S hS, by unfold ReL; rfl⟩
theorem gvo_cons {K : PySem.W.Frag} {C : Addr} {te : TE} {tb : TA} {n : Nat} (g : Gv K C te 41 60 45) (h : GvO K C tb n) : GvO K C (tCons te tb) (n + 1) := fun σ H Q a l N h0 S n0 n1 k => by
  refine g σ H H _ (Same.refl H) fun H1 v t e1 nv b1 => h σ H1 _ a l N h0 (S.but e1) n0 n1 fun H' vs ts b2 S' ns bs lt => k H' (v :: vs) (t :: ts) (fun b o x y z => b2 _ _ x y (e1 _ _ z)) S' (fun S2 hS => ?_) (fun u hu => ?_) (by rw [List.length_cons, lt])
  · unfold ReL
    exact ⟨v, vs, rfl, (nv.but S.some.1 S.some.2 b2) S2 hS, ns S2 fun b hb z => hS b hb (none_back e1 z)⟩
  · rcases List.mem_cons.mp hu with rfl | hu
    · exact b1
    · exact bs u hu
theorem NewL.at {K : PySem.W.Frag} {C : Addr} {H0 H : Hp} {ts : List Tr} {vs : List V} (h : NewL K C H0 H ts vs) {v : V} (hv : v ∈ vs) : ∃ t ∈ ts, New K C H0 H t v := by
  obtain ⟨j, hj⟩ := List.getElem?_of_mem hv
  obtain ⟨t, ht, _⟩ := (h (fun _ => False) fun b z => z.elim).at hj
  refine ⟨t, List.mem_of_getElem? ht, fun S hS => ?_⟩
  obtain ⟨t', ht', r⟩ := (h S hS).at hj
  rw [ht] at ht'
  rw [Option.some.inj ht']
  exact r
theorem bent_pick {K : PySem.W.Frag} {C : Addr} {ta tb : TA} {n m : Nat} (ga : GvA K C ta n 41 60 45) (gb : GvO K C tb m) (hn : n ≤ 100) (hn0 : 0 < n) (hm : m ≤ 100) {D : Ends} {σ : L2.St} {H : Hp} {a l : Addr} {N : Int} (hl : 4 < σ.length) (h0 : σ[0]? = some (some (.ref a))) (S : Strm N H a l) (n0 : 0 ≤ N) (n1 : N + 2 ≤ 1000000000)
    (k : ∀ H' v t, But2 a l H H' → Strm (N + 2) H' a l → New K C H H' t v → OkT t → D.rt v H') :
    tSeq (tAsg (tLst ta) (gName 4)) (tRet (tCall spPick [] E0 (tCons (tVar 0) (tCons (tOp rCat (tVar 4) (tLst tb)) tNil)))) D σ H := by
  refine ga.set (Same.refl H) fun H1 xs ts e1 nx b1 l1 => ⟨by rw [nx.len, l1]; exact Nat.le_of_lt (small1000 (by omega)), fun p hp => ?_⟩
  have e2 := same_new (o := HO.lst xs) hp
  have hp2 : upd H1 p (.lst xs) p = some (.lst xs) := upd_same
  have s2 := e1.trans e2
  have np := (S.but e1).ne_new hp
  refine ⟨_, (by rw [List.getElem?_set_ne (by decide)]; exact h0), _, (by rw [List.getElem?_set_self hl]), ?_⟩
  refine gb _ _ _ a l N (by rw [List.getElem?_set_ne (by decide)]; exact h0) (S.but s2) n0 (by omega) fun H2 ys us b3 S3 ny b2 l2 => ⟨by rw [ny.len, l2]; exact Nat.le_of_lt (small1000 (by omega)), fun q hq => ?_⟩
  have e4 := same_new (o := HO.lst ys) hq
  have hp3 := e4 _ _ (b3 _ _ np.1 np.2 hp2)
  have nq := S3.ne_new hq
  refine ⟨p, q, xs, ys, rfl, rfl, hp3, upd_same, by rw [nx.len, ny.len, l1, l2]; exact Nat.le_of_lt (small1000 (by omega)), fun r hr => ?_⟩
  have e5 := same_new (o := HO.lst (xs ++ ys)) hr
  have e45 := e4.trans e5
  have nr := (S3.but e4).ne_new hr
  refine ⟨a, l, r, N + 1, xs ++ ys, rfl, S3.but e45, by omega, by omega, nr.1, nr.2, upd_same, by rw [List.length_append, nx.len, l1]; omega, by rw [List.length_append, nx.len, ny.len, l1, l2]; omega, fun H3 v hv b6 S6 => ?_⟩
  have b02 : But2 a l H H2 := fun b o x y z => b3 _ _ x y (s2 _ _ z)
  have b03 : But2 a l H H3 := fun b o x y z => b6 _ _ x y (e45 _ _ (b02 _ _ x y z))
  rcases List.mem_append.mp hv with hv | hv
  · obtain ⟨t, ht, nt⟩ := nx.at hv
    refine k H3 v t b03 (S6.mono (by omega)) (nt.but S.some.1 S.some.2 fun b o x y z => b6 _ _ x y (e45 _ _ (b3 _ _ x y (e2 _ _ z)))) (b1 t ht)
  · obtain ⟨t, ht, nt⟩ := ny.at hv
    have nt2 : New K C H H2 t v := nt.old fun b z => none_back s2 z
    exact k H3 v t b03 (S6.mono (by omega)) (nt2.but S.some.1 S.some.2 fun b o x y z => b6 _ _ x y (e45 _ _ z)) (b2 t ht)
theorem Fi.same {K : PySem.W.Frag} {C : Addr} {H0 H H' : Hp} {x : V} (h : Fi K C H0 H x) (e : Same H H') : Fi K C H0 H' x := by
  obtain ⟨t, b, n⟩ := h
  exact ⟨t, b, n.keep fun b o _ z => e _ _ z⟩
theorem Fi.but {K : PySem.W.Frag} {C : Addr} {H0 H H' : Hp} {a l : Addr} {x : V} (h : Fi K C H0 H x) (na : H0 a ≠ none) (nl : H0 l ≠ none) (e : But2 a l H H') : Fi K C H0 H' x := by
  obtain ⟨t, b, n⟩ := h
  exact ⟨t, b, n.but na nl e⟩
theorem cut_mem {xs : List V} {lo hi : Option Int} {x : V} (h : x ∈ cutV xs lo hi) : x ∈ xs := List.mem_of_mem_drop (List.mem_of_mem_take h)
theorem two_mem {i j : Int} (hi : 0 ≤ i ∧ i ≤ 2 ^ 59) (hj : 0 ≤ j ∧ j ≤ 2 ^ 59) {y : V} (h : y ∈ [V.int i, V.int j]) : ∃ z : Int, y = .int z ∧ 0 ≤ z ∧ z ≤ 2 ^ 59 := by
  simp only [List.mem_cons, List.not_mem_nil, or_false] at h
  rcases h with rfl | rfl
  · exact ⟨i, rfl, hi⟩
  · exact ⟨j, rfl, hj⟩
def spBent (K : PySem.W.Frag) (C : Addr) : Sp := fun vs H Q _ => ∃ (a l p : Addr) (N : Int) (xs : List V) (L : List (Int × Int)) (G : Hp), vs = [.ref a, .ref p] ∧ Strm N H a l ∧ 0 ≤ N ∧ N + 10 ≤ 1000000000 ∧ p ≠ a ∧ p ≠ l ∧ H p = some (.lst xs) ∧ Rows G H xs L ∧ xs.length ≤ 150 ∧ (∀ d ∈ L, Mid2 d) ∧
  ∀ H' v t, But2 a l H H' → Strm (N + 10) H' a l → New K C H H' t v → Bn 43 58000 47 t → Q v H'
theorem scBent : FnScope ["_law_stream_here", "_law_steps", "_law_some", "_law_way", "_law_odds", "_law_at", "_law_side", "_law_pair"] ["_law_stream_here", "_law_steps"] (defScope s_l_p_bent) := ⟨rfl, rfl, rfl, by decide +kernel, rfl, by decide +kernel, by decide +kernel⟩
section
variable {P : Program} {w : World} {K : PySem.W.Frag} {mg : Str → Option Value} {base : Heap} {C : Addr}
theorem ok_bent {f fP fD fO : Addr} {fd fdP fdD fdO : FuncData} (F : Fun K "_law_p_bent" "_law_p_bent" s_l_p_bent f fd) (T : Bt mg) (FD : Fun K "_law_draw" "_law_draw" sDraw fD fdD) (gD : mg "_law_draw" = some (.ref fD)) (bD : Binds K fdD ["_law_stream_here", "_law_many"] [])
    (FP : Fun K "_law_pick" "_law_pick" sPick fP fdP) (gP : mg "_law_pick" = some (.ref fP)) (bP : Binds K fdP ["_law_stream_here", "_law_things"] [])
    (FO : Fun K "_law_p_odd" "_law_p_odd" s_l_p_odd fO fdO) (gO : mg "_law_p_odd" = some (.ref fO)) (bO : Binds K fdO ["_law_stream_here"] []) (GO : FnOk P w K mg base CX0 8 fO fdO ["_law_stream_here"] (spOdd K C)) :
    FnOk P w K mg base CX0 9 f fd ["_law_stream_here", "_law_steps"] (spBent K C) := by
  have GP : FnOk P w K mg base CX0 2 fP fdP ["_law_stream_here", "_law_things"] spPick := ok_pick FP T FD gD bD
  have GD : FnOk P w K mg base CX0 1 fD fdD ["_law_stream_here", "_law_many"] spDraw := ok_draw FD T
  refine F.ok scBent (fun vs H Q E h => ?_) (fun cdv A outer s H vs Q E hr h => ?_)
  · obtain ⟨a, l, p, N, xs, L, G, rfl, _⟩ := h
    rfl
  · obtain ⟨a, l, p, N, xs, L, G, rfl, S0, hN0, hN1, npa, npl, hp, hx, hlen, hb, k⟩ := h
    refine ⟨_, (Evl.pss_cut (ps_par (i := 2) (j := 3) (by rfl) scBent.nd rfl rfl (by decide) rfl rfl (pa_cons (pe_lc (own := [("_law_pair", 7)]) (g := gName 7) (tt := tYes) rfl scBent.nd (pi_list (pv 1)) (blkOk_by (N := ["_law_stream_here", "_law_steps", "_law_some", "_law_way", "_law_odds", "_law_at", "_law_side", "_law_pair"]) (sc := defScope s_l_p_bent) (by decide +kernel)) (fun _ _ _ _ _ => (pg_name (i := 7) (x := "_law_pair") scBent.nd rfl (Or.inl rfl))) (fun _ _ _ _ _ => pts_nil) (fun _ _ _ _ _ => (pe_callTy (call_listK (K := K) rfl) (by rfl) T.list (by decide +kernel) (pa_cons (pv 7) pa_nil)))) (pa_cons (pe_call GD (hr.mono (by decide)) (by rfl) gD FD.kp bD .nil pass0 (pa_cons (pv 0) (pa_cons pe_int pa_nil))) pa_nil)) (by rfl))
  (Evl.pss_cut (ps_if (PW.pt (pw_or (pt_cmpR (op_eqD hr.units) (pv 2) (pe_lst pa_nil) (nomark _)) (pw_or1 (pt_cmpR op_eq (pv 3) pe_int (nomark _))))) (pss_cons (ps_set (i := 4) scBent.nd rfl (Or.inl rfl) (pe_lst (pa_cons (pe_lst (pa_cons (pe_tup (pa_cons pe_int (pa_cons pe_int pa_nil))) pa_nil)) (pa_cons (pe_lst (pa_cons (pe_tup (pa_cons pe_int (pa_cons pe_int pa_nil))) pa_nil)) (pa_cons (pe_lst (pa_cons (pe_tup (pa_cons pe_int (pa_cons pe_int pa_nil))) pa_nil)) (pa_cons (pe_lst (pa_cons (pe_tup (pa_cons pe_int (pa_cons pe_int pa_nil))) (pa_cons (pe_tup (pa_cons pe_int (pa_cons pe_int pa_nil))) pa_nil))) (pa_cons (pe_lst (pa_cons (pe_tup (pa_cons pe_int (pa_cons pe_int pa_nil))) (pa_cons (pe_tup (pa_cons pe_int (pa_cons pe_int pa_nil))) pa_nil))) (pa_cons (pe_lst (pa_cons (pe_tup (pa_cons pe_int (pa_cons pe_int pa_nil))) (pa_cons (pe_tup (pa_cons pe_int (pa_cons pe_int pa_nil))) (pa_cons (pe_tup (pa_cons pe_int (pa_cons pe_int pa_nil))) pa_nil)))) (pa_cons (pe_lst (pa_cons (pe_tup (pa_cons pe_int (pa_cons pe_int pa_nil))) (pa_cons (pe_tup (pa_cons pe_int (pa_cons pe_int pa_nil))) pa_nil))) pa_nil)))))))))
  (pss_one (ps_ret (pe_call GP (hr.mono (by decide)) (by rfl) gP FP.kp bP .nil pass0 (pa_cons (pv 0) (pa_cons (pe_op op_cat (pv 4) (pe_lst (pa_cons (pe_lst (pa_cons (pe_tup (pa_cons pe_int (pa_cons pe_int pa_nil))) (pa_cons (pe_tup (pa_cons pe_int (pa_cons pe_int pa_nil))) (pa_cons (pe_tup (pa_cons pe_int (pa_cons pe_int pa_nil))) pa_nil)))) (pa_cons (pe_lst (pa_cons (pe_tup (pa_cons (pe_un un_neg pe_int) (pa_cons pe_int pa_nil))) (pa_cons (pe_tup (pa_cons pe_int (pa_cons pe_int pa_nil))) pa_nil))) (pa_cons (pe_lst (pa_cons (pe_tup (pa_cons pe_int (pa_cons (pe_un un_neg pe_int) pa_nil))) (pa_cons (pe_tup (pa_cons pe_int (pa_cons pe_int pa_nil))) pa_nil))) (pa_cons (pe_call GO (hr.mono (by decide)) (by rfl) gO FO.kp bO .nil pass0 (pa_cons (pv 0) pa_nil)) pa_nil)))))) pa_nil)))))) pss_nil)
  (Evl.pss_cut (ps_par (i := 5) (j := 6) (by rfl) scBent.nd rfl rfl (by decide) rfl rfl (pa_cons (pe_call GD (hr.mono (by decide)) (by rfl) gD FD.kp bD .nil pass0 (pa_cons (pv 0) (pa_cons (pe_callB call_len_seq (by rfl) T.len (by decide +kernel) (pa_cons (pv 2) pa_nil)) pa_nil))) (pa_cons (pe_call GD (hr.mono (by decide)) (by rfl) gD FD.kp bD .nil pass0 (pa_cons (pv 0) (pa_cons pe_int pa_nil))) pa_nil)) (by rfl))
  (Evl.pss_cut (ps_if (pt_cmpR op_eq (pv 3) pe_int (nomark _)) (pss_one (ps_ret (pe_slice sl_list (pv 2) po_none (po_some (pe_un un_neg pe_int))))) pss_nil)
  (Evl.pss_cut (ps_if (pt_cmpR op_eq (pv 3) pe_int (nomark _)) (pss_one (ps_ret (pe_op op_cat (pe_slice sl_list (pv 2) po_none (po_some (pv 5))) (pe_slice sl_list (pv 2) (po_some (pe_op op_add (pv 5) pe_int)) po_none)))) pss_nil)
  (Evl.pss_cut (ps_if (pt_cmpR op_eq (pv 3) pe_int (nomark _)) (pss_one (ps_ret (pe_op op_cat (pe_slice sl_list (pv 2) po_none (po_some (pe_op op_add (pv 5) pe_int))) (pe_slice sl_list (pv 2) (po_some (pv 5)) po_none)))) pss_nil)
  (Evl.pss_cut (ps_if (pt_cmpR op_eq (pv 3) pe_int (nomark _)) (pss_one (ps_ret (pe_revL (pv 2)))) pss_nil)
  (Evl.pss_cut (ps_if (pt_cmpR op_eq (pv 3) pe_int (nomark _)) (pss_one (ps_ret (pe_op op_cat (pe_op op_cat (pe_slice sl_list (pv 2) po_none (po_some (pv 5))) (pe_lst (pa_cons (pe_call GO (hr.mono (by decide)) (by rfl) gO FO.kp bO .nil pass0 (pa_cons (pv 0) pa_nil)) pa_nil))) (pe_slice sl_list (pv 2) (po_some (pv 5)) po_none)))) pss_nil)
  (Evl.pss_cut (ps_if (pt_cmpR op_eq (pv 3) pe_int (nomark _)) (pss_one (ps_asg (pe_op op_cat (pe_ix ix_list (pv 2) (pv 5) (fun _ _ => rfl)) (pe_lst (pa_cons pe_int pa_nil))) (pg_sub (pv 2) (pv 5) set_list))) pss_nil)
  (Evl.pss_cut (ps_if (pt_cmpR op_eq (pv 3) pe_int (nomark _)) (pss_one (ps_asg (pe_slice sl_list (pe_ix ix_list (pv 2) (pv 5) (fun _ _ => rfl)) po_none (po_some pe_int)) (pg_sub (pv 2) (pv 5) set_list))) pss_nil)
  (Evl.pss_cut (ps_if (pt_cmpR op_eq (pv 3) pe_int (nomark _)) (pss_one (ps_asg (pe_call GO (hr.mono (by decide)) (by rfl) gO FO.kp bO .nil pass0 (pa_cons (pv 0) pa_nil)) (pg_sub (pe_ix ix_list (pv 2) (pv 5) (fun _ _ => rfl)) (pv 6) set_list))) pss_nil)
  (Evl.pss_cut (ps_if (pt_cmpR op_gt (pv 3) pe_int (nomark _)) (pss_one (ps_asg (pe_op op_add (pe_ix ix_list (pe_ix ix_list (pv 2) (pv 5) (fun _ _ => rfl)) (pv 6) (fun _ _ => rfl)) (pe_call GP (hr.mono (by decide)) (by rfl) gP FP.kp bP .nil pass0 (pa_cons (pv 0) (pa_cons (pe_lst (pa_cons (pe_un un_neg pe_int) (pa_cons pe_int pa_nil))) pa_nil)))) (pg_sub (pe_ix ix_list (pv 2) (pv 5) (fun _ _ => rfl)) (pv 6) set_list))) pss_nil)
  (pss_one (ps_ret (pv 2))))))))))))))), ?_⟩
    have hlL := hx.len
    refine ⟨fun σ' H1 => ∃ (D : Addr) (ys : List V) (way : Int), σ' = [some (.ref a), some (.ref p), some (.ref D), some (.int way), none, none, none, none] ∧ But2 a l H H1 ∧ Strm (N + 1) H1 a l ∧ H D = none ∧ H1 D = some (.lst ys) ∧ RowsL H H1 ys L ∧ 0 ≤ way ∧ way < 11 ∧ V.ref D ∉ ys, ?_, ?_⟩
    · refine ⟨_, rfl, p, rfl, ⟨_, SqL.of hp⟩, fun D hD => ?_⟩
      refine lc_it (walk_list (xs := xs)) (fun i H' => Same H H' ∧ ∃ acc, H' D = some (.lst acc) ∧ RowsL H H' acc (L.take i) ∧ acc.length = i ∧ V.ref D ∉ acc) ⟨same_new hD, [], upd_same, by rw [List.take_zero]; exact .nil, rfl, List.not_mem_nil⟩ (fun i H' _ q => SqL.of (q.1 _ _ hp)) ?_ ?_
      · rintro i x H3 H4 hi ⟨q1, acc, a3, r3, l3, nm⟩ ⟨rfl, hxi⟩
        obtain ⟨d, hd, q, rfl, _, hq⟩ := prs_at hx hxi
        dsimp only [tYes]
        refine ⟨rfl, iteT ⟨_, rfl, q, _, rfl, .inr (SqT.of (q1 _ _ hq)), fun u hu => ?_⟩⟩
        have su := same_new (o := HO.lst [.int d.1, .int d.2]) hu
        have nu := none_back q1 hu
        have nuD : u ≠ D := fun z => by
          rw [z, a3] at hu
          cases hu
        refine ⟨acc, su _ _ a3, by rw [l3]; exact small1000 (by omega), fun b o z => ?_, _, upd_same, ?_, by rw [List.length_append, l3]; rfl, fun z => ?_⟩
        · rw [upd_ne (ne_of_none z hD)]
          exact su _ _ (q1 _ _ z)
        · rw [List.take_add_one, hd]
          refine paired_snoc ⟨u, rfl, nu, ?_⟩ (r3.keep fun q t n e m => ?_)
          · rw [upd_ne (fun z => nm (by rw [← z]; exact m))]
            exact su _ _ e
          · rw [upd_ne nuD]
            exact upd_same
        · rcases List.mem_append.mp z with z | z
          · exact nm z
          · exact nuD (V.ref.inj (List.mem_singleton.mp z)).symm
      · rintro H3 ⟨q1, acc, a3, r3, l3, nm⟩
        rw [hlL, List.take_length] at r3
        refine ⟨_, rfl, a, l, N, 11, rfl, S0.but q1, hN0, by omega, by decide, by decide, fun H4 d d0 d1 b4 S4 => ?_⟩
        have nD := S0.ne_new hD
        refine ⟨_, _, rfl, D, acc, d, rfl, fun b o n1 n2 z => b4 _ _ n1 n2 (q1 _ _ z), S4, hD, b4 _ _ nD.1 nD.2 a3, r3.keep fun q t n e _ => ?_, d0, d1, nm⟩
        have nq := S0.ne_new n
        exact b4 _ _ nq.1 nq.2 e
    rintro σ' H1 ⟨D, ys, way, rfl, b1, S1, hD, hD1, r1, w0, w1, nm⟩
    have ly : ys.length = L.length := r1.len
    have back : ∀ b, H1 b = none → H b = none := fun b z => b1.fresh S1 z
    have nD := S0.ne_new hD
    have nb0 : ∀ b, H b = none → b ≠ a ∧ b ≠ l := fun b z => S0.ne_new z
    have fin : ∀ (H' : Hp) (v : V) (t : Tr), But2 a l H H' → (∃ j : Int, j ≤ 9 ∧ Strm (N + 1 + j) H' a l) → New K C H H' t v → Bn 43 58000 47 t → Q v H' := fun H' v t b ⟨j, hj, S⟩ n bt => k H' v t b (S.mono (by omega)) n bt
    refine ⟨fun σ' H2 => σ' = [some (.ref a), some (.ref p), some (.ref D), some (.int way), none, none, none, none] ∧ Same H1 H2 ∧ ys ≠ [] ∧ way ≠ 0, ?_, ?_⟩
    · refine ⟨_, rfl, Nat.zero_le _, fun e he => ?_⟩
      have s2 := same_new (o := HO.lst ([] : List V)) he
      refine ⟨.list (L.map rowD), .list [], .lst (SqL.of (s2 _ _ hD1)) (dp_rows (r1.keep fun q t _ e _ => s2 _ _ e)), .lst (SqL.of upd_same) .nil, sh_rows L, rfl, _, rfl, ?_⟩
      have cc : ∀ {u : V}, atomV u = true → bigI u = true → Gv K C (tC u) 0 0 3 := fun h b => gv_c h b
      have q0 : GvA K C tNil 0 0 0 3 := gva_nil
      have q1 : GvA K C tNil 0 1 1 4 := gva_nil
      have q2 : GvA K C tNil 0 41 60 45 := gva_nil
      have pp : ∀ {te tf : TE}, Gv K C te 0 0 3 → Gv K C tf 0 0 3 → Gv K C (tTup (tCons te (tCons tf tNil))) 1 1 4 := fun g h => gv_tup (gva_cons g (gva_cons h q0)) (by decide)
      have l1 : ∀ {t1 : TE}, Gv K C t1 1 1 4 → Gv K C (tLst (tCons t1 tNil)) 41 60 45 := fun g => (gv_lst (gva_cons g q1) (by decide)).mono (by decide) (by decide) (by decide)
      have l2 : ∀ {t1 t2 : TE}, Gv K C t1 1 1 4 → Gv K C t2 1 1 4 → Gv K C (tLst (tCons t1 (tCons t2 tNil))) 41 60 45 := fun g h => (gv_lst (gva_cons g (gva_cons h q1)) (by decide)).mono (by decide) (by decide) (by decide)
      have l3 : ∀ {t1 t2 t3 : TE}, Gv K C t1 1 1 4 → Gv K C t2 1 1 4 → Gv K C t3 1 1 4 → Gv K C (tLst (tCons t1 (tCons t2 (tCons t3 tNil)))) 41 60 45 := fun g h i => (gv_lst (gva_cons g (gva_cons h (gva_cons i q1))) (by decide)).mono (by decide) (by decide) (by decide)
      have ci : ∀ {i : Int}, bigI (.int i) = true → Gv K C (tC (.int i)) 0 0 3 := fun b => gv_c rfl b
      have S2 := S1.but s2
      have last : ∀ H' v t, But2 a l (upd H1 e (.lst [])) H' → Strm (N + 1 + 2) H' a l → New K C (upd H1 e (.lst [])) H' t v → OkT t → Q v H' := fun H' v t b6 S6 nt bt =>
        fin H' v t (fun b o x y z => b6 _ _ x y (s2 _ _ (b1 _ _ x y z))) ⟨2, by decide, S6⟩ (nt.old fun b z => back b (none_back s2 z)) (bt.mono (by decide) (by decide) (by decide))
      cases L with
      | nil =>
        refine iteT (iteT ?_)
        refine bent_pick (a := a) (l := l) (n := 7) (m := 4) ?_ ?_ (by decide) (by decide) (by decide) (by show 4 < 8; decide) rfl S2 (by omega) (by omega) last
        · exact gva_cons (l1 (pp (ci (by decide)) (ci (by decide)))) (gva_cons (l1 (pp (ci (by decide)) (ci (by decide)))) (gva_cons (l1 (pp (ci (by decide)) (ci (by decide)))) (gva_cons (l2 (pp (ci (by decide)) (ci (by decide))) (pp (ci (by decide)) (ci (by decide)))) (gva_cons (l2 (pp (ci (by decide)) (ci (by decide))) (pp (ci (by decide)) (ci (by decide))))
            (gva_cons (l3 (pp (ci (by decide)) (ci (by decide))) (pp (ci (by decide)) (ci (by decide))) (pp (ci (by decide)) (ci (by decide)))) (gva_cons (l2 (pp (ci (by decide)) (ci (by decide))) (pp (ci (by decide)) (ci (by decide)))) q2))))))
        · exact gvo_cons (l3 (pp (ci (by decide)) (ci (by decide))) (pp (ci (by decide)) (ci (by decide))) (pp (ci (by decide)) (ci (by decide)))) (gvo_cons (l2 (pp (gv_neg (by decide)) (ci (by decide))) (pp (ci (by decide)) (ci (by decide)))) (gvo_cons (l2 (pp (ci (by decide)) (gv_neg (by decide))) (pp (ci (by decide)) (ci (by decide)))) gvo_one))
      | cons d0 L0 =>
        refine iteF ⟨_, rfl, rfl, _, rfl, ite2 (fun hc => ?_) (fun hc => ?_)⟩
        · refine bent_pick (a := a) (l := l) (n := 7) (m := 4) ?_ ?_ (by decide) (by decide) (by decide) (by show 4 < 8; decide) rfl S2 (by omega) (by omega) last
          · exact gva_cons (l1 (pp (ci (by decide)) (ci (by decide)))) (gva_cons (l1 (pp (ci (by decide)) (ci (by decide)))) (gva_cons (l1 (pp (ci (by decide)) (ci (by decide)))) (gva_cons (l2 (pp (ci (by decide)) (ci (by decide))) (pp (ci (by decide)) (ci (by decide)))) (gva_cons (l2 (pp (ci (by decide)) (ci (by decide))) (pp (ci (by decide)) (ci (by decide))))
              (gva_cons (l3 (pp (ci (by decide)) (ci (by decide))) (pp (ci (by decide)) (ci (by decide))) (pp (ci (by decide)) (ci (by decide)))) (gva_cons (l2 (pp (ci (by decide)) (ci (by decide))) (pp (ci (by decide)) (ci (by decide)))) q2))))))
          · exact gvo_cons (l3 (pp (ci (by decide)) (ci (by decide))) (pp (ci (by decide)) (ci (by decide))) (pp (ci (by decide)) (ci (by decide)))) (gvo_cons (l2 (pp (gv_neg (by decide)) (ci (by decide))) (pp (ci (by decide)) (ci (by decide)))) (gvo_cons (l2 (pp (ci (by decide)) (gv_neg (by decide))) (pp (ci (by decide)) (ci (by decide)))) gvo_one))
        · refine ⟨rfl, s2, fun z => ?_, fun z => hc (by rw [z]; exact decide_eq_true rfl)⟩
          rw [z] at ly
          cases ly
    rintro σ' H2 ⟨rfl, s2, ny, w00⟩
    have hal := S0.some
    obtain ⟨n0, hn0⟩ : ∃ n0, n0 = ys.length := ⟨_, rfl⟩
    have hn9 : n0 ≤ 150 := by omega
    have hnp : 0 < n0 := by
      cases ys with
      | nil => exact absurd rfl ny
      | cons y r =>
        rw [hn0]
        exact Nat.succ_pos _
    have S2 := S1.but s2
    have ret : ∀ (H' : Hp) (E : Addr) (rs : List V), But2 a l H H' → (∃ j : Int, j ≤ 9 ∧ Strm (N + 1 + j) H' a l) → H E = none → H' E = some (.lst rs) → rs.length ≤ 320 → (∀ x ∈ rs, Fi K C H H' x) → Q (.ref E) H' := fun H' E rs b S e1 e2 hl hf => by
      obtain ⟨t, bt, nt⟩ := seq_new (r := 42) (m := 181) (d := 46) e1 e2 hl (by decide) hf
      exact fin H' _ t b S nt (bt.mono (by decide) (by decide) (by decide))
    refine ⟨fun σ' H3 => ∃ (k sd : Nat), σ' = [some (.ref a), some (.ref p), some (.ref D), some (.int way), none, some (.int k), some (.int sd), none] ∧ k < n0 ∧ sd < 2 ∧ But2 a l H H3 ∧ Strm (N + 1 + 2) H3 a l ∧ H3 D = some (.lst ys) ∧ RowsL H H3 ys L, ?_, ?_⟩
    · have hD2 := s2 _ _ hD1
      refine ⟨_, rfl, _, rfl, D, ys, rfl, .inl (SqL.of hD2), a, l, _, _, rfl, S2, by omega, by omega, by omega, by omega, fun H3 d d0 d1 b3 S3 => ?_⟩
      refine ⟨_, rfl, a, l, _, 2, rfl, S3, by omega, by omega, by decide, by decide, fun H4 e e0 e1 b4 S4 => ?_⟩
      obtain ⟨k, rfl⟩ := Int.eq_ofNat_of_zero_le d0
      obtain ⟨sd, rfl⟩ := Int.eq_ofNat_of_zero_le e0
      have b24 := b3.trans b4
      refine ⟨_, _, rfl, k, sd, rfl, by omega, by omega, fun b o x y z => b24 _ _ x y (s2 _ _ (b1 _ _ x y z)), S4.mono (by omega), b24 _ _ nD.1 nD.2 hD2, (r1.keep fun q t n e _ => b24 _ _ (nb0 _ n).1 (nb0 _ n).2 (s2 _ _ e))⟩
    rintro σ' H3 ⟨k, sd, rfl, hk, hsd, b3, S3, hD3, r3⟩
    have hal3 : ∀ b, H3 b = none → H b = none := fun b z => b3.fresh S3 z
    have rows3 : ∀ x ∈ ys, Fi K C H H3 x := fun x hx => (r3.row (H1 := H3) hb x hx).fi hal3
    have cut3 : ∀ {lo hi : Option Int}, ∀ x ∈ cutV ys lo hi, Fi K C H H3 x := fun x hx => rows3 x (cut_mem hx)
    have cl : ∀ (lo hi : Option Int), (cutV ys lo hi).length ≤ 150 := fun lo hi => Nat.le_trans (cutV_length _ _ _) (by omega)
    have sm : ∀ {n : Nat}, n ≤ 1000 → n ≤ sizeLine := fun h => Nat.le_of_lt (small1000 h)
    have bS : ∀ {H' : Hp}, Same H3 H' → But2 a l H H' := fun e b o x y z => e _ _ (b3 _ _ x y z)
    have st0 : ∀ (w1 : Int) {c : Bool}, c = decide (V.int way = V.int w1) → ¬ c = true → way ≠ w1 := fun w1 c e h z => h (by rw [e, z]; exact decide_eq_true rfl)
    refine ⟨fun σ' H' => σ' = [some (.ref a), some (.ref p), some (.ref D), some (.int way), none, some (.int k), some (.int sd), none] ∧ H3 = H' ∧ way ≠ 1, ⟨_, rfl, rfl, _, rfl, ite2 (fun hc => ?_) (fun hc => ⟨rfl, rfl, st0 1 rfl hc⟩)⟩, ?_⟩
    · refine ⟨_, rfl, _, rfl, _, rfl, D, ys, rfl, SqL.of hD3, fun e he => ?_⟩
      have s4 := same_new (o := HO.lst (cutV ys none (some (-1)))) he
      exact ret _ e _ (bS s4) ⟨2, by decide, S3.but s4⟩ (hal3 _ he) upd_same (Nat.le_trans (cl _ _) (by decide)) fun x hx => (cut3 x hx).same s4
    rintro σ' H' ⟨rfl, rfl, w10⟩
    have two : ∀ (lo1 hi1 lo2 hi2 : Option Int) (e : Addr), H3 e = none → ∀ (g : Addr), upd H3 e (.lst (cutV ys lo1 hi1)) g = none → rCat (.ref e) (.ref g) (upd (upd H3 e (.lst (cutV ys lo1 hi1))) g (.lst (cutV ys lo2 hi2))) Q := fun lo1 hi1 lo2 hi2 e he g hg => by
      have s4 := same_new (o := HO.lst (cutV ys lo1 hi1)) he
      have s5 := same_new (o := HO.lst (cutV ys lo2 hi2)) hg
      have c1 := cl lo1 hi1
      have c2 := cl lo2 hi2
      refine ⟨e, g, _, _, rfl, rfl, s5 _ _ upd_same, upd_same, sm (by omega), fun r hr => ?_⟩
      have s6 := same_new (o := HO.lst (cutV ys lo1 hi1 ++ cutV ys lo2 hi2)) hr
      have s46 := (s4.trans s5).trans s6
      refine ret _ r _ (bS s46) ⟨2, by decide, S3.but s46⟩ (hal3 _ (none_back (s4.trans s5) hr)) upd_same (by rw [List.length_append]; omega) fun x hx => ?_
      rcases List.mem_append.mp hx with hx | hx
      · exact (cut3 x hx).same s46
      · exact (cut3 x hx).same s46
    refine ⟨fun σ' H' => σ' = [some (.ref a), some (.ref p), some (.ref D), some (.int way), none, some (.int k), some (.int sd), none] ∧ H3 = H' ∧ way ≠ 2, ⟨_, rfl, rfl, _, rfl, ite2 (fun hc => ?_) (fun hc => ⟨rfl, rfl, st0 2 rfl hc⟩)⟩, ?_⟩
    · refine ⟨_, rfl, _, rfl, _, rfl, D, ys, rfl, SqL.of hD3, fun e he => ?_⟩
      exact ⟨_, rfl, _, rfl, _, _, rfl, rfl, _, rfl, D, ys, rfl, SqL.of (same_new he _ _ hD3), fun g hg => two _ _ _ _ e he g hg⟩
    rintro σ' H' ⟨rfl, rfl, w20⟩
    refine ⟨fun σ' H' => σ' = [some (.ref a), some (.ref p), some (.ref D), some (.int way), none, some (.int k), some (.int sd), none] ∧ H3 = H' ∧ way ≠ 3, ⟨_, rfl, rfl, _, rfl, ite2 (fun hc => ?_) (fun hc => ⟨rfl, rfl, st0 3 rfl hc⟩)⟩, ?_⟩
    · refine ⟨_, rfl, _, rfl, _, _, rfl, rfl, _, rfl, D, ys, rfl, SqL.of hD3, fun e he => ?_⟩
      exact ⟨_, rfl, _, rfl, _, rfl, D, ys, rfl, SqL.of (same_new he _ _ hD3), fun g hg => two _ _ _ _ e he g hg⟩
    rintro σ' H' ⟨rfl, rfl, w30⟩
    refine ⟨fun σ' H' => σ' = [some (.ref a), some (.ref p), some (.ref D), some (.int way), none, some (.int k), some (.int sd), none] ∧ H3 = H' ∧ way ≠ 4, ⟨_, rfl, rfl, _, rfl, ite2 (fun hc => ?_) (fun hc => ⟨rfl, rfl, st0 4 rfl hc⟩)⟩, ?_⟩
    · refine ⟨_, rfl, D, ys, rfl, SqL.of hD3, fun e he => ?_⟩
      have s4 := same_new (o := HO.lst ys.reverse) he
      exact ret _ e _ (bS s4) ⟨2, by decide, S3.but s4⟩ (hal3 _ he) upd_same (by rw [List.length_reverse]; omega) fun x hx => (rows3 x (List.mem_reverse.mp hx)).same s4
    rintro σ' H' ⟨rfl, rfl, w40⟩
    refine ⟨fun σ' H' => σ' = [some (.ref a), some (.ref p), some (.ref D), some (.int way), none, some (.int k), some (.int sd), none] ∧ H3 = H' ∧ way ≠ 5, ⟨_, rfl, rfl, _, rfl, ite2 (fun hc => ?_) (fun hc => ⟨rfl, rfl, st0 5 rfl hc⟩)⟩, ?_⟩
    · refine ⟨_, rfl, _, rfl, _, rfl, D, ys, rfl, SqL.of hD3, fun e he => ?_⟩
      have s4 := same_new (o := HO.lst (cutV ys none (some (k : Int)))) he
      have ne := S3.ne_new he
      refine ⟨_, rfl, a, l, _, rfl, S3.but s4, by omega, by omega, fun H5 v t b5 S5 n5 t5 => ⟨by show 1 ≤ sizeLine; decide, fun g hg => ?_⟩⟩
      have s6 := same_new (o := HO.lst [v]) hg
      have c1 := cl none (some (k : Int))
      have c2 := cl (some (k : Int)) none
      have he5 := b5 _ _ ne.1 ne.2 (upd_same (H := H3) (a := e) (o := .lst (cutV ys none (some (k : Int)))))
      refine ⟨e, g, _, _, rfl, rfl, s6 _ _ he5, upd_same, sm (by show _ + 1 ≤ 1000; omega), fun r hr => ?_⟩
      have s7 := same_new (o := HO.lst (cutV ys none (some (k : Int)) ++ [v])) hr
      have b35 : But2 a l H3 H5 := fun b o x y z => b5 _ _ x y (s4 _ _ z)
      have s67 := s6.trans s7
      refine ⟨_, rfl, _, rfl, _, rfl, D, ys, rfl, SqL.of (s67 _ _ (b35 _ _ nD.1 nD.2 hD3)), fun u hu => ?_⟩
      have s8 := same_new (o := HO.lst (cutV ys (some (k : Int)) none)) hu
      refine ⟨r, u, _, _, rfl, rfl, s8 _ _ upd_same, upd_same, sm (by rw [List.length_append]; show _ + 1 + _ ≤ 1000; omega), fun c hc => ?_⟩
      have s9 := same_new (o := HO.lst (cutV ys none (some (k : Int)) ++ [v] ++ cutV ys (some (k : Int)) none)) hc
      have s69 := (s67.trans s8).trans s9
      have bb : But2 a l H H5 := fun b o x y z => b35 _ _ x y (b3 _ _ x y z)
      have old : ∀ x ∈ ys, Fi K C H (upd (upd (upd (upd H5 g (.lst [v])) r (.lst (cutV ys none (some (k : Int)) ++ [v]))) u (.lst (cutV ys (some (k : Int)) none))) c (.lst (cutV ys none (some (k : Int)) ++ [v] ++ cutV ys (some (k : Int)) none))) x := fun x hx => ((rows3 x hx).but hal.1 hal.2 b35).same s69
      refine ret _ c _ (fun b o x y z => s69 _ _ (bb _ _ x y z)) ⟨3, by decide, (S5.but s69).mono (by omega)⟩ (bb.fresh S5 (none_back (s67.trans s8) hc)) upd_same (by rw [List.length_append, List.length_append]; show _ + 1 + _ ≤ 320; omega) fun x hx => ?_
      rcases List.mem_append.mp hx with hx | hx
      · rcases List.mem_append.mp hx with hx | hx
        · exact old x (cut_mem hx)
        · obtain rfl := List.mem_singleton.mp hx
          exact ⟨t, t5.mono (by decide) (by decide) (by decide), (n5.keep fun b o _ z => s69 _ _ z).old fun b z => hal3 _ (none_back s4 z)⟩
      · exact old x (cut_mem hx)
    rintro σ' H' ⟨rfl, rfl, w50⟩
    have hkL : k < L.length := by omega
    obtain ⟨d, hd⟩ : ∃ d, L[k]? = some d := ⟨_, List.getElem?_eq_getElem hkL⟩
    obtain ⟨m1, m2, m3, m4⟩ := hb d (List.mem_of_getElem? hd)
    obtain ⟨q, hq, hq0, _⟩ := r3.at hd
    have nq := nb0 _ hq0
    have nqD : q ≠ D := fun z => nm (by rw [← z]; exact List.mem_of_getElem? hq)
    have row_at : ∀ {H' : Hp}, RowsL H H' ys L → H' q = some (.lst [.int d.1, .int d.2]) := fun r => by
      obtain ⟨q', e1, _, e3⟩ := r.at hd
      rw [hq] at e1
      rw [V.ref.inj (Option.some.inj e1)]
      exact e3
    have atk : atI ys (k : Int) = some (.ref q) := at_of (j := k) rfl hq
    have ixk : ixN ys.length (k : Int) = some k := Evl.ixN_nat (by omega)
    have eq1 : ∀ {w1 : Int} {c : Bool}, c = decide (V.int way = V.int w1) → c = true → way = w1 := fun e h => V.int.inj (of_decide_eq_true (e.symm.trans h))
    -- a row is put in another's place
    have put : ∀ (H' : Hp) (c : Addr) (us : List V), RowsL H H' ys L → H c = none → c ≠ D → H' c = some (.lst us) → us.length ≤ 3 → (∀ y ∈ us, ∃ z : Int, y = .int z ∧ 0 ≤ z ∧ z ≤ 2 ^ 59) →
        ∃ zs, upd H' D (.lst (ys.set k (.ref c))) D = some (.lst zs) ∧ zs.length ≤ 150 ∧ ∀ x ∈ zs, Fi K C H (upd H' D (.lst (ys.set k (.ref c)))) x := fun H' c us r e2 e3 e4 e5 e6 => by
      refine ⟨ys.set k (.ref c), upd_same, by rw [List.length_set]; omega, fun x hx => ?_⟩
      rcases List.mem_or_eq_of_mem_set hx with hx | rfl
      · refine ((RowsL.row (H1 := H) (r.keep fun q t n e m => ?_) hb) x hx).fi fun b z => z
        rw [upd_ne (fun z => nm (by rw [← z]; exact m))]
        exact e
      · refine Row.fi (H1 := H) ⟨c, us, rfl, e2, by rw [upd_ne e3]; exact e4, e5, fun y hy => ?_⟩ fun b z => z
        obtain ⟨z, rfl, z0, z1⟩ := e6 y hy
        exact new_int (big_of z0 (by omega))
    have sub2 : ∀ {H' H'' : Hp}, But2 a l H H' → Same H' H'' → But2 a l H H'' := fun b e c o x y z => e _ _ (b _ _ x y z)
    have rsame : ∀ {H' H'' : Hp}, RowsL H H' ys L → Same H' H'' → RowsL H H'' ys L := fun r e => r.keep fun q t _ z _ => e _ _ z
    have toD : ∀ {H' : Hp} {o : HO}, But2 a l H H' → But2 a l H (upd H' D o) := fun b c o x y z => by
      rw [upd_ne (fun w => by rw [w, hD] at z; cases z)]
      exact b _ _ x y z
    refine ⟨fun σ' H' => σ' = [some (.ref a), some (.ref p), some (.ref D), some (.int way), none, some (.int k), some (.int sd), none] ∧ But2 a l H H' ∧ Strm (N + 1 + 2) H' a l ∧ ∃ zs, H' D = some (.lst zs) ∧ zs.length ≤ 150 ∧ (∀ x ∈ zs, Fi K C H H' x) ∧ (6 < way → zs = ys ∧ RowsL H H' ys L), ⟨_, rfl, rfl, _, rfl, ite2 (fun hc => ?_) (fun hc => ?_)⟩, ?_⟩
    · have ew := eq1 rfl hc
      refine ⟨_, rfl, _, rfl, D, ys, (k : Int), .ref q, rfl, rfl, SqL.of hD3, atk, Nat.succ_le_of_lt (by decide), fun e he => ?_⟩
      have s4 := same_new (o := HO.lst [V.int 0]) he
      refine ⟨q, e, _, _, rfl, rfl, s4 _ _ (row_at r3), upd_same, by show 3 ≤ sizeLine; decide, fun c hc2 => ?_⟩
      have s5 := same_new (o := HO.lst ([V.int d.1, V.int d.2] ++ [V.int 0])) hc2
      have s45 := s4.trans s5
      have hc0 := hal3 _ (none_back s4 hc2)
      have ncD : c ≠ D := fun z => by
        rw [z, s4 _ _ hD3] at hc2
        cases hc2
      refine ⟨_, rfl, _, rfl, D, ys, (k : Int), k, rfl, rfl, s45 _ _ hD3, ixk, ?_⟩
      obtain ⟨zs, y1, y2, y3⟩ := put _ c _ (rsame r3 s45) hc0 ncD upd_same (by show 3 ≤ 3; decide) fun y hy => by
        rcases List.mem_append.mp hy with hy | hy
        · exact two_mem ⟨m1, m2⟩ ⟨m3, m4⟩ hy
        · exact ⟨0, List.mem_singleton.mp hy, by decide, by decide⟩
      exact ⟨rfl, toD (bS s45), (S3.but s45).upd nD.1 nD.2, zs, y1, y2, y3, fun z => by omega⟩
    · exact ⟨rfl, b3, S3, ys, hD3, by omega, rows3, fun _ => ⟨rfl, r3⟩⟩
    rintro σ' H4 ⟨rfl, b4, S4, zs, hD4, lz, fz, ez⟩
    refine ⟨fun σ' H' => σ' = [some (.ref a), some (.ref p), some (.ref D), some (.int way), none, some (.int k), some (.int sd), none] ∧ But2 a l H H' ∧ Strm (N + 1 + 2) H' a l ∧ ∃ zs, H' D = some (.lst zs) ∧ zs.length ≤ 150 ∧ (∀ x ∈ zs, Fi K C H H' x) ∧ (7 < way → zs = ys ∧ RowsL H H' ys L), ⟨_, rfl, rfl, _, rfl, ite2 (fun hc => ?_) (fun hc => ?_)⟩, ?_⟩
    · have ew := eq1 rfl hc
      obtain ⟨rfl, r4⟩ := ez (by omega)
      refine ⟨_, rfl, _, rfl, D, zs, (k : Int), .ref q, rfl, rfl, SqL.of hD4, atk, _, rfl, q, _, rfl, SqL.of (row_at r4), fun c hc2 => ?_⟩
      have s5 := same_new (o := HO.lst (cutV [V.int d.1, V.int d.2] none (some 1))) hc2
      have hc0 := b4.fresh S4 hc2
      have ncD : c ≠ D := fun z => by
        rw [z, hD4] at hc2
        cases hc2
      refine ⟨_, rfl, _, rfl, D, zs, (k : Int), k, rfl, rfl, s5 _ _ hD4, ixk, ?_⟩
      obtain ⟨us, y1, y2, y3⟩ := put _ c _ (rsame r4 s5) hc0 ncD upd_same (Nat.le_trans (cutV_length _ _ _) (by show 2 ≤ 3; decide)) fun y hy => two_mem ⟨m1, m2⟩ ⟨m3, m4⟩ (cut_mem hy)
      exact ⟨rfl, toD (sub2 b4 s5), (S4.but s5).upd nD.1 nD.2, us, y1, y2, y3, fun z => by omega⟩
    · exact ⟨rfl, b4, S4, zs, hD4, lz, fz, fun z => ez (by omega)⟩
    rintro σ' H5 ⟨rfl, b5, S5, zs, hD5, lz, fz, ez⟩
    -- a thing is put into a row
    have inn : ∀ (H6 H7 : Hp) (v : V) (t : Tr), But2 a l H H7 → RowsL H H7 ys L → H7 D = some (.lst ys) → New K C H6 H7 t v → OkT t → (∀ b, H6 b = none → H b = none) → H6 q ≠ none →
        ∀ x ∈ ys, Fi K C H (upd H7 q (.lst ([V.int d.1, V.int d.2].set sd v))) x := fun H6 H7 v t b r e n bt back6 nq6 x hx => by
      have kp : New K C H6 (upd H7 q (.lst ([V.int d.1, V.int d.2].set sd v))) t v := n.keep fun c o z w => by
        rw [upd_ne (fun y => nq6 (by rw [← y]; exact z))]
        exact w
      obtain ⟨j, hj⟩ := List.getElem?_of_mem hx
      obtain ⟨dj, hdj, qj, rfl, h1, h2⟩ := prs_at r hj
      by_cases cq : qj = q
      · subst cq
        refine Row.fi (H1 := H6) ⟨qj, _, rfl, hq0, upd_same, by rw [List.length_set]; show 2 ≤ 3; decide, fun y hy => ?_⟩ back6
        rcases List.mem_or_eq_of_mem_set hy with hy | rfl
        · obtain ⟨z, rfl, z0, z1⟩ := two_mem ⟨m1, m2⟩ ⟨m3, m4⟩ hy
          exact new_int (big_of z0 (by omega))
        · exact ⟨t, bt, kp⟩
      · obtain ⟨c1, c2, c3, c4⟩ := hb dj (List.mem_of_getElem? hdj)
        refine Row.fi (H1 := H6) ⟨qj, _, rfl, h1, by rw [upd_ne cq]; exact h2, by show 2 ≤ 3; decide, fun y hy => ?_⟩ back6
        obtain ⟨z, rfl, z0, z1⟩ := two_mem ⟨c1, c2⟩ ⟨c3, c4⟩ hy
        exact new_int (big_of z0 (by omega))
    have toq : ∀ {H' : Hp} {o : HO}, But2 a l H H' → But2 a l H (upd H' q o) := fun b c o x y z => by
      rw [upd_ne (fun w => by rw [w, hq0] at z; cases z)]
      exact b _ _ x y z
    have ix2 : ixN [V.int d.1, V.int d.2].length (sd : Int) = some sd := Evl.ixN_nat hsd
    refine ⟨fun σ' H' => σ' = [some (.ref a), some (.ref p), some (.ref D), some (.int way), none, some (.int k), some (.int sd), none] ∧ But2 a l H H' ∧ Strm (N + 1 + 3) H' a l ∧ ∃ zs, H' D = some (.lst zs) ∧ zs.length ≤ 150 ∧ (∀ x ∈ zs, Fi K C H H' x) ∧ (8 < way → zs = ys ∧ RowsL H H' ys L), ⟨_, rfl, rfl, _, rfl, ite2 (fun hc => ?_) (fun hc => ?_)⟩, ?_⟩
    · have ew := eq1 rfl hc
      obtain ⟨rfl, r5⟩ := ez (by omega)
      refine ⟨_, rfl, a, l, _, rfl, S5, by omega, by omega, fun H6 v t b6 S6 n6 t6 => ?_⟩
      have r6 : RowsL H H6 zs L := r5.keep fun c u n e _ => b6 _ _ (nb0 _ n).1 (nb0 _ n).2 e
      have hD6 := b6 _ _ nD.1 nD.2 hD5
      have b06 : But2 a l H H6 := b5.trans b6
      refine ⟨_, rfl, _, rfl, D, zs, (k : Int), .ref q, rfl, rfl, SqL.of hD6, atk, _, rfl, q, _, (sd : Int), sd, rfl, rfl, row_at r6, ix2, ?_⟩
      exact ⟨rfl, toq b06, (S6.upd nq.1 nq.2).mono (by omega), zs, by rw [upd_ne nqD.symm]; exact hD6, lz, inn H5 H6 v t b06 r6 hD6 n6 t6 (fun b z => b5.fresh S5 z) (fun z => by rw [row_at r5] at z; cases z), fun z => by omega⟩
    · exact ⟨rfl, b5, S5.mono (by omega), zs, hD5, lz, fz, fun z => ez (by omega)⟩
    rintro σ' H5 ⟨rfl, b5, S5, zs, hD5, lz, fz, ez⟩
    refine ⟨fun σ' H' => σ' = [some (.ref a), some (.ref p), some (.ref D), some (.int way), none, some (.int k), some (.int sd), none] ∧ But2 a l H H' ∧ Strm (N + 1 + 4) H' a l ∧ ∃ zs, H' D = some (.lst zs) ∧ zs.length ≤ 150 ∧ (∀ x ∈ zs, Fi K C H H' x), ⟨_, rfl, _, _, rfl, rfl, _, rfl, ite2 (fun hc => ?_) (fun hc => ?_)⟩, ?_⟩
    · have ew := of_decide_eq_true hc
      obtain ⟨rfl, r5⟩ := ez (by omega)
      obtain ⟨u, hu, hu2⟩ : ∃ u, [V.int d.1, V.int d.2][sd]? = some u ∧ ∃ z : Int, u = .int z ∧ 0 ≤ z ∧ z ≤ 2 ^ 59 := by
        have hl : sd < [V.int d.1, V.int d.2].length := hsd
        exact ⟨_, List.getElem?_eq_getElem hl, two_mem ⟨m1, m2⟩ ⟨m3, m4⟩ (List.getElem_mem hl)⟩
      obtain ⟨z, rfl, z0, z1⟩ := hu2
      have ats : atI [V.int d.1, V.int d.2] (sd : Int) = some (.int z) := at_of (j := sd) rfl hu
      refine ⟨_, rfl, _, rfl, D, zs, (k : Int), .ref q, rfl, rfl, SqL.of hD5, atk, _, rfl, q, _, (sd : Int), .int z, rfl, rfl, SqL.of (row_at r5), ats, ?_⟩
      refine ⟨_, rfl, 1, rfl, by show 2 ≤ sizeLine; decide, fun e he => ?_⟩
      have s6 := same_new (o := HO.lst [V.int (-1), V.int 1]) he
      have ne := S5.ne_new he
      refine ⟨a, l, e, _, _, rfl, S5.but s6, by omega, by omega, ne.1, ne.2, upd_same, by show 0 < 2; decide, by show 2 ≤ 1000; decide, fun H6 v hv b6 S6 => ?_⟩
      obtain ⟨w, rfl, w2, w3⟩ : ∃ w : Int, v = .int w ∧ -1 ≤ w ∧ w ≤ 1 := by
        simp only [List.mem_cons, List.not_mem_nil, or_false] at hv
        rcases hv with rfl | rfl
        · exact ⟨-1, rfl, by decide, by decide⟩
        · exact ⟨1, rfl, by decide, by decide⟩
      have b56 : But2 a l H5 H6 := fun b o x y z => b6 _ _ x y (s6 _ _ z)
      have r6 : RowsL H H6 zs L := r5.keep fun c u n e _ => b56 _ _ (nb0 _ n).1 (nb0 _ n).2 e
      have hD6 := b56 _ _ nD.1 nD.2 hD5
      have b06 : But2 a l H H6 := b5.trans b56
      obtain ⟨t, bt, nt⟩ := new_int (K := K) (C := C) (H1 := H5) (H := H6) (i := z + w) (by
        show (decide (-(2 ^ 60) < z + w) && decide (z + w < 2 ^ 60)) = true
        rw [decide_eq_true (show -(2 ^ 60) < z + w by omega), decide_eq_true (show z + w < 2 ^ 60 by omega)]
        rfl)
      refine ⟨_, _, rfl, rfl, _, rfl, _, rfl, D, zs, (k : Int), .ref q, rfl, rfl, SqL.of hD6, atk, _, rfl, q, _, (sd : Int), sd, rfl, rfl, row_at r6, ix2, ?_⟩
      exact ⟨rfl, toq b06, (S6.upd nq.1 nq.2).mono (by omega), zs, by rw [upd_ne nqD.symm]; exact hD6, lz, inn H5 H6 _ t b06 r6 hD6 nt bt (fun b z => b5.fresh S5 z) (fun z => by rw [row_at r5] at z; cases z)⟩
    · exact ⟨rfl, b5, S5.mono (by omega), zs, hD5, lz, fz⟩
    rintro σ' H7 ⟨rfl, b7, S7, zs, hD7, lz, fz⟩
    exact ⟨_, rfl, ret _ D zs b7 ⟨4, by decide, S7⟩ hD hD7 (by omega) fz⟩
end
end K05

set_option Elab.async false
set_option linter.all false
set_option maxRecDepth 100000
set_option maxHeartbeats 4000000
namespace K05
open PySem PySem.Spec PyProof.Rows L2 Own
/-! a House of one place is equal to itself -/
theorem scHEq : FnScope ["self", "other"] ["self", "other"] (defScope sHEq) := ⟨rfl, rfl, rfl, by decide +kernel, rfl, by decide +kernel, by decide +kernel⟩
section
variable {P : Program} {w : World} {K : PySem.W.Frag} {mg : Str → Option Value} {base : Heap} {C : Addr}
theorem ok_heq4 (k : HKn K C) {f : Addr} {fd : FuncData} (F : Fun K "__eq__" "House.__eq__" sHEq f fd) (T : Bt mg) (gC : mg "House" = some (.ref C)) : FnOk P w K mg base CX0 1 f fd ["self", "other"] (spEq4 C) := by
  refine F.ok scHEq (fun vs H Q E h => ?_) (fun cdv A outer s H vs Q E hr h => ?_)
  · obtain ⟨x, rfl, _⟩ := h
    rfl
  · obtain ⟨x, rfl, ⟨dx, p, p2, h1, h2, h3⟩, q⟩ := h
    refine ⟨_, pss_one (ps_ret (pe_and (pe_callB call_isi (by rfl) T.isi (by decide +kernel) (pa_cons (pv 1) (pa_cons (pe_glob (v := .ref C) (by rfl) gC rfl) pa_nil)))
      (pe_and (pe_cmpR op_eq (pe_fld (pv 0) rfl) (pe_fld (pv 1) rfl) (nomark _)) (pe_and (pe_cmpR (op_eqD hr.units) (pe_fld (pv 0) rfl) (pe_fld (pv 1) rfl) (nomark _)) (pe_one (pe_cmpR (op_eqD hr.units) (pe_fld (pv 0) rfl) (pe_fld (pv 1) rfl) (nomark _))))))), ?_⟩
    refine ⟨_, rfl, _, _, _, _, true, rfl, .own C, .base (.ins h1 k.hc.cl k.ha k.hn k.ht k.hm), ?_, _, rfl, iteT ?_⟩
    · unfold PySem.W.kitOne
      rw [if_pos (by simp)]
    refine ⟨_, rfl, x, C, dx, _, _, rfl, h1, k.hc.cl, k.hc.nP, rfl, _, rfl, x, C, dx, _, _, rfl, h1, k.hc.cl, k.hc.nP, rfl, rfl, _, rfl, iteT ?_⟩
    refine ⟨_, rfl, x, C, dx, _, _, rfl, h1, k.hc.cl, k.hc.nR, rfl, _, rfl, x, C, dx, _, _, rfl, h1, k.hc.cl, k.hc.nR, rfl, .list [], .list [], .lst (SqL.of h2) .nil, .lst (SqL.of h2) .nil, rfl, rfl, _, rfl, iteT ?_⟩
    exact ⟨_, rfl, x, C, dx, _, _, rfl, h1, k.hc.cl, k.hc.nD, rfl, _, rfl, x, C, dx, _, _, rfl, h1, k.hc.cl, k.hc.nD, rfl, .list [], .list [], .lst (SqL.of h3) .nil, .lst (SqL.of h3) .nil, rfl, rfl, q⟩
end
end K05

set_option Elab.async false
set_option linter.all false
set_option maxRecDepth 100000
set_option maxHeartbeats 4000000
namespace K05
open PySem PySem.Spec PyProof.Rows L2 Own
/-! what is no steps, what is no turn -/
theorem Out.same {H H1 : Hp} {E : XK} {C : Addr} {f : Str} {v : V} (h : Out H E C f v) (e : Same H H1) : Out H1 E C f v := fun d H' nd sm hd => h d H' (none_back e nd) (e.trans sm) hd
def spNSno (K : PySem.W.Frag) (C Cs : Addr) : Sp := fun vs H _ E => ∃ v c, vs = [v] ∧ Cd K C H v c ∧ stp c = false ∧ Out H E Cs "steps" v
section
variable {P : Program} {w : World} {K : PySem.W.Frag} {mg : Str → Option Value} {base : Heap} {C : Addr}
theorem no_NS {f fS Cs : Addr} {fd fdS : FuncData} (F : Fun K "need_steps" "need_steps" s_need_steps f fd) (FS : Fun K "is_steps" "is_steps" s_is_steps fS fdS) (gS : mg "is_steps" = some (.ref fS)) (bS : Binds K fdS ["thing"] []) (GS : FnOk P w K mg base CX0 3 fS fdS ["thing"] (spSteps K C))
    (EH : EI P w K mg base "BadSteps" "steps" Cs) : FnOk P w K mg base (L2.CX P w) 4 f fd ["steps"] (spNSno K C Cs) := by
  refine F.okX scNS (fun vs H Q E h => ?_) (fun cdv A outer s H vs Q E hr h => ?_)
  · obtain ⟨v, c, rfl, _⟩ := h
    rfl
  · obtain ⟨v, c, rfl, hc, hi, out⟩ := h
    refine ⟨_, pss_one (ps_if (pt_not (pt_val (pe_call GS (hr.mono (by decide)) (by rfl) gS FS.kp bS .nil pass0 (pa_cons (pv 0) pa_nil)))) (pss_one (ps_EI rfl (takes_of rfl rfl rfl rfl) EH (hr.mono (by decide)) (by rfl) (pv 0) (mono_var 0))) pss_nil), ?_⟩
    refine ⟨_, rfl, v, c, rfl, hc, fun H1 e1 => ⟨_, rfl, ?_⟩⟩
    rw [hi]
    exact iteT ⟨_, rfl, out.at e1⟩
end
end K05

set_option Elab.async false
set_option linter.all false
set_option maxRecDepth 100000
/-! f(k = v, ..): a def called with keywords alone -/
namespace Own
open PySem PySem.Spec PyProof.Rows L2
def tCallK0 (m : Nat) (sp : Sp) (gV : List V → List V → List V) (E : XK) (tk : TA) : TE := fun σ H Q => tk σ H fun zs H2 => zs.length = m ∧ sp (gV [] zs) H2 Q E
theorem pe_callK0 {X : Cx} {CX : CXT} {k : Nat} {f : Addr} {fd : FuncData} {ps ks : List Str} {sp : Sp} {E : XK} {x : Str} {p pos : Pos} {kws : List Keyword} {tk : TA} {g : List Value → List Value → List Value} {gV : List V → List V → List V}
    (F : FnOk X.prog X.w X.K X.mg X.base CX k f fd ps sp) (hr : Room k X.A) (hg : Gl X x) (hm : X.mg x = some (.ref f)) (hk : PySem.W.keepIn X.K (.ref f) = true) (hb : KBn X.K fd ps 0 ks g gV) (hx : Passes CX X E) (hkw : PK X kws tk)
    (hall : (backToKw pos (keywordEach kws X.env)).all (·.1.isSome) = true := by rfl) (hks : (backToKw pos (keywordEach kws X.env)).filterMap (·.1) = ks := by rfl) (hdb : (x == ("__debug__" : Str)) = false := by decide)
    (hpl : ((backTo pos (starEach [] X.env)).any (·.1) || (backToKw pos (keywordEach kws X.env)).any (·.1.isNone)) = false := by rfl) :
    PE X (.Call (.Name x p) [] kws pos) (tCallK0 ks.length sp gV E tk) := by
  refine ⟨fun pins s σ H Q I h => ?_⟩
  refine wpAny_Call_Name_kw (ld_glob I hg hm ?_ hdb)
  refine PySem.W.callWith_KW0 (h₀ := X.base) I.ok.mod.kin hk hall ?_ hpl
  refine thn (hkw.run pos pins s σ H _ I h) fun ws s2 ⟨zs, H2, I2, rz, l2, q2⟩ => ⟨I2.kIn, ?_⟩
  rw [hks]
  exact run_fnN (us := []) (vs := []) F hr hb hx I2 .nil rz rfl l2 q2
end Own

set_option Elab.async false
set_option linter.all false
set_option maxRecDepth 100000
set_option maxHeartbeats 4000000
namespace K05
open PySem PySem.Spec PyProof.Rows L2 Own LamX
/-! _law_p_near -/
/-- steps as a tree, away from some places -/
structure StR (K : PySem.W.Frag) (C : Addr) (S : Addr → Prop) (H : Hp) (v : V) (L : List (Int × Int)) : Prop where
  re : Re K C S H (stT L) v
  ok : okL (-1) 0 L
  bd : ∀ p ∈ L, p.1 < 2 ^ 60 ∧ 0 ≤ p.2 ∧ p.2 < 2 ^ 60
theorem ReL.two {K : PySem.W.Frag} {C : Addr} {S : Addr → Prop} {H : Hp} {u w : V} {ys : List V} (h : ReL K C S H [.leaf u, .leaf w] ys) : ys = [u, w] := by
  unfold ReL at h
  obtain ⟨x, r, rfl, h1, h2⟩ := h
  unfold ReL at h2
  obtain ⟨y, r2, rfl, h3, h4⟩ := h2
  unfold ReL at h4
  unfold Re at h1 h3
  rw [h1.1, h3.1, h4]
theorem ReL.prs3 {K : PySem.W.Frag} {C : Addr} {S : Addr → Prop} {H : Hp} : ∀ {L : List (Int × Int)} {xs : List V}, ReL K C S H (L.map fun d => .seq [.leaf (.int d.1), .leaf (.int d.2)]) xs → Paired (Pr K C H) xs (L.map itP)
  | [], xs, h => by
    have h : ReL K C S H [] xs := h
    unfold ReL at h
    subst h
    exact .nil
  | d :: L, xs, h => by
    have h : ReL K C S H (.seq [.leaf (.int d.1), .leaf (.int d.2)] :: L.map fun d => .seq [.leaf (.int d.1), .leaf (.int d.2)]) xs := h
    unfold ReL at h
    obtain ⟨x, r, rfl, h1, h2⟩ := h
    refine .cons ?_ (ReL.prs3 h2)
    unfold Re at h1
    obtain ⟨q, ys, rfl, e, _, hy, hl⟩ := h1
    obtain rfl := hy.two
    refine ⟨.inr (.inr ⟨q, _, rfl, e, rfl⟩), fun zs z => ?_⟩
    cases z
    refine ⟨by show 2 ≤ 1000; decide, fun y hy => ⟨none, ?_⟩⟩
    simp only [List.mem_cons, List.not_mem_nil, or_false] at hy
    rcases hy with rfl | rfl <;> exact sq_int _
theorem StR.stl {K : PySem.W.Frag} {C : Addr} {S : Addr → Prop} {H : Hp} {v : V} {L : List (Int × Int)} (h : StR K C S H v L) : StL K C H v L := by
  have r := h.re
  unfold stT Re at r
  obtain ⟨q, xs, rfl, e, _, hx, hl⟩ := r
  exact ⟨⟨xs, .inr (.inr ⟨q, xs, rfl, e, rfl⟩), hx.prs3, hl⟩, h.ok, h.bd⟩
theorem StR.keep {K : PySem.W.Frag} {C : Addr} {S : Addr → Prop} {H H' : Hp} {v : V} {L : List (Int × Int)} (h : StR K C S H v L) (k : Kp S H H') : StR K C S H' v L := ⟨Re.keep k _ _ h.re, h.ok, h.bd⟩
theorem ReL.rows {K : PySem.W.Frag} {C : Addr} {S : Addr → Prop} {H : Hp} : ∀ {L : List (Int × Int)} {xs : List V}, ReL K C S H (L.map fun d => .seq [.leaf (.int d.1), .leaf (.int d.2)]) xs → Paired (fun x (d : Int × Int) => ∃ q, x = V.ref q ∧ ¬ S q ∧ (H q = some (.lst [.int d.1, .int d.2]) ∨ H q = some (.tup [.int d.1, .int d.2]))) xs L
  | [], xs, h => by
    have h : ReL K C S H [] xs := h
    unfold ReL at h
    subst h
    exact .nil
  | d :: L, xs, h => by
    have h : ReL K C S H (.seq [.leaf (.int d.1), .leaf (.int d.2)] :: L.map fun d => .seq [.leaf (.int d.1), .leaf (.int d.2)]) xs := h
    unfold ReL at h
    obtain ⟨x, r, rfl, h1, h2⟩ := h
    unfold Re at h1
    obtain ⟨q, ys, rfl, e, n, hy, hl⟩ := h1
    obtain rfl := hy.two
    exact .cons ⟨q, rfl, n, e⟩ (ReL.rows h2)
theorem StR.rows {K : PySem.W.Frag} {C : Addr} {S : Addr → Prop} {H : Hp} {v : V} {L : List (Int × Int)} (h : StR K C S H v L) : ∃ p xs, v = V.ref p ∧ ¬ S p ∧ (H p = some (.lst xs) ∨ H p = some (.tup xs)) ∧ xs.length = L.length ∧ xs.length ≤ 1000 ∧
    ∀ x ∈ xs, ∃ q d, d ∈ L ∧ x = V.ref q ∧ ¬ S q ∧ (H q = some (.lst [.int d.1, .int d.2]) ∨ H q = some (.tup [.int d.1, .int d.2])) := by
  have r := h.re
  unfold stT Re at r
  obtain ⟨p, xs, rfl, e, n, hx, hl⟩ := r
  have g := hx.rows
  refine ⟨p, xs, rfl, n, e, g.length, hl, fun x hx => ?_⟩
  obtain ⟨j, hj⟩ := List.getElem?_of_mem hx
  obtain ⟨d, hd, q, e1, e2, e3⟩ := prs_at g hj
  exact ⟨q, d, List.mem_of_getElem? hd, e1, e2, e3⟩
theorem RowsL.re {K : PySem.W.Frag} {C : Addr} {S : Addr → Prop} {H0 H : Hp} (hS : ∀ b, S b → H0 b ≠ none) : ∀ {xs : List V} {L : List (Int × Int)}, RowsL H0 H xs L → (∀ d ∈ L, bigI (.int d.1) = true ∧ bigI (.int d.2) = true) → ReL K C S H (L.map fun d => .seq [.leaf (.int d.1), .leaf (.int d.2)]) xs
  | _, _, .nil, _ => by
    show ReL K C S H [] []
    unfold ReL
    rfl
  | _, _, .cons (b := d) h t, hb => by
    obtain ⟨q, rfl, n, e⟩ := h
    obtain ⟨b1, b2⟩ := hb d List.mem_cons_self
    show ReL K C S H (Tr.seq [.leaf (.int d.1), .leaf (.int d.2)] :: List.map (fun d : Int × Int => Tr.seq [.leaf (.int d.1), .leaf (.int d.2)]) _) _
    unfold ReL
    refine ⟨_, _, rfl, ?_, RowsL.re hS t fun d hd => hb d (List.mem_cons_of_mem _ hd)⟩
    unfold Re
    refine ⟨q, _, rfl, .inl e, fun z => hS q z n, ?_, by show 2 ≤ 1000; decide⟩
    unfold ReL
    refine ⟨_, _, rfl, ?_, ?_⟩
    · unfold Re
      exact ⟨rfl, .inl ⟨rfl, b1⟩⟩
    · unfold ReL
      refine ⟨_, _, rfl, ?_, by unfold ReL; rfl⟩
      unfold Re
      exact ⟨rfl, .inl ⟨rfl, b2⟩⟩
def Sml (d : Int × Int) : Prop := 0 ≤ d.1 ∧ d.1 < 2 ^ 59 ∧ 0 ≤ d.2 ∧ d.2 < 2 ^ 59
theorem RowsL.str {K : PySem.W.Frag} {C : Addr} {S : Addr → Prop} {H0 H : Hp} {D : Addr} {xs : List V} {L : List (Int × Int)} (hS : ∀ b, S b → H0 b ≠ none) (hD : H0 D = none) (e : H D = some (.lst xs)) (r : RowsL H0 H xs L) (hl : L.length ≤ 1000) (ok : okL (-1) 0 L) (hb : ∀ d ∈ L, Sml d) : StR K C S H (.ref D) L := by
  refine ⟨?_, ok, fun d hd => ?_⟩
  · unfold stT Re
    exact ⟨D, xs, rfl, .inl e, fun z => hS D z hD, r.re hS fun d hd => by
      obtain ⟨h1, h2, h3, h4⟩ := hb d hd
      exact ⟨big_of h1 (by omega), big_of h3 (by omega)⟩, by rw [r.len]; exact hl⟩
  · obtain ⟨h1, h2, h3, h4⟩ := hb d hd
    exact ⟨by omega, h3, by omega⟩
theorem Rows.str {K : PySem.W.Frag} {C : Addr} {S : Addr → Prop} {H0 H : Hp} {D : Addr} {xs : List V} {L : List (Int × Int)} (hS : ∀ b, S b → H0 b ≠ none) (hD : H0 D = none) (e : H D = some (.lst xs)) (r : Rows H0 H xs L) (hl : L.length ≤ 1000) (ok : okL (-1) 0 L) (hb : ∀ d ∈ L, Sml d) : StR K C S H (.ref D) L := by
  refine ⟨?_, ok, fun d hd => ?_⟩
  · unfold stT Re
    exact ⟨D, xs, rfl, .inl e, fun z => hS D z hD, r.re hS fun d hd => by
      obtain ⟨h1, h2, h3, h4⟩ := hb d hd
      exact ⟨big_of h1 (by omega), big_of h3 (by omega)⟩, by rw [r.len]; exact hl⟩
  · obtain ⟨h1, h2, h3, h4⟩ := hb d hd
    exact ⟨by omega, h3, by omega⟩
theorem RowsL.cd {K : PySem.W.Frag} {C : Addr} {H0 H : Hp} {D : Addr} {xs : List V} {M : List (Int × Int)} (r : RowsL H0 H xs M) (e : H D = some (.lst xs)) (hl : M.length ≤ 1000) : Cd K C H (.ref D) (some (M.map itP)) := by
  have pr : ∀ {xs : List V} {M : List (Int × Int)}, RowsL H0 H xs M → Paired (Pr K C H) xs (M.map itP) := by
    intro xs M r
    induction r with
    | nil => exact .nil
    | cons h t ih =>
      obtain ⟨q, rfl, _, e⟩ := h
      refine .cons ⟨.inr (.inr ⟨q, _, rfl, .inl e, rfl⟩), fun zs z => ?_⟩ ih
      cases z
      refine ⟨by show 2 ≤ 1000; decide, fun y hy => ⟨none, ?_⟩⟩
      simp only [List.mem_cons, List.not_mem_nil, or_false] at hy
      rcases hy with rfl | rfl <;> exact sq_int _
  exact ⟨xs, .inr (.inr ⟨D, xs, rfl, .inl e, rfl⟩), pr r, by rw [r.len]; exact hl⟩
theorem RowsL.set {H0 H : Hp} {c : Addr} {d : Int × Int} (n : H0 c = none) (e : H c = some (.lst [.int d.1, .int d.2])) : ∀ {xs : List V} {M : List (Int × Int)} (i : Nat), RowsL H0 H xs M → RowsL H0 H (xs.set i (.ref c)) (M.set i d)
  | _, _, _, .nil => .nil
  | _, _, 0, .cons h t => .cons ⟨c, rfl, n, e⟩ t
  | _, _, i + 1, .cons h t => .cons h (RowsL.set n e i t)
theorem vals_snoc {v : V} {u : Value} : ∀ {vs : List V} {us : List Value}, Vals vs us → RelV v u → Vals (vs ++ [v]) (us ++ [u])
  | _, _, .nil, h => .cons h .nil
  | _, _, .cons a t, h => .cons a (vals_snoc t h)
theorem vals_rev : ∀ {vs : List V} {us : List Value}, Vals vs us → Vals vs.reverse us.reverse
  | _, _, .nil => .nil
  | _, _, .cons a t => by
    rw [List.reverse_cons, List.reverse_cons]
    exact vals_snoc (vals_rev t) a
/-! ### what stays while tables grow -/
theorem SqR.ext {K : PySem.W.Frag} {C : Addr} {H H' : Hp} {v : V} {o : Option (List V)} (h : SqR K C H v o) (e : Ext H H') : SqR K C H' v o := by
  rcases h with ⟨h, rfl⟩ | ⟨p, kvs, rfl, h, rfl⟩ | ⟨p, xs, rfl, h, rfl⟩
  · exact .inl ⟨h.ext e, rfl⟩
  · exact .inr (.inl ⟨p, kvs, rfl, e _ _ h nt_dK, rfl⟩)
  · exact .inr (.inr ⟨p, xs, rfl, h.imp (fun z => e _ _ z nt_lst) (fun z => e _ _ z nt_tup), rfl⟩)
theorem Pr.ext {K : PySem.W.Frag} {C : Addr} {H H' : Hp} {x : V} {o : Option (List V)} (h : Pr K C H x o) (e : Ext H H') : Pr K C H' x o := ⟨h.1.ext e, fun ys z => ⟨(h.2 ys z).1, fun y hy => by
  obtain ⟨oy, q⟩ := (h.2 ys z).2 y hy
  exact ⟨oy, q.ext e⟩⟩⟩
theorem Cd.ext {K : PySem.W.Frag} {C : Addr} {H H' : Hp} {v : V} : ∀ {c : Option (List (Option (List V)))}, Cd K C H v c → Ext H H' → Cd K C H' v c
  | none, h, e => SqR.ext h e
  | some os, h, e => by
    obtain ⟨xs, h1, h2, h3⟩ := h
    exact ⟨xs, h1.ext e, prs_imp h2 fun _ _ q => q.ext e, h3⟩
theorem StL.ext {K : PySem.W.Frag} {C : Addr} {H H' : Hp} {v : V} {L : List (Int × Int)} (h : StL K C H v L) (e : Ext H H') : StL K C H' v L := ⟨h.cd.ext e, h.ok, h.bd⟩
/-- nothing but perhaps a table stood there -/
def Nw (H : Hp) (q : Addr) : Prop := ∀ o, H q = some o → (∀ t, o ≠ .tbl t) → False
theorem nw {H : Hp} {q : Addr} (h : H q = none) : Nw H q := fun o z _ => by
  rw [h] at z
  cases z
theorem Nw.back {H H' : Hp} {q : Addr} (e : Ext H H') (h : Nw H' q) : Nw H q := fun o z nt => h o (e _ _ z nt) nt
theorem Nw.ne {H : Hp} {q b : Addr} {o : HO} (h : Nw H q) (z : H b = some o) (nt : ∀ t, o ≠ .tbl t) : b ≠ q := fun y => h o (by rw [← y]; exact z) nt
theorem tabs_upd {T : List (Addr × Str)} {H : Hp} {q : Addr} {xs : List V} {o : HO} (h : Tabs T H) (hq : H q = some (.lst xs)) : Tabs T (upd H q o) := fun p hp => by
  obtain ⟨ps, h1, h2, h3⟩ := h p hp
  have n1 : p.1 ≠ q := fun z => by
    rw [z, hq] at h1
    cases h1
  refine ⟨ps, by rw [upd_ne n1]; exact h1, h2, fun pos cv hc => ?_⟩
  obtain ⟨c, e1, e2⟩ := h3 pos cv hc
  have n2 : c ≠ q := fun z => by
    rw [z, hq] at e2
    unfold CodeO at e2
    cases e2
  exact ⟨c, e1, by rw [upd_ne n2]; exact e2⟩
theorem tabs_but {T : List (Addr × Str)} {N : Int} {a l : Addr} {H H1 : Hp} (t : Tabs T H) (b : But2 a l H H1) (S : Strm N H a l) : Tabs T H1 := fun p hp => by
  obtain ⟨xs, c0, n0, m0, ha, hl, _⟩ := S.ex
  have ne : ∀ {c : Addr} {o : HO}, H c = some o → (∀ zs, o ≠ .lst zs) → c ≠ a ∧ c ≠ l := fun {c o} h k => ⟨fun z => by rw [z, ha] at h; exact k _ (Option.some.inj h).symm, fun z => by rw [z, hl] at h; exact k _ (Option.some.inj h).symm⟩
  obtain ⟨tb, a1, a2, a3⟩ := t p hp
  have n1 := ne a1 (fun zs z => by cases z)
  refine ⟨tb, b _ _ n1.1 n1.2 a1, a2, fun p2 cv hc => ?_⟩
  obtain ⟨c, b1, b2⟩ := a3 p2 cv hc
  have n2 := ne b2 (fun zs z => by unfold CodeO at z; cases z)
  exact ⟨c, b1, b _ _ n2.1 n2.2 b2⟩
/-- all stays but what stands at a and l, tables aside -/
def But3 (a l : Addr) (H H' : Hp) : Prop := ∀ b o, b ≠ a → b ≠ l → (∀ t, o ≠ .tbl t) → H b = some o → H' b = some o
theorem But3.of {a l : Addr} {H H' : Hp} (b : But2 a l H H') : But3 a l H H' := fun c o x y _ z => b c o x y z
theorem But3.ext {a l : Addr} {H H' : Hp} (e : Ext H H') : But3 a l H H' := fun c o _ _ n z => e c o z n
theorem But3.trans {a l : Addr} {H H1 H2 : Hp} (x : But3 a l H H1) (y : But3 a l H1 H2) : But3 a l H H2 := fun b o n1 n2 t h => y b o n1 n2 t (x b o n1 n2 t h)
theorem Kp.but3 {S : Addr → Prop} {a l : Addr} {H H' : Hp} (ha : S a) (hl : S l) (e : But3 a l H H') : Kp S H H' := fun b o n t h => e b o (fun z => n (by rw [z]; exact ha)) (fun z => n (by rw [z]; exact hl)) t h
theorem Strm.ext {N : Int} {a l : Addr} {H H' : Hp} (S : Strm N H a l) (e : Ext H H') : Strm N H' a l := S.keep fun b o z n => e b o z n
/-- n pairs are found, in the list at q, since H0 -/
structure FI (T : List (Addr × Str)) (z : Str) (v : V) (q : Addr) (n : Nat) (H0 H : Hp) : Prop where
  ext : Ext H0 H
  tab : Tabs T H
  new : Nw H0 q
  lst : ∃ xs, H q = some (.lst xs) ∧ xs.length = n ∧ ∀ x ∈ xs, ∃ t, x = V.ref t ∧ H t = some (.tup [.str z, v])
theorem FI.one {T : List (Addr × Str)} {z : Str} {v : V} {q t : Addr} {H0 H1 : Hp} (e : Ext H0 H1) (hT : Tabs T H1) (ht : H1 t = some (.tup [.str z, v])) (hq : H1 q = none) : FI T z v q 1 H0 (upd H1 q (.lst [.ref t])) := by
  have s := same_new (o := HO.lst [V.ref t]) hq
  refine ⟨e.trans (.of s), hT.ext s, (nw hq).back e, _, upd_same, rfl, fun x hx => ⟨t, List.mem_singleton.mp hx, s _ _ ht⟩⟩
theorem FI.more {T : List (Addr × Str)} {z : Str} {v : V} {q t : Addr} {n : Nat} {H0 H1 H2 : Hp} (f : FI T z v q n H0 H1) (e : Ext H1 H2) (hT : Tabs T H2) (ht : H2 t = some (.tup [.str z, v])) : ∃ xs, H2 q = some (.lst xs) ∧ xs.length = n ∧ FI T z v q (n + 1) H0 (upd H2 q (.lst (xs ++ [.ref t]))) := by
  obtain ⟨xs, hq, hl, hx⟩ := f.lst
  have hq2 := e _ _ hq nt_lst
  have off : ∀ {b : Addr} {us : List V}, H2 b = some (.tup us) → upd H2 q (.lst (xs ++ [.ref t])) b = some (.tup us) := fun {b us} w => by
    rw [upd_ne (fun y => by rw [y, hq2] at w; cases w)]
    exact w
  refine ⟨xs, hq2, hl, fun b o w n => ?_, tabs_upd hT hq2, f.new, _, upd_same, by rw [List.length_append, hl]; rfl, fun x h => ?_⟩
  · rw [upd_ne (f.new.ne w n)]
    exact e _ _ (f.ext _ _ w n) n
  · rcases List.mem_append.mp h with h | h
    · obtain ⟨u, rfl, hu⟩ := hx x h
      exact ⟨u, rfl, off (e _ _ hu nt_tup)⟩
    · exact ⟨t, List.mem_singleton.mp h, off ht⟩
theorem paired_rep {α β : Type} {F : α → β → Prop} {y : β} : ∀ {xs : List α}, (∀ x ∈ xs, F x y) → Paired F xs (List.replicate xs.length [y]).flatten
  | [], _ => .nil
  | x :: r, h => .cons (h x List.mem_cons_self) (paired_rep fun z hz => h z (List.mem_cons_of_mem _ hz))
/-- the pairs are equal to one, repeated -/
theorem FI.eqt {K : PySem.W.Frag} {C : Addr} {T : List (Addr × Str)} {z : Str} {v : V} {q p r : Addr} {n m : Nat} {H0 H H' : Hp} (f : FI T z v q n H0 H) (e : Same H H') (hp : H' p = some (.tup [.str z, v])) (hr : H' r = some (.lst (List.replicate n [V.ref p]).flatten)) (hv : Eqt K C m H' v v) (hn : n ≤ 900) : Eqt K C (m + 2) H' (.ref q) (.ref r) := by
  obtain ⟨xs, hq, hl, hx⟩ := f.lst
  subst hl
  refine .inr (.inl ⟨q, r, xs, _, rfl, rfl, e _ _ hq, hr, paired_rep fun x h => ?_, by omega⟩)
  obtain ⟨t, rfl, ht⟩ := hx x h
  exact .inr (.inr (.inl ⟨t, p, _, _, rfl, rfl, e _ _ ht, hp, .cons (eqt_atom rfl) (.cons hv .nil), by show 2 ≤ 1000; decide⟩))
theorem eqt_bls {K : PySem.W.Frag} {C : Addr} {H : Hp} {n : Nat} {p q : Addr} {i j : Bool} (h1 : H p = some (.lst [.bl i, .bl j])) (h2 : H q = some (.lst [.bl i, .bl j])) : Eqt K C (n + 1) H (.ref p) (.ref q) :=
  .inr (.inl ⟨p, q, _, _, rfl, rfl, h1, h2, .cons (eqt_atom rfl) (.cons (eqt_atom rfl) .nil), by show 2 ≤ 1000000; decide⟩)
/-! ### the code of a thing, at all later heaps -/
theorem Kp.refl {S : Addr → Prop} {H : Hp} : Kp S H H := fun b o _ _ h => h
theorem Re.prK {K : PySem.W.Frag} {C : Addr} {S : Addr → Prop} {H : Hp} {t : Tr} {v : V} (h : Re K C S H t v) : ∃ o, (∀ H', Kp S H H' → Pr K C H' v o) ∧ Bd o ∧ ∀ x y, o = some [.int x, .int y] → t = .seq [.leaf (.int x), .leaf (.int y)] := by
  cases t with
  | leaf u =>
    have b0 : Bd none := fun ys z => by cases z
    have c0 : ∀ x y : Int, (none : Option (List V)) = some [.int x, .int y] → Tr.leaf u = .seq [.leaf (.int x), .leaf (.int y)] := fun x y z => by cases z
    refine ⟨none, fun H' kp => ⟨?_, fun ys z => by cases z⟩, b0, c0⟩
    have h' := Re.keep kp _ _ h
    unfold Re at h'
    rcases h'.2 with h | h | ⟨x, dx, p, q, rfl, h1, h2, h3, _⟩ | ⟨p, kvs, rfl, h1, _⟩
    · exact .inl ⟨.inl h.1, rfl⟩
    · exact .inl ⟨.inr (.inl h), rfl⟩
    · exact .inl ⟨.inr (.inr ⟨x, rfl, dx, p, q, h1, h2, h3⟩), rfl⟩
    · exact .inr (.inl ⟨p, kvs, rfl, h1, rfl⟩)
  | seq ts =>
    unfold Re at h
    obtain ⟨p, xs, rfl, h1, n1, h2, h3⟩ := h
    refine ⟨some xs, fun H' kp => ⟨.inr (.inr ⟨p, xs, rfl, h1.imp (kp _ _ n1 nt_lst) (kp _ _ n1 nt_tup), rfl⟩), fun ys z => ?_⟩, fun ys z i hi => ?_, fun x y z => ?_⟩
    · cases z
      refine ⟨h3, fun y hy => ?_⟩
      obtain ⟨j, hj⟩ := List.getElem?_of_mem hy
      obtain ⟨t, _, q⟩ := (ReL.keep kp ts xs h2).at hj
      exact q.sq
    · cases z
      obtain ⟨j, hj⟩ := List.getElem?_of_mem hi
      obtain ⟨t, _, q⟩ := h2.at hj
      exact q.big
    · have e := Option.some.inj z
      subst e
      cases ts with
      | nil =>
        unfold ReL at h2
        cases h2
      | cons t1 r =>
        unfold ReL at h2
        obtain ⟨u, us, e1, g1, g2⟩ := h2
        obtain ⟨rfl, rfl⟩ := List.cons.inj e1
        obtain rfl := g1.int
        cases r with
        | nil =>
          unfold ReL at g2
          cases g2
        | cons t2 r2 =>
          unfold ReL at g2
          obtain ⟨u, us, e1, g3, g4⟩ := g2
          obtain ⟨rfl, rfl⟩ := List.cons.inj e1
          obtain rfl := g3.int
          cases r2 with
          | nil => rfl
          | cons t3 r3 =>
            unfold ReL at g4
            obtain ⟨_, _, z, _⟩ := g4
            cases z
theorem ReL.prsK {K : PySem.W.Frag} {C : Addr} {S : Addr → Prop} {H : Hp} : ∀ {ts : List Tr} {xs : List V}, ReL K C S H ts xs → ∃ os, Paired (fun x o => (∀ H', Kp S H H' → Pr K C H' x o) ∧ Bd o) xs os ∧ Paired (fun t (o : Option (List V)) => ∀ x y : Int, o = some [.int x, .int y] → t = .seq [.leaf (.int x), .leaf (.int y)]) ts os
  | [], xs, h => by
    unfold ReL at h
    subst h
    exact ⟨[], .nil, .nil⟩
  | t :: ts, xs, h => by
    unfold ReL at h
    obtain ⟨x, r, rfl, h1, h2⟩ := h
    obtain ⟨o, ho, hb, hs⟩ := h1.prK
    obtain ⟨os, hos, hts⟩ := ReL.prsK h2
    exact ⟨o :: os, .cons ⟨ho, hb⟩ hos, .cons hs hts⟩
theorem Re.cdK {K : PySem.W.Frag} {C : Addr} {S : Addr → Prop} {H : Hp} {t : Tr} {v : V} (h : Re K C S H t v) : ∃ c, (∀ H', Kp S H H' → Cd K C H' v c) ∧ (stp c = true → ∃ L, StR K C S H v L) := by
  cases t with
  | leaf u =>
    obtain ⟨o, ho, _⟩ := h.prK
    have : o = none ∨ ∃ ys, o = some ys := by cases o <;> simp
    refine ⟨none, fun H' kp => ?_, fun z => by cases z⟩
    show SqR K C H' v none
    have h' := Re.keep kp _ _ h
    unfold Re at h'
    rcases h'.2 with h | h | ⟨x, dx, p, q, rfl, h1, h2, h3, _⟩ | ⟨p, kvs, rfl, h1, _⟩
    · exact .inl ⟨.inl h.1, rfl⟩
    · exact .inl ⟨.inr (.inl h), rfl⟩
    · exact .inl ⟨.inr (.inr ⟨x, rfl, dx, p, q, h1, h2, h3⟩), rfl⟩
    · exact .inr (.inl ⟨p, kvs, rfl, h1, rfl⟩)
  | seq ts =>
    have h0 := h
    unfold Re at h
    obtain ⟨p, xs, rfl, h1, n1, h2, h3⟩ := h
    obtain ⟨os, hos, hsh⟩ := h2.prsK
    refine ⟨some os, fun H' kp => ⟨xs, .inr (.inr ⟨p, xs, rfl, h1.imp (kp _ _ n1 nt_lst) (kp _ _ n1 nt_tup), rfl⟩), prs_imp hos fun _ _ q => q.1 H' kp, h3⟩, fun z => ?_⟩
    obtain ⟨L, rfl, ok⟩ := stpL_ok z
    have e := shape_of hsh
    subst e
    refine ⟨L, h0, ok, fun d hd => ?_⟩
    obtain ⟨b1, b2⟩ := bd_of (prs_imp hos fun _ _ q => ⟨q.1 H Kp.refl, q.2⟩) d hd
    obtain ⟨_, n2⟩ := ok_nn ok d hd
    have c1 : (decide (-(2 ^ 60) < d.1) && decide (d.1 < 2 ^ 60)) = true := b1
    have c2 : (decide (-(2 ^ 60) < d.2) && decide (d.2 < 2 ^ 60)) = true := b2
    exact ⟨of_decide_eq_true (Bool.and_eq_true_iff.mp c1).2, n2, of_decide_eq_true (Bool.and_eq_true_iff.mp c2).2⟩
theorem Paired.drop {α β : Type} {F : α → β → Prop} : ∀ {xs : List α} {ys : List β} (n : Nat), Paired F xs ys → Paired F (xs.drop n) (ys.drop n)
  | _, _, 0, h => h
  | _, _, n + 1, .nil => .nil
  | _, _, n + 1, .cons _ t => Paired.drop n t
theorem Paired.take {α β : Type} {F : α → β → Prop} : ∀ {xs : List α} {ys : List β} (n : Nat), Paired F xs ys → Paired F (xs.take n) (ys.take n)
  | _, _, 0, h => .nil
  | _, _, n + 1, .nil => .nil
  | _, _, n + 1, .cons a t => .cons a (Paired.take n t)
theorem Rows.cut {G H : Hp} {xs : List V} {L : List (Int × Int)} (h : Rows G H xs L) (lo hi : Option Int) : ∃ M, Rows G H (cutV xs lo hi) M ∧ ∀ d ∈ M, d ∈ L := by
  unfold cutV
  exact ⟨_, Paired.take _ (Paired.drop _ h), fun d hd => List.mem_of_mem_drop (List.mem_of_mem_take hd)⟩
theorem cut_nine (xs : List V) : (cutV xs (some (-9)) none).length ≤ 9 := by
  unfold cutV
  rw [List.length_take, List.length_drop]
  show min (xs.length - (if (-9 : Int) < 0 then (-9 + (xs.length : Int)).toNat else min (-9 : Int).toNat xs.length)) _ ≤ 9
  rw [if_pos (by decide)]
  omega
theorem rk_stT (L : List (Int × Int)) : rkT (stT L) ≤ 2 ∧ ndT (stT L) ≤ L.length + 1 ∧ dpT (stT L) ≤ 5 := by
  have go : ∀ L : List (Int × Int), rkL (L.map fun d => .seq [.leaf (.int d.1), .leaf (.int d.2)]) ≤ 1 ∧ ndL (L.map fun d => .seq [.leaf (.int d.1), .leaf (.int d.2)]) ≤ L.length ∧ dpL (L.map fun d => .seq [.leaf (.int d.1), .leaf (.int d.2)]) ≤ 4 := by
    intro L
    induction L with
    | nil => exact ⟨Nat.zero_le _, Nat.zero_le _, Nat.zero_le _⟩
    | cons d r ih =>
      obtain ⟨h1, h2, h3⟩ := ih
      have e : List.map (fun d : Int × Int => Tr.seq [.leaf (.int d.1), .leaf (.int d.2)]) (d :: r) = Tr.seq [.leaf (.int d.1), .leaf (.int d.2)] :: List.map (fun d : Int × Int => Tr.seq [.leaf (.int d.1), .leaf (.int d.2)]) r := rfl
      rw [e]
      refine ⟨?_, ?_, ?_⟩
      · show max (max 0 (max 0 0) + 1) (rkL _) ≤ 1
        omega
      · show ((0 + (0 + 0)) + 1) + ndL _ ≤ r.length + 1
        omega
      · show max (max 3 (max 3 0) + 1) (dpL _) ≤ 4
        omega
  obtain ⟨h1, h2, h3⟩ := go L
  exact ⟨Nat.succ_le_succ h1, Nat.succ_le_succ h2, Nat.succ_le_succ h3⟩
/-- the lists at the law's end -/
structure Fd (h1 h2 h3 h4 o1 : Addr) (X Y : List V) (H : Hp) : Prop where
  e1 : H h1 = some (.lst [.int 1])
  e2 : H h2 = some (.lst [.int 0, .ref h1])
  e3 : H h3 = some (.lst [.int 2, .int 0])
  e4 : H h4 = some (.lst X)
  e5 : H o1 = some (.lst Y)
theorem Fd.ext {h1 h2 h3 h4 o1 : Addr} {X Y : List V} {H H' : Hp} (f : Fd h1 h2 h3 h4 o1 X Y H) (e : Ext H H') : Fd h1 h2 h3 h4 o1 X Y H' := ⟨e _ _ f.e1 nt_lst, e _ _ f.e2 nt_lst, e _ _ f.e3 nt_lst, e _ _ f.e4 nt_lst, e _ _ f.e5 nt_lst⟩
theorem Fd.off {h1 h2 h3 h4 o1 q : Addr} {X Y : List V} {H : Hp} {o : HO} (f : Fd h1 h2 h3 h4 o1 X Y H) (n : ∀ b u, H b = some (.lst u) → b = q → (b = h1 ∨ b = h2 ∨ b = h3 ∨ b = h4 ∨ b = o1) → False) : Fd h1 h2 h3 h4 o1 X Y (upd H q o) :=
  ⟨by rw [upd_ne fun z => n _ _ f.e1 z (.inl rfl)]; exact f.e1, by rw [upd_ne fun z => n _ _ f.e2 z (.inr (.inl rfl))]; exact f.e2, by rw [upd_ne fun z => n _ _ f.e3 z (.inr (.inr (.inl rfl)))]; exact f.e3,
    by rw [upd_ne fun z => n _ _ f.e4 z (.inr (.inr (.inr (.inl rfl))))]; exact f.e4, by rw [upd_ne fun z => n _ _ f.e5 z (.inr (.inr (.inr (.inr rfl))))]; exact f.e5⟩
theorem Fd.held {h1 h2 h3 h4 o1 : Addr} {X' : List V} {H : Hp} (f : Fd h1 h2 h3 h4 o1 [.ref h2, .ref h3] [.int 7] H) : Fd h1 h2 h3 h4 o1 X' [.int 7] (upd H h4 (.lst X')) :=
  ⟨by rw [upd_ne (ne_of f.e1 f.e4 (fun z => by cases z))]; exact f.e1, by rw [upd_ne (ne_of f.e2 f.e4 (fun z => by cases z))]; exact f.e2, by rw [upd_ne (ne_of f.e3 f.e4 (fun z => by cases z))]; exact f.e3, upd_same, by rw [upd_ne (ne_of f.e5 f.e4 (fun z => by cases z))]; exact f.e5⟩
theorem Fd.odd {h1 h2 h3 h4 o1 : Addr} {X Y' : List V} {H : Hp} (f : Fd h1 h2 h3 h4 o1 (.ref h2 :: X) [.int 7] H) : Fd h1 h2 h3 h4 o1 (.ref h2 :: X) Y' (upd H o1 (.lst Y')) :=
  ⟨by rw [upd_ne (ne_of f.e1 f.e5 (fun z => by cases z))]; exact f.e1, by rw [upd_ne (ne_of f.e2 f.e5 (fun z => by cases z))]; exact f.e2, by rw [upd_ne (ne_of f.e3 f.e5 (fun z => by cases z))]; exact f.e3, by rw [upd_ne (ne_of f.e4 f.e5 (fun z => by cases z))]; exact f.e4, upd_same⟩
theorem Fd.cd {K : PySem.W.Frag} {C h1 h2 h3 h4 o1 : Addr} {Y : List V} {H : Hp} (f : Fd h1 h2 h3 h4 o1 [.ref h2, .ref h3] Y H) : Cd K C H (.ref h4) (some [some [.int 0, .ref h1], some [.int 2, .int 0]]) := by
  have two : ∀ {x y : V} {q : Addr}, H q = some (.lst [x, y]) → (∃ o, SqR K C H x o) → (∃ o, SqR K C H y o) → Pr K C H (.ref q) (some [x, y]) := fun e hx hy => ⟨.inr (.inr ⟨_, _, rfl, .inl e, rfl⟩), fun ys z => by
    cases z
    refine ⟨by show 2 ≤ 1000; decide, fun u hu => ?_⟩
    simp only [List.mem_cons, List.not_mem_nil, or_false] at hu
    rcases hu with rfl | rfl
    · exact hx
    · exact hy⟩
  exact ⟨_, .inr (.inr ⟨h4, _, rfl, .inl f.e4, rfl⟩), .cons (two f.e2 ⟨_, sq_int 0⟩ ⟨some [.int 1], .inr (.inr ⟨h1, _, rfl, .inl f.e1, rfl⟩)⟩) (.cons (two f.e3 ⟨_, sq_int 2⟩ ⟨_, sq_int 0⟩) .nil), by show 2 ≤ 1000; decide⟩
theorem eqt_l {K : PySem.W.Frag} {C : Addr} {n : Nat} {H : Hp} {a b : Addr} {xs ys : List V} (h : H a = some (.lst xs)) (g : H b = some (.lst ys)) (p : Paired (Eqt K C n H) xs ys) (hl : xs.length ≤ 1000000) : Eqt K C (n + 1) H (.ref a) (.ref b) := .inr (.inl ⟨a, b, xs, ys, rfl, rfl, h, g, p, hl⟩)
theorem eqt_u {K : PySem.W.Frag} {C : Addr} {n : Nat} {H : Hp} {a b : Addr} {xs ys : List V} (h : H a = some (.tup xs)) (g : H b = some (.tup ys)) (p : Paired (Eqt K C n H) xs ys) (hl : xs.length ≤ 1000) : Eqt K C (n + 1) H (.ref a) (.ref b) := .inr (.inr (.inl ⟨a, b, xs, ys, rfl, rfl, h, g, p, hl⟩))
theorem stl_nil {K : PySem.W.Frag} {C : Addr} {H : Hp} {e : Addr} (h : H e = some (.lst [])) : StL K C H (.ref e) [] := ⟨⟨[], .inr (.inr ⟨e, [], rfl, .inl h, rfl⟩), .nil, Nat.zero_le _⟩, rfl, fun p hp => by cases hp⟩
end K05

set_option Elab.async false
set_option linter.all false
set_option maxRecDepth 100000
set_option maxHeartbeats 4000000
/-! repr(x), x nested data of ints, texts, lists and tuples; it wants to know that no repr is under way -/
namespace Own
open PySem PySem.Spec PyProof.Rows L2
/-- no dict is in it -/
def rRepr (K : PySem.W.Frag) : List V → Hp → VK → Prop := fun xs H Q => ∃ (a : Addr) (d : PyData), xs = [.ref a] ∧ Dp K H (.ref a) d ∧ d.showable = true ∧ d.hasDict = false ∧ d.depth ≤ 60 ∧ d.shown.length ≤ sizeLine ∧ Q (.str d.shown) H
theorem call_repr {X : Cx} (hg : X.A.guards = some []) (hu : X.A.units + 64 < cLine) : CallR X (.builtin "repr") (rRepr X.K) := by
  rintro pins s σ H xs us Q I r ⟨a, d, rfl, dp, sh, nd, dep, len, q⟩
  obtain ⟨u, rfl, r1⟩ := r.one
  obtain ⟨as, rd⟩ := Dp.reads I d _ u dp r1
  cases (show u = Value.ref a from r1)
  exact repr_of_reads' rd sh (fun z => by rw [nd] at z; cases z) hg (by omega) (fun _ _ e => e) (fun h' t n k => ⟨.str d.shown, H, I.kept k, ⟨t, rfl⟩, q⟩) len
/-- a def whose promise holds where no repr is under way -/
structure FnG (P : Program) (w : World) (K : PySem.W.Frag) (mg : Str → Option Value) (base : Heap) (CX : CXT) (k : Nat) (f : Addr) (fd : FuncData) (ps : List Str) (sp : Sp) : Prop where
  len : ∀ vs H Q E, sp vs H Q E → vs.length = ps.length
  run : ∀ (A : Around) (outer : List Env) (s : Shared) (H : Hp) (args : Args) (us : List Value) (vs : List V) (Q : VK) (E : XK), A.guards = some [] → Room k A → Env0 P w K mg base A outer s H → BindsTo s fd args (ps.zip us) → Vals vs us → sp vs H Q E →
    codeAny (model P w) A (.call (.ref f) args) (CR CX outer P w H s Q E) s
end Own

set_option Elab.async false
set_option linter.all false
set_option maxRecDepth 100000
set_option maxHeartbeats 4000000
namespace K05
open PySem PySem.Spec PyProof.Rows L2 Own
/-! steps as data, for repr -/
/-- the data of such steps -/
def DRow (d : Int × Int) (e : PyData) : Prop := e = .list [.int d.1, .int d.2] ∨ e = .tuple [.int d.1, .int d.2]
theorem shown_int {i : Int} (h0 : 0 ≤ i) (h1 : i < 2 ^ 60) : (PyData.shown (.int i)).length ≤ 20 := by
  have e := int_text_length_le10 (a := i) (k := 19) (by decide) (by omega)
  show (Str.ofString (toString i)).length ≤ 20
  rw [PySem.ofString_length]
  exact e
theorem log_int {i : Int} (h0 : 0 ≤ i) (h1 : i < 2 ^ 60) : i.natAbs.log2 < 60 := by
  by_cases z : i.natAbs = 0
  · rw [z]
    decide
  · exact (Nat.log2_lt z).mpr (by omega)
theorem wt_int {i : Int} (h0 : 0 ≤ i) (h1 : i < 2 ^ 60) : PyData.weight (.int i) ≤ 60 := by
  have := log_int h0 h1
  show (if i == 0 then 0 else i.natAbs.log2 + 1) ≤ 60
  split <;> omega
structure DOk (e : PyData) : Prop where
  s : e.showable = true
  n : e.hasDict = false
  d : e.depth ≤ 1
  l : e.leavesShort 20 = true
  w : e.weight ≤ 130
theorem DRow.ok {d : Int × Int} {e : PyData} (h : DRow d e) (a0 : 0 ≤ d.1) (a1 : d.1 < 2 ^ 60) (b0 : 0 ≤ d.2) (b1 : d.2 < 2 ^ 60) : DOk e := by
  have s1 : PyData.showable (.int d.1) = true := decide_eq_true (show d.1.natAbs.log2 < 1920 by have := log_int a0 a1; omega)
  have s2 : PyData.showable (.int d.2) = true := decide_eq_true (show d.2.natAbs.log2 < 1920 by have := log_int b0 b1; omega)
  have l1 : PyData.leavesShort 20 (.int d.1) = true := by
    simp only [PyData.leavesShort, decide_eq_true_eq]
    exact shown_int a0 a1
  have l2 : PyData.leavesShort 20 (.int d.2) = true := by
    simp only [PyData.leavesShort, decide_eq_true_eq]
    exact shown_int b0 b1
  have w1 := wt_int a0 a1
  have w2 := wt_int b0 b1
  rcases h with rfl | rfl
  · refine ⟨?_, ?_, ?_, ?_, ?_⟩
    · simp only [PyData.showable, PyData.showableAll] at s1 s2 ⊢
      rw [s1, s2]
      rfl
    · rfl
    · show max 0 (max 0 0) + 1 ≤ 1
      decide
    · simp only [PyData.leavesShort, PyData.leavesShortAll] at l1 l2 ⊢
      rw [l1, l2]
      rfl
    · simp only [PyData.weight, PyData.weightAll] at w1 w2 ⊢
      omega
  · refine ⟨?_, ?_, ?_, ?_, ?_⟩
    · simp only [PyData.showable, PyData.showableAll] at s1 s2 ⊢
      rw [s1, s2]
      rfl
    · rfl
    · show max 0 (max 0 0) + 1 ≤ 1
      decide
    · simp only [PyData.leavesShort, PyData.leavesShortAll] at l1 l2 ⊢
      rw [l1, l2]
      rfl
    · simp only [PyData.weight, PyData.weightAll] at w1 w2 ⊢
      omega
theorem all_ok : ∀ {L : List (Int × Int)} {es : List PyData}, Paired DRow L es → (∀ d ∈ L, 0 ≤ d.1 ∧ d.1 < 2 ^ 60 ∧ 0 ≤ d.2 ∧ d.2 < 2 ^ 60) → PyData.showableAll es = true ∧ PyData.hasDictAll es = false ∧ PyData.depthAll es ≤ 1 ∧ PyData.leavesShortAll 20 es = true ∧ PyData.weightAll es ≤ 131 * L.length
  | _, _, .nil, _ => ⟨rfl, rfl, Nat.zero_le _, rfl, Nat.zero_le _⟩
  | _, _, .cons (a := d) (b := e) h t, hb => by
    obtain ⟨q1, q2, q3, q4, q5⟩ := all_ok t fun d hd => hb d (List.mem_cons_of_mem _ hd)
    obtain ⟨b1, b2, b3, b4⟩ := hb d List.mem_cons_self
    have o := h.ok b1 b2 b3 b4
    obtain ⟨o1, o2, o3, o4, o5⟩ := o
    refine ⟨?_, ?_, ?_, ?_, ?_⟩
    · simp only [PyData.showableAll]
      rw [o1, q1]
      rfl
    · simp only [PyData.hasDictAll]
      rw [o2, q2]
      rfl
    · show max (PyData.depth e) (PyData.depthAll _) ≤ 1
      omega
    · simp only [PyData.leavesShortAll]
      rw [o4, q4]
      rfl
    · simp only [PyData.weightAll, List.length_cons]
      omega
/-- what repr asks of a thing's data -/
structure ROk (e : PyData) : Prop where
  s : e.showable = true
  n : e.hasDict = false
  d : e.depth ≤ 60
  l : e.shown.length ≤ sizeLine
theorem rok_of {L : List (Int × Int)} {es : List PyData} {d : PyData} (h : Paired DRow L es) (hb : ∀ d ∈ L, 0 ≤ d.1 ∧ d.1 < 2 ^ 60 ∧ 0 ≤ d.2 ∧ d.2 < 2 ^ 60) (hl : L.length ≤ 200) (e : d = .list es ∨ d = .tuple es) : ROk d := by
  obtain ⟨q1, q2, q3, q4, q5⟩ := all_ok h hb
  have fin : ∀ d : PyData, d.leavesShort 20 = true → d.weight ≤ 131 * L.length → d.shown.length ≤ sizeLine := fun d h1 h2 => by
    have z := PyData.shown_le 20 (by decide) d h1
    have z2 : sizeLine = 16777216 := by decide
    rw [z2]
    have z3 : (20 + 2) * d.weight ≤ 22 * (131 * L.length) := Nat.mul_le_mul_left 22 h2
    omega
  rcases e with rfl | rfl
  · exact ⟨by simp only [PyData.showable]; exact q1, by show PyData.hasDictAll es = false; exact q2, by show PyData.depthAll es + 1 ≤ 60; omega, fin _ (by simp only [PyData.leavesShort]; exact q4) (by simp only [PyData.weight]; exact q5)⟩
  · exact ⟨by simp only [PyData.showable]; exact q1, by show PyData.hasDictAll es = false; exact q2, by show PyData.depthAll es + 1 ≤ 60; omega, fin _ (by simp only [PyData.leavesShort]; exact q4) (by simp only [PyData.weight]; exact q5)⟩
theorem ReL.dps {K : PySem.W.Frag} {C : Addr} {S : Addr → Prop} {H : Hp} : ∀ {L : List (Int × Int)} {xs : List V}, ReL K C S H (L.map fun d => .seq [.leaf (.int d.1), .leaf (.int d.2)]) xs → ∃ es, Paired DRow L es ∧ ∀ H', Kp S H H' → DpAll K H' xs es
  | [], xs, h => by
    have h : ReL K C S H [] xs := h
    unfold ReL at h
    subst h
    exact ⟨[], .nil, fun _ _ => .nil⟩
  | d :: L, xs, h => by
    have h : ReL K C S H (.seq [.leaf (.int d.1), .leaf (.int d.2)] :: L.map fun d => .seq [.leaf (.int d.1), .leaf (.int d.2)]) xs := h
    unfold ReL at h
    obtain ⟨x, r, rfl, h1, h2⟩ := h
    obtain ⟨es, q1, q2⟩ := ReL.dps h2
    unfold Re at h1
    obtain ⟨q, ys, rfl, e, n, hy, hl⟩ := h1
    obtain rfl := hy.two
    rcases e with e | e
    · exact ⟨_, .cons (.inl rfl) q1, fun H' k => .cons (.lst (SqL.of (k _ _ n nt_lst e)) (.cons (.int _) (.cons (.int _) .nil))) (q2 H' k)⟩
    · exact ⟨_, .cons (.inr rfl) q1, fun H' k => .cons (.tup (SqT.of (k _ _ n nt_tup e)) (.cons (.int _) (.cons (.int _) .nil))) (q2 H' k)⟩
theorem StR.data {K : PySem.W.Frag} {C : Addr} {S : Addr → Prop} {H : Hp} {v : V} {L : List (Int × Int)} (h : StR K C S H v L) (hl : L.length ≤ 200) : ∃ p d, v = V.ref p ∧ ROk d ∧ ∀ H', Kp S H H' → Dp K H' v d := by
  have r := h.re
  unfold stT Re at r
  obtain ⟨p, xs, rfl, e, n, hx, _⟩ := r
  obtain ⟨es, q1, q2⟩ := hx.dps
  have hb : ∀ d ∈ L, 0 ≤ d.1 ∧ d.1 < 2 ^ 60 ∧ 0 ≤ d.2 ∧ d.2 < 2 ^ 60 := fun d hd => by
    obtain ⟨b1, b2, b3⟩ := h.bd d hd
    exact ⟨(ok_nn h.ok d hd).1, b1, b2, b3⟩
  rcases e with e | e
  · exact ⟨p, .list es, rfl, rok_of q1 hb hl (.inl rfl), fun H' k => .lst (SqL.of (k _ _ n nt_lst e)) (q2 H' k)⟩
  · exact ⟨p, .tuple es, rfl, rok_of q1 hb hl (.inr rfl), fun H' k => .tup (SqT.of (k _ _ n nt_tup e)) (q2 H' k)⟩
end K05

set_option Elab.async false
set_option linter.all false
set_option maxRecDepth 100000
set_option maxHeartbeats 4000000
namespace K05
open PySem PySem.Spec PyProof.Rows L2 Own
/-! steps as functions of the turn: steps with the same rates are the same -/
theorem far {t : Int} : ∀ {L : List (Int × Int)} {l b : Int}, okL l b L → t ≤ l → ∀ f, rateF t f L = f
  | [], l, b, _, _, f => rfl
  | p :: r, l, b, h, hl, f => by
    obtain ⟨h1, h2, h3, h4, h5⟩ := h
    show rateF t (if p.1 ≤ t then p.2 else f) r = f
    rw [if_neg (by omega)]
    exact far h5 (by omega) f
theorem ok_uniq : ∀ {L M : List (Int × Int)} {l b : Int}, okL l b L → okL l b M → (∀ t, l < t → rateF t b L = rateF t b M) → L = M
  | [], [], _, _, _, _, _ => rfl
  | [], q :: s, l, b, _, hM, h => by
    obtain ⟨h1, h2, h3, h4, h5⟩ := hM
    have e : b = rateF q.1 (if q.1 ≤ q.1 then q.2 else b) s := h q.1 h3
    rw [if_pos (Int.le_refl _), far h5 (Int.le_refl _)] at e
    exact absurd e.symm h4
  | p :: r, [], l, b, hL, _, h => by
    obtain ⟨h1, h2, h3, h4, h5⟩ := hL
    have e : rateF p.1 (if p.1 ≤ p.1 then p.2 else b) r = b := h p.1 h3
    rw [if_pos (Int.le_refl _), far h5 (Int.le_refl _)] at e
    exact absurd e h4
  | p :: r, q :: s, l, b, hL, hM, h => by
    obtain ⟨h1, h2, h3, h4, h5⟩ := hL
    obtain ⟨g1, g2, g3, g4, g5⟩ := hM
    have step : ∀ t, rateF t b (p :: r) = rateF t (if p.1 ≤ t then p.2 else b) r := fun t => rfl
    have step2 : ∀ t, rateF t b (q :: s) = rateF t (if q.1 ≤ t then q.2 else b) s := fun t => rfl
    have e1 := h p.1 h3
    rw [step, step2, if_pos (Int.le_refl _), far h5 (Int.le_refl _)] at e1
    have e2 := h q.1 g3
    rw [step, step2, if_pos (Int.le_refl _), far g5 (Int.le_refl _)] at e2
    have eq1 : p.1 = q.1 := by
      by_cases c : p.1 < q.1
      · rw [if_neg (by omega), far g5 (by omega)] at e1
        exact absurd e1 h4
      · by_cases d : q.1 < p.1
        · rw [if_neg (by omega), far h5 (by omega)] at e2
          exact absurd e2.symm g4
        · omega
    have eq2 : p.2 = q.2 := by
      rw [if_pos (by omega), far g5 (by omega)] at e1
      exact e1
    have ep : p = q := by
      cases p
      cases q
      cases eq1
      cases eq2
      rfl
    subst ep
    congr 1
    refine ok_uniq h5 g5 fun t ht => ?_
    have e := h t (by omega)
    rw [step, step2, if_pos (by omega)] at e
    exact e
/-- how many pass at a turn by all of them -/
def sumR (Ls : List (List (Int × Int))) (t : Int) : Int := (Ls.map fun L => rateF t 0 L).sum
/-- ascending from l on -/
def Inc : Int → List Int → Prop
  | _, [] => True
  | l, k :: ks => l < k ∧ Inc k ks
/-- the rates at these turns, where they change -/
def addF (f : Int → Int) : Int → List Int → List (Int × Int)
  | _, [] => []
  | b, k :: ks => if f k ≠ b then (k, f k) :: addF f (f k) ks else addF f b ks
def valF (f : Int → Int) (t : Int) : Int → List Int → Int
  | b, [] => b
  | b, k :: ks => valF f t (if k ≤ t then f k else b) ks
theorem valF_far {f : Int → Int} {t : Int} : ∀ {ks : List Int} {l : Int}, Inc l ks → t ≤ l → ∀ c, valF f t c ks = c
  | [], _, _, _, _ => rfl
  | k :: ks, l, h, hl, c => by
    show valF f t (if k ≤ t then f k else c) ks = c
    have h1 := h.1
    rw [if_neg (by omega)]
    exact valF_far h.2 (by omega) c
theorem addF_far {f : Int → Int} {t : Int} : ∀ {ks : List Int} {l b : Int}, Inc l ks → t ≤ l → ∀ c, rateF t c (addF f b ks) = c
  | [], _, _, _, _, _ => rfl
  | k :: ks, l, b, h, hl, c => by
    have h1 := h.1
    show rateF t c (if f k ≠ b then (k, f k) :: addF f (f k) ks else addF f b ks) = c
    by_cases z : f k ≠ b
    · rw [if_pos z]
      show rateF t (if k ≤ t then f k else c) (addF f (f k) ks) = c
      rw [if_neg (by omega)]
      exact addF_far h.2 (by omega) c
    · rw [if_neg z]
      exact addF_far h.2 (by omega) c
theorem addF_val {f : Int → Int} {t : Int} : ∀ {ks : List Int} {l b : Int}, Inc l ks → rateF t b (addF f b ks) = valF f t b ks
  | [], _, _, _ => rfl
  | k :: ks, l, b, h => by
    show rateF t b (if f k ≠ b then (k, f k) :: addF f (f k) ks else addF f b ks) = valF f t (if k ≤ t then f k else b) ks
    by_cases z : f k ≠ b
    · rw [if_pos z]
      show rateF t (if k ≤ t then f k else b) (addF f (f k) ks) = _
      by_cases c : k ≤ t
      · rw [if_pos c]
        exact addF_val h.2
      · rw [if_neg c, addF_far h.2 (by omega), valF_far h.2 (by omega)]
    · rw [if_neg z]
      have e : f k = b := Classical.byContradiction z
      rw [e, ite_self]
      exact addF_val h.2
theorem valF_fun {f : Int → Int} {t : Int} : ∀ {ks : List Int} {l : Int}, Inc l ks → (∀ s t, l ≤ s → s ≤ t → (∀ k ∈ ks, ¬ (s < k ∧ k ≤ t)) → f s = f t) → l ≤ t → valF f t (f l) ks = f t
  | [], l, _, hc, hl => hc l t (Int.le_refl _) hl fun k hk => by cases hk
  | k :: ks, l, h, hc, hl => by
    have h1 := h.1
    show valF f t (if k ≤ t then f k else f l) ks = f t
    by_cases c : k ≤ t
    · rw [if_pos c]
      refine valF_fun h.2 (fun s u h2 h3 h4 => hc s u (by omega) h3 fun k' hk' => ?_) c
      rcases List.mem_cons.mp hk' with rfl | hk'
      · omega
      · exact h4 k' hk'
    · rw [if_neg c, valF_far h.2 (by omega)]
      refine hc l t (Int.le_refl _) hl fun k' hk' => ?_
      rcases List.mem_cons.mp hk' with rfl | hk'
      · omega
      · have : ∀ {ks : List Int} {l : Int}, Inc l ks → ∀ k' ∈ ks, l < k' := by
          intro ks
          induction ks with
          | nil => intro l _ k' hk'; cases hk'
          | cons a r ih =>
            intro l h k' hk'
            rcases List.mem_cons.mp hk' with rfl | hk'
            · exact h.1
            · have := ih h.2 k' hk'
              have := h.1
              omega
        have := this h.2 k' hk'
        omega
theorem addF_ok {f : Int → Int} (h0 : ∀ t, 0 ≤ f t) : ∀ {ks : List Int} {l b : Int}, Inc l ks → -1 ≤ l → (∀ T, (∀ k ∈ ks, k ≤ T) → l ≤ T → valF f T b ks = 0) → okL l b (addF f b ks)
  | [], l, b, _, hl, hz => hz l (fun k hk => by cases hk) (Int.le_refl _)
  | k :: ks, l, b, h, hl, hz => by
    have h1 := h.1
    show okL l b (if f k ≠ b then (k, f k) :: addF f (f k) ks else addF f b ks)
    have tail : ∀ T, (∀ k' ∈ ks, k' ≤ T) → k ≤ T → valF f T (f k) ks = 0 := fun T h2 h3 => by
      have e := hz T (fun k' hk' => by
        rcases List.mem_cons.mp hk' with rfl | hk'
        · exact h3
        · exact h2 k' hk') (by omega)
      have e : valF f T (if k ≤ T then f k else b) ks = 0 := e
      rw [if_pos h3] at e
      exact e
    by_cases z : f k ≠ b
    · rw [if_pos z]
      exact ⟨by show 0 ≤ k; omega, h0 k, h1, z, addF_ok h0 h.2 (by omega) tail⟩
    · rw [if_neg z]
      have e : f k = b := Classical.byContradiction z
      rw [e] at tail
      exact ok_less5 (addF_ok h0 h.2 (by omega) tail) (by omega)
where
  ok_less5 : ∀ {L : List (Int × Int)} {l l' b : Int}, okL l b L → l' ≤ l → okL l' b L
    | [], _, _, _, h, _ => h
    | p :: r, l, l', b, h, e => by
      obtain ⟨h1, h2, h3, h4, h5⟩ := h
      exact ⟨h1, h2, by omega, h4, h5⟩
/-- between its turns a rate stays -/
theorem rate_const {s t : Int} (hst : s ≤ t) : ∀ {L : List (Int × Int)}, (∀ p ∈ L, ¬ (s < p.1 ∧ p.1 ≤ t)) → ∀ c, rateF s c L = rateF t c L
  | [], _, _ => rfl
  | p :: r, h, c => by
    have h1 := h p List.mem_cons_self
    show rateF s (if p.1 ≤ s then p.2 else c) r = rateF t (if p.1 ≤ t then p.2 else c) r
    have e : (if p.1 ≤ s then p.2 else c) = (if p.1 ≤ t then p.2 else c) := by
      by_cases z : p.1 ≤ s
      · rw [if_pos z, if_pos (by omega)]
      · rw [if_neg z, if_neg (by omega)]
    rw [e]
    exact rate_const hst (fun q hq => h q (List.mem_cons_of_mem _ hq)) _
/-- behind all turns the rate is the last one -/
theorem rate_end {t : Int} : ∀ {L : List (Int × Int)} {l b : Int}, okL l b L → (∀ p ∈ L, p.1 ≤ t) → rateF t b L = 0
  | [], _, b, h, _ => h
  | p :: r, l, b, h, ht => by
    obtain ⟨h1, h2, h3, h4, h5⟩ := h
    show rateF t (if p.1 ≤ t then p.2 else b) r = 0
    rw [if_pos (ht p List.mem_cons_self)]
    exact rate_end h5 fun q hq => ht q (List.mem_cons_of_mem _ hq)
theorem rate_nn {t : Int} : ∀ {L : List (Int × Int)} {l b : Int}, okL l b L → ∀ c, 0 ≤ c → 0 ≤ rateF t c L
  | [], _, _, _, c, hc => hc
  | p :: r, l, b, h, c, hc => by
    obtain ⟨h1, h2, h3, h4, h5⟩ := h
    show 0 ≤ rateF t (if p.1 ≤ t then p.2 else c) r
    refine rate_nn h5 _ ?_
    split <;> assumption
theorem sumR_const {s t : Int} (hst : s ≤ t) : ∀ {Ls : List (List (Int × Int))}, (∀ L ∈ Ls, ∀ p ∈ L, ¬ (s < p.1 ∧ p.1 ≤ t)) → sumR Ls s = sumR Ls t
  | [], _ => rfl
  | L :: Ls, h => by
    show rateF s 0 L + sumR Ls s = rateF t 0 L + sumR Ls t
    rw [rate_const hst (h L List.mem_cons_self), sumR_const hst fun M hM => h M (List.mem_cons_of_mem _ hM)]
theorem sumR_zero {t : Int} : ∀ {Ls : List (List (Int × Int))}, (∀ L ∈ Ls, okL (-1) 0 L) → (∀ L ∈ Ls, ∀ p ∈ L, p.1 ≤ t) → sumR Ls t = 0
  | [], _, _ => rfl
  | L :: Ls, h, g => by
    show rateF t 0 L + sumR Ls t = 0
    rw [rate_end (h L List.mem_cons_self) (g L List.mem_cons_self), sumR_zero (fun M hM => h M (List.mem_cons_of_mem _ hM)) fun M hM => g M (List.mem_cons_of_mem _ hM)]
    rfl
theorem sumR_nn {t : Int} : ∀ {Ls : List (List (Int × Int))}, (∀ L ∈ Ls, okL (-1) 0 L) → 0 ≤ sumR Ls t
  | [], _ => Int.le_refl _
  | L :: Ls, h => by
    show 0 ≤ rateF t 0 L + sumR Ls t
    have h1 := rate_nn (t := t) (h L List.mem_cons_self) 0 (Int.le_refl _)
    have h2 := sumR_nn (t := t) fun M hM => h M (List.mem_cons_of_mem _ hM)
    omega
theorem sumR_ahead {t : Int} (ht : t ≤ -1) : ∀ {Ls : List (List (Int × Int))}, (∀ L ∈ Ls, okL (-1) 0 L) → sumR Ls t = 0
  | [], _ => rfl
  | L :: Ls, h => by
    show rateF t 0 L + sumR Ls t = 0
    rw [far (h L List.mem_cons_self) ht, sumR_ahead ht fun M hM => h M (List.mem_cons_of_mem _ hM)]
    rfl
/-- all turns of some steps -/
def allT (Ls : List (List (Int × Int))) (ks : List Int) : Prop := (∀ L ∈ Ls, ∀ p ∈ L, p.1 ∈ ks) ∧ ∀ k ∈ ks, ∃ L ∈ Ls, ∃ p ∈ L, p.1 = k
/-- the steps added up: what is told of all their turns, ascending -/
theorem added {Ls : List (List (Int × Int))} {ks : List Int} (h : ∀ L ∈ Ls, okL (-1) 0 L) (hk : Inc (-1) ks) (ha : allT Ls ks) : okL (-1) 0 (addF (sumR Ls) 0 ks) ∧ ∀ t, rateF t 0 (addF (sumR Ls) 0 ks) = sumR Ls t := by
  have z : sumR Ls (-1) = 0 := sumR_ahead (Int.le_refl _) h
  have val : ∀ t, -1 ≤ t → valF (sumR Ls) t 0 ks = sumR Ls t := fun t ht => by
    have e := valF_fun (f := sumR Ls) (t := t) hk (fun s u _ h2 h3 => sumR_const h2 fun L hL p hp => h3 _ (ha.1 L hL p hp)) ht
    rw [z] at e
    exact e
  refine ⟨addF_ok (fun t => sumR_nn h) hk (Int.le_refl _) fun T h1 h2 => ?_, fun t => ?_⟩
  · rw [val T h2]
    exact sumR_zero h fun L hL p hp => h1 _ (ha.1 L hL p hp)
  · rw [addF_val hk]
    by_cases c : -1 ≤ t
    · exact val t c
    · rw [valF_far hk (by omega), sumR_ahead (by omega) h]
/-- any steps with these rates are those -/
theorem added_uniq {Ls : List (List (Int × Int))} {ks : List Int} {M : List (Int × Int)} (h : ∀ L ∈ Ls, okL (-1) 0 L) (hk : Inc (-1) ks) (ha : allT Ls ks) (hM : okL (-1) 0 M) (e : ∀ t, 0 ≤ t → rateF t 0 M = sumR Ls t) : addF (sumR Ls) 0 ks = M := by
  obtain ⟨a1, a2⟩ := added h hk ha
  refine ok_uniq a1 hM fun t ht => ?_
  rw [a2 t, e t (by omega)]
end K05

set_option Elab.async false
set_option linter.all false
set_option maxRecDepth 100000
set_option maxHeartbeats 2000000
/-! sorted(d), d a dict whose keys are ints; d.update(xs), xs a list of pairs -/
namespace Own
open PySem PySem.Spec PyProof.Rows L2
theorem int_key {w : Value} {i : Int} {P : Program} {W : World} (h : (mixKind P W).is (Sum.inl i) w = true) : ∃ t, w = .int i t := by
  rcases keyIs_shape (show keyIs (Sum.inl i) w = true from h) with ⟨j, t, e, rfl⟩ | ⟨x, t, e, rfl⟩
  · cases e
    exact ⟨t, rfl⟩
  · cases e
theorem ints_of_keys {P : Program} {W : World} : ∀ {ns : List Int} {vs : List Value} {kvs : List (L2.Key × Value)}, kvs.map (·.1) = ns.map Sum.inl → vs.length = kvs.length → (∀ (j : Nat) (v : Value), vs[j]? = some v → ∃ k x, kvs[j]? = some (k, x) ∧ (mixKind P W).is k v = true) → IntsAre vs ns
  | [], [], _, _, _, _ => .nil
  | [], _ :: _, [], _, h, _ => by cases h
  | [], _ :: _, _ :: _, e, _, _ => by cases e
  | n :: ns, [], [], e, _, _ => by cases e
  | n :: ns, [], _ :: _, _, h, _ => by cases h
  | n :: ns, v :: vs, [], _, h, _ => by cases h
  | n :: ns, v :: vs, p :: kvs, e, h, k => by
    obtain ⟨e1, e2⟩ := List.cons.inj e
    obtain ⟨k0, x0, g, his⟩ := k 0 v rfl
    have g' : p = (k0, x0) := Option.some.inj g
    subst g'
    have e1 : k0 = Sum.inl n := e1
    subst e1
    obtain ⟨t, rfl⟩ := int_key his
    exact .cons n t (ints_of_keys e2 (Nat.succ.inj h) fun j u hu => k (j + 1) u hu)
def rSortedDk : List V → Hp → VK → Prop := fun vs H Q => ∃ (a : Addr) (kvs : List (L2.Key × V)) (ns : List Int), vs = [V.ref a] ∧ H a = some (.dK kvs) ∧ kvs.map (·.1) = ns.map Sum.inl ∧
  ∀ (ns' : List Int) (p : Addr), ns'.Perm ns → ns'.Pairwise (· ≤ ·) → H p = none → Q (.ref p) (upd H p (.lst (ns'.map V.int)))
theorem kv_keys : ∀ {kvs : List (L2.Key × V)} {vs : List (L2.Key × Value)}, KV kvs vs → kvs.map (·.1) = vs.map (·.1) := by
  intro kvs vs r
  unfold KV at r
  induction r with
  | nil => rfl
  | cons h _ ih => rw [List.map_cons, List.map_cons, ih, h.1]
theorem cr_sortedDk {X : Cx} (hc : X.calm = true) : CallR X (.builtin "sorted") rSortedDk := by
  intro pins s σ H xs us Q I r h
  obtain ⟨a, kvs, ns, rfl, ha, hk, q⟩ := h
  rw [Vals.ref1 r]
  obtain ⟨z, hd, vs, rel, dd⟩ := dk_of I.hok ha
  obtain ⟨ep, hat⟩ := dd.dictAt
  have hl : vs.length = kvs.length := rel.length.symm
  have hz : vs.length ≤ sizeLine := by rw [hl]; exact z
  have hkeys : vs.map (·.1) = ns.map Sum.inl := by rw [← kv_keys rel]; exact hk
  refine Calls.call_function_entry kind_sorted plain_sorted entry_sorted (args_sorted1 _) ?_
  unfold Builtin.«sorted»
  refine wpAny_bind (m := checkCount "sorted" 1 1 _) (wpAny_pure (wpAny_bind ?_))
  refine PySem.W.kdu_collect (PySem.W.kdl_dict (knd := mixKind X.prog X.w) (kvs := vs) (ep := ep) hd) (I.ok.hd hc) hat hz fun h' tk acc hkp hacc => ?_
  have la : acc.toList.length = vs.length := by rw [Array.length_toList]; exact hacc.1
  have hi : IntsAre acc.toList ns := ints_of_keys (P := X.prog) (W := X.w) hkeys la fun j v e => hacc.2 j v (by rw [← Array.getElem?_toList]; exact e)
  refine wpAny_bind (wpAny_newList (s := { s with heap := h', toks := tk }) ?_ (by rw [la]; exact hz))
  have at1 : (h'.push (seqObj "list" acc.toList.toArray 0)).get? h'.objs.size = some (seqObj "list" acc.toList.toArray 0) := Heap.get?_push_size _ rfl
  show wpAny _ _ _ _ _ { s with heap := h'.push (seqObj "list" acc.toList.toArray 0), toks := tk }
  refine wpAny_bind (wpAny_holding (wpAny_call_entry (s := { s with heap := h'.push (seqObj "list" acc.toList.toArray 0), toks := tk }) slot_list_sort ⟨_, at1, rfl⟩ entry_list_sort
    (SrtO.list_sort_ord (s := { s with heap := h'.push (seqObj "list" acc.toList.toArray 0), toks := tk }) SrtO.swo_int at1 (by rw [la]; exact hz) (fun h2 => SrtO.ints_sortable hi h2) fun out h1 h2 => ⟨_, rfl, wpAny_pure ⟨_, rfl, ?_⟩⟩) (args_list_sort _)))
  obtain ⟨k1, k2, k3⟩ := SrtO.ints_out hi h1 h2
  obtain ⟨ep2, he'⟩ := PyProof.Rows.sortedHeap_at (vs := acc.toList) (out := out.toArray) at1
  have hlen : ((out.map SrtO.iv).map V.int).length ≤ sizeLine := by
    rw [List.length_map, k2.length_eq, ← hi.length, la]
    exact hz
  have I1 := I.kept (t' := tk) hkp
  have old : ∀ b o, h'.get? b = some o → (sortedHeap (h'.push (seqObj "list" acc.toList.toArray 0)) h'.objs.size acc.toList out.toArray).get? b = some o := fun b o e2 => by
    have lt := Heap.lt_size e2
    rw [PyProof.Rows.sortedHeap_old (Nat.ne_of_lt lt) (by rw [size_push']; exact Nat.lt_succ_of_lt lt)]
    exact Heap.get?_push_of_some _ e2
  exact ⟨.ref _, upd H h'.objs.size (.lst ((out.map SrtO.iv).map V.int)), I1.laid (t' := tk) old (Nat.le_refl _) ⟨hlen, out, ep2, vals_of_ints k1, he'⟩, rfl, q _ _ k2 k3 (I1.hok.fresh (Nat.le_refl _))⟩
/-! ### d.update(xs) -/
/-- the pairs are tuples -/
def PairsT (H : Hp) (xs : List V) (kvs : List (L2.Key × V)) : Prop := Paired (fun x (p : L2.Key × V) => ∃ t, x = V.ref t ∧ H t = some (.tup [kV p.1, p.2])) xs kvs
def rUpdP : V → List V → Hp → VK → Prop := fun x vs H Q => ∃ (d l : Addr) (acc kvs : List (L2.Key × V)) (xs : List V), x = .ref d ∧ vs = [.ref l] ∧ H d = some (.dK acc) ∧ H l = some (.lst xs) ∧ PairsT H xs kvs ∧ acc.length + xs.length ≤ sizeLine ∧ Q .non (upd H d (.dK (mergeK acc kvs)))
theorem addr_inj {x : V} {t u : Addr} (h : x = V.ref t) (g : x = V.ref u) : t = u := V.ref.inj (h.symm.trans g)
def unref : Value → Addr
  | .ref a => a
  | _ => 0
theorem pairs_at {X : Cx} {pins : List (Addr × Obj)} {σ : L2.St} {H : Hp} {s : Shared} (I : Inv X pins σ H s) : ∀ {xs : List V} {kvs : List (L2.Key × V)} {its : List Value}, PairsT H xs kvs → Vals xs its →
    ∃ vs : List (L2.Key × Value), KV kvs vs ∧ ∃ ps : List (Value × Value), ps.length = kvs.length ∧ (∀ (j : Nat) (k v : Value), ps[j]? = some (k, v) → (∃ t, its[j]? = some (.ref t) ∧ PairAt s.heap t k v) ∧ ∃ kk, vs[j]? = some (kk, v) ∧ (mixKind X.prog X.w).is kk k = true)
  | _, _, _, .nil, .nil => ⟨[], .nil, [], rfl, fun j k v h => by cases h⟩
  | _, _, _, .cons (b := p) h t, .cons r rs => by
    obtain ⟨a, rfl, e⟩ := h
    obtain ⟨vs, q1, ps, q2, q3⟩ := pairs_at I t rs
    obtain ⟨_, its, rv, ot, hot, hct, nt, hdt⟩ := (show ObjOk X.prog X.w H s.heap a (.tup [kV p.1, p.2]) from I.hok a _ e)
    cases rv with
    | cons r1 r2 =>
      cases r2 with
      | @cons _ v2 _ _ r2 r3 =>
        cases r3
        cases r
        rename_i v1
        refine ⟨(p.1, v2) :: vs, .cons ⟨rfl, r2⟩ q1, (v1, v2) :: ps, by rw [List.length_cons, List.length_cons, q2], fun j k v h => ?_⟩
        cases j with
        | zero =>
          cases h
          exact ⟨⟨a, rfl, .inl ⟨ot, hot, hct, nt, hdt⟩⟩, p.1, rfl, kV_is r1⟩
        | succ j => exact q3 j k v h
theorem mt_updP {X : Cx} (hc : X.calm = true) : MtR X "dict.update" rUpdP := by
  intro pins s σ H x vs v us Q I rx rv h
  obtain ⟨d, l, acc, kvs, xs, rfl, rfl, hd, hl, hp, hz, q⟩ := h
  cases rx
  obtain ⟨u, rfl, ru⟩ := rv.one
  cases ru
  obtain ⟨z, dsm, vacc, rel, dd⟩ := dk_of I.hok hd
  obtain ⟨z2, its, n, r, hob⟩ := I.hok l _ hl
  obtain ⟨kv2, q1, ps, q2, q3⟩ := pairs_at I hp r
  have lk : kvs.length = xs.length := (Paired.length hp).symm
  have lkv : kv2.length = kvs.length := q1.length.symm
  have hne : ∀ j, j < ps.length → unref ((its[j]?).getD .none) ≠ d := fun j hj e => by
    obtain ⟨⟨k, w⟩, ew⟩ : ∃ p, ps[j]? = some p := ⟨ps[j], List.getElem?_eq_getElem hj⟩
    obtain ⟨⟨t, e1, e2⟩, _⟩ := q3 j k w ew
    rw [e1] at e
    have e : t = d := e
    obtain ⟨o, ho, hcl⟩ := e2.there
    obtain ⟨ob, es, ep, h1, h2, _⟩ := dd
    rw [e, h1] at ho
    have eo := Option.some.inj ho
    rw [← eo, h2.1] at hcl
    rcases hcl with z | z
    · exact absurd (Value.type.inj z) (by decide)
    · exact absurd (Value.type.inj z) (by decide)
  refine call_update_pairs (knd := mixKind X.prog X.w) (kvs := kv2) (PairArg.list l its.toArray (fun j => unref ((its[j]?).getD .none)) ps) (I.ok.hd hc)
    ⟨⟨_, n, hob, rfl, rfl, rfl⟩, by rw [List.size_toArray, q2, lk, ← r.length], fun j k w hj => ?_⟩ (fun hb => ?_) ⟨by rw [lkv, q2], fun j k w hj => ?_⟩ dd (by rw [q2, lk, ← rel.length]; exact hz) fun h' tk hd' hs => ?_
  · obtain ⟨⟨t, e1, e2⟩, _⟩ := q3 j k w hj
    have e3 : its[j]? = some (.ref t) := e1
    refine ⟨?_, ?_⟩
    · show its.toArray[j]? = some (Value.ref (unref ((its[j]?).getD .none)))
      rw [List.getElem?_toArray, e3]
      rfl
    · show PairAt s.heap (unref ((its[j]?).getD .none)) k w
      rw [e3]
      exact e2
  · rcases List.mem_cons.mp hb with e | hb
    · rw [e, hl] at hd
      cases hd
    · obtain ⟨j, hj, e⟩ := List.mem_map.mp hb
      exact hne j (List.mem_range.mp hj) e
  · exact (q3 j k w hj).2
  · have hz2 : (mergeK acc kvs).length ≤ sizeLine := by
      have e : (mergeK acc kvs).length = (merged vacc kv2).length := Paired.length (KV.merge q1 rel)
      have e2 := merged_length vacc kv2
      have e3 : acc.length = vacc.length := Paired.length rel
      omega
    refine ⟨.non, _, I.write (e := d) (t' := tk) (o := .dK (mergeK acc kvs)) (by rw [hd]; trivial) (.inl rfl) (fun b u hb hu => hs b u hb List.not_mem_nil hu) (let ⟨o, _, _, ho, _⟩ := hd'; ⟨o, ho⟩) ⟨hz2, dsm, _, KV.merge q1 rel, hd'⟩, rfl, q⟩
end Own

set_option Elab.async false
set_option linter.all false
set_option maxRecDepth 100000
set_option maxHeartbeats 4000000
namespace K05
open PySem PySem.Spec PyProof.Rows L2 Own
/-! change_from, change_by_steps, steps_of -/
def dkv (g : Int → Int) (ks : List Int) : List (L2.Key × V) := ks.map fun k => (Sum.inl k, V.int (g k))
/-- a dict of changes at d -/
structure DCh (H : Hp) (d : Addr) (ks : List Int) (g : Int → Int) : Prop where
  at_ : H d = some (.dK (dkv g ks))
  nd : ks.Nodup
  out : ∀ k, k ∉ ks → g k = 0
  nn : ∀ k ∈ ks, 0 ≤ k
theorem val_dkv {g : Int → Int} {t : Int} : ∀ {ks : List Int}, valV (dkv g ks) (Sum.inl t) = if t ∈ ks then some (V.int (g t)) else none
  | [] => rfl
  | k :: ks => by
    show valV ((Sum.inl k, V.int (g k)) :: dkv g ks) (Sum.inl t) = _
    by_cases z : k = t
    · subst z
      rw [valV_pos rfl, if_pos List.mem_cons_self]
    · have z2 : ¬ ((Sum.inl k : L2.Key) = Sum.inl t) := fun e => z (Sum.inl.inj e)
      rw [valV_neg z2, val_dkv]
      by_cases m : t ∈ ks
      · rw [if_pos m, if_pos (List.mem_cons_of_mem _ m)]
      · rw [if_neg m, if_neg (fun h => by
          rcases List.mem_cons.mp h with h | h
          · exact z h.symm
          · exact m h)]
def addK (ks : List Int) (t : Int) : List Int := if t ∈ ks then ks else ks ++ [t]
theorem any_dkv {g : Int → Int} {t : Int} : ∀ {ks : List Int}, ((dkv g ks).any fun kv => decide (kv.1 = (Sum.inl t : L2.Key))) = decide (t ∈ ks)
  | [] => by simp [dkv]
  | k :: ks => by
    show (decide ((Sum.inl k : L2.Key) = Sum.inl t) || (dkv g ks).any fun kv => decide (kv.1 = (Sum.inl t : L2.Key))) = decide (t ∈ k :: ks)
    rw [any_dkv]
    by_cases z : k = t
    · subst z
      simp
    · have z2 : ¬ ((Sum.inl k : L2.Key) = Sum.inl t) := fun e => z (Sum.inl.inj e)
      have z3 : ¬ t = k := fun e => z e.symm
      rw [decide_eq_false z2]
      simp [z3]
theorem put_dkv {g : Int → Int} {t x : Int} {ks : List Int} : putK (dkv g ks) (Sum.inl t) (V.int x) = dkv (fun k => if k = t then x else g k) (addK ks t) := by
  unfold putK addK
  rw [any_dkv]
  by_cases m : t ∈ ks
  · rw [if_pos (decide_eq_true m), if_pos m]
    unfold dkv
    rw [List.map_map]
    refine List.map_congr_left fun k hk => ?_
    show (if (Sum.inl k : L2.Key) = Sum.inl t then (Sum.inl k, V.int x) else (Sum.inl k, V.int (g k))) = (Sum.inl k, V.int (if k = t then x else g k))
    by_cases z : k = t
    · rw [if_pos (congrArg Sum.inl z), if_pos z]
    · rw [if_neg (fun e => z (Sum.inl.inj e)), if_neg z]
  · rw [if_neg (by simpa using m), if_neg m]
    unfold dkv
    rw [List.map_append]
    have e : ks.map (fun k => ((Sum.inl k : L2.Key), V.int (g k))) = ks.map (fun k => ((Sum.inl k : L2.Key), V.int (if k = t then x else g k))) := List.map_congr_left fun k hk => by rw [if_neg (fun z => m (by rw [← z]; exact hk))]
    rw [e]
    show _ = _ ++ [((Sum.inl t : L2.Key), V.int (if t = t then x else g t))]
    rw [if_pos rfl]
theorem mem_addK {ks : List Int} {t k : Int} : k ∈ addK ks t ↔ k ∈ ks ∨ k = t := by
  unfold addK
  by_cases m : t ∈ ks
  · rw [if_pos m]
    exact ⟨.inl, fun h => h.elim id fun e => by rw [e]; exact m⟩
  · rw [if_neg m, List.mem_append, List.mem_singleton]
theorem nd_addK {ks : List Int} {t : Int} (h : ks.Nodup) : (addK ks t).Nodup := by
  unfold addK
  by_cases m : t ∈ ks
  · rw [if_pos m]
    exact h
  · rw [if_neg m]
    refine List.nodup_append.mpr ⟨h, List.nodup_cons.mpr ⟨List.not_mem_nil, List.nodup_nil⟩, fun a ha b hb e => m ?_⟩
    rw [← List.mem_singleton.mp hb, ← e]
    exact ha
theorem len_addK {ks : List Int} {t : Int} : (addK ks t).length ≤ ks.length + 1 := by
  unfold addK
  split
  · omega
  · rw [List.length_append]
    exact Nat.le_refl _
/-- all changes of some steps -/
def stepD : (Int → Int) → Int → List (Int × Int) → Int → Int
  | g, _, [] => g
  | g, b, p :: r => stepD (fun t => if t = p.1 then g p.1 + (p.2 - b) else g t) p.2 r
def keyD : List Int → List (Int × Int) → List Int
  | ks, [] => ks
  | ks, p :: r => keyD (addK ks p.1) r
def jmp (L : List (Int × Int)) (b t : Int) : Int := rateF t b L - rateF (t - 1) b L
theorem stepD_eq {t : Int} : ∀ {L : List (Int × Int)} {l b : Int} {g : Int → Int}, okL l b L → stepD g b L t = g t + jmp L b t
  | [], l, b, g, _ => by
    show g t = g t + (b - b)
    omega
  | p :: r, l, b, g, h => by
    obtain ⟨h1, h2, h3, h4, h5⟩ := h
    show stepD (fun t => if t = p.1 then g p.1 + (p.2 - b) else g t) p.2 r t = g t + (rateF t (if p.1 ≤ t then p.2 else b) r - rateF (t - 1) (if p.1 ≤ t - 1 then p.2 else b) r)
    rw [stepD_eq h5]
    show (if t = p.1 then g p.1 + (p.2 - b) else g t) + (rateF t p.2 r - rateF (t - 1) p.2 r) = _
    by_cases c : t = p.1
    · subst c
      rw [if_pos rfl, if_pos (Int.le_refl _), if_neg (by omega), far h5 (Int.le_refl _), far h5 (by omega), far h5 (by omega)]
      omega
    · rw [if_neg c]
      by_cases d : t < p.1
      · rw [if_neg (by omega), if_neg (by omega), far h5 (by omega), far h5 (by omega), far h5 (by omega), far h5 (by omega)]
        omega
      · rw [if_pos (by omega), if_pos (by omega)]
theorem mem_keyD : ∀ {L : List (Int × Int)} {ks : List Int} {k : Int}, k ∈ keyD ks L ↔ k ∈ ks ∨ ∃ p ∈ L, p.1 = k
  | [], ks, k => ⟨.inl, fun h => h.elim id fun ⟨p, hp, _⟩ => by cases hp⟩
  | q :: r, ks, k => by
    show k ∈ keyD (addK ks q.1) r ↔ _
    rw [mem_keyD, mem_addK]
    constructor
    · rintro ((h | rfl) | ⟨p, hp, rfl⟩)
      · exact .inl h
      · exact .inr ⟨q, List.mem_cons_self, rfl⟩
      · exact .inr ⟨p, List.mem_cons_of_mem _ hp, rfl⟩
    · rintro (h | ⟨p, hp, rfl⟩)
      · exact .inl (.inl h)
      · rcases List.mem_cons.mp hp with rfl | hp
        · exact .inl (.inr rfl)
        · exact .inr ⟨p, hp, rfl⟩
theorem len_keyD : ∀ {L : List (Int × Int)} {ks : List Int}, (keyD ks L).length ≤ ks.length + L.length
  | [], ks => Nat.le_refl _
  | q :: r, ks => by
    show (keyD (addK ks q.1) r).length ≤ ks.length + (r.length + 1)
    have h1 := len_keyD (L := r) (ks := addK ks q.1)
    have h2 := len_addK (ks := ks) (t := q.1)
    omega
/-- what the rate was ahead of each of these turns -/
def Jmp (f : Int → Int) : Int → List Int → Prop
  | _, [] => True
  | b, k :: ks => f (k - 1) = b ∧ Jmp f (f k) ks
theorem inc_lt : ∀ {ks : List Int} {l : Int}, Inc l ks → ∀ k ∈ ks, l < k
  | [], _, _, k, hk => by cases hk
  | a :: r, l, h, k, hk => by
    rcases List.mem_cons.mp hk with rfl | hk
    · exact h.1
    · have := inc_lt h.2 k hk
      have := h.1
      omega
theorem jmp_of {f : Int → Int} : ∀ {ks : List Int} {l : Int}, Inc l ks → (∀ s t, l ≤ s → s ≤ t → (∀ k ∈ ks, ¬ (s < k ∧ k ≤ t)) → f s = f t) → Jmp f (f l) ks
  | [], _, _, _ => trivial
  | k :: ks, l, h, hc => by
    have h1 := h.1
    refine ⟨(hc l (k - 1) (Int.le_refl _) (by omega) fun k' hk' => ?_).symm, jmp_of h.2 fun s t h2 h3 h4 => hc s t (by omega) h3 fun k' hk' => ?_⟩
    · rcases List.mem_cons.mp hk' with rfl | hk'
      · omega
      · have := inc_lt h.2 k' hk'
        omega
    · rcases List.mem_cons.mp hk' with rfl | hk'
      · omega
      · exact h4 k' hk'
theorem inc_of {ns : List Int} (hp : ns.Pairwise (· ≤ ·)) (hn : ns.Nodup) : ∀ {l : Int}, (∀ k ∈ ns, l < k) → Inc l ns := by
  induction ns with
  | nil => intro l _; trivial
  | cons a r ih =>
    intro l h
    rw [List.pairwise_cons] at hp
    rw [List.nodup_cons] at hn
    refine ⟨h a List.mem_cons_self, ih hp.2 hn.2 fun k hk => ?_⟩
    have h1 := hp.1 k hk
    have h2 : a ≠ k := fun e => hn.1 (by rw [e]; exact hk)
    omega
def spCF : Sp := fun vs H Q _ => ∃ (d : Addr) (ks : List Int) (g : Int → Int) (t a : Int), vs = [.ref d, .int t, .int a] ∧ DCh H d ks g ∧ ks.length ≤ 1000000 ∧ 0 ≤ t ∧ ∀ H', (∀ b o, b ≠ d → H b = some o → H' b = some o) → DCh H' d (addK ks t) (fun k => if k = t then g t + a else g k) → Q .non H'
def spCBS (K : PySem.W.Frag) (C : Addr) : Sp := fun vs H Q _ => ∃ (d : Addr) (ks : List Int) (g : Int → Int) (v : V) (L : List (Int × Int)), vs = [.ref d, v, .int 0, .int 1] ∧ DCh H d ks g ∧ ks.length + L.length ≤ 1000000 ∧ StL K C H v L ∧ ∀ H', (∀ b o, b ≠ d → H b = some o → H' b = some o) → DCh H' d (keyD ks L) (stepD g 0 L) → Q .non H'
/-- the changes of a rate -/
def spSO : Sp := fun vs H Q _ => ∃ (d : Addr) (ks : List Int) (f g : Int → Int), vs = [.ref d] ∧ DCh H d ks g ∧ ks.length ≤ 1000000 ∧ (∀ k, g k = f k - f (k - 1)) ∧ (∀ s t, -1 ≤ s → s ≤ t → (∀ k ∈ ks, ¬ (s < k ∧ k ≤ t)) → f s = f t) ∧ f (-1) = 0 ∧
  ∀ H' p xs ns, Same H H' → H p = none → H' p = some (.lst xs) → Inc (-1) ns → (∀ k, k ∈ ns ↔ k ∈ ks) → Rows H H' xs (addF f 0 ns) → xs.length ≤ ks.length → Q (.ref p) H'
theorem scCF : FnScope ["changes", "turn", "amount"] ["changes", "turn", "amount"] (defScope s_change_from) := ⟨rfl, rfl, rfl, by decide +kernel, rfl, by decide +kernel, by decide +kernel⟩
theorem scCBS : FnScope ["changes", "steps", "turns", "times", "before", "turn", "rate"] ["changes", "steps", "turns", "times"] (defScope s_change_by_steps) := ⟨rfl, rfl, rfl, by decide +kernel, rfl, by decide +kernel, by decide +kernel⟩
theorem scSO : FnScope ["changes", "steps", "rate", "turn"] ["changes"] (defScope s_steps_of) := ⟨rfl, rfl, rfl, by decide +kernel, rfl, by decide +kernel, by decide +kernel⟩
section
variable {P : Program} {w : World} {K : PySem.W.Frag} {mg : Str → Option Value} {base : Heap} {C : Addr}
theorem ok_CF {f : Addr} {fd : FuncData} (F : Fun K "change_from" "change_from" s_change_from f fd) : FnOk P w K mg base CX0 1 f fd ["changes", "turn", "amount"] spCF := by
  refine F.ok scCF (fun vs H Q E h => ?_) (fun cdv A outer s H vs Q E hr h => ?_)
  · obtain ⟨d, ks, g, t, a, rfl, _⟩ := h
    rfl
  · obtain ⟨d, ks, g, t, a, rfl, D, hl, ht, k⟩ := h
    refine ⟨_, (pss_one (ps_dput (hu_of hr) (pv 0) (pv 1) (pe_op op_add (pe_dget2 (hu_of hr) (pv 0) (pv 1) pe_int ⟨by rfl, by rfl, by rfl, by rfl⟩) (pv 2)) rfl)), ?_⟩
    have dg := DGet.k (k := Sum.inl t) D.at_
    refine ⟨_, rfl, d, rfl, .inl ⟨_, .inl D.at_⟩, _, rfl, _, dg, _, rfl, g t, a, ?_, rfl, _, rfl, _, rfl, d, _, rfl, DPut.k (k := Sum.inl t) D.at_ ?_, ?_⟩
    · rw [val_dkv]
      by_cases m : t ∈ ks
      · rw [if_pos m]
        rfl
      · rw [if_neg m, D.out t m]
        rfl
    · unfold dkv
      rw [List.length_map]
      exact Nat.lt_of_le_of_lt hl (by decide)
    · rw [put_dkv]
      refine k _ (fun b o n e => by rw [upd_ne n]; exact e) ⟨upd_same, nd_addK D.nd, fun k hk => ?_, fun k hk => ?_⟩
      · rw [mem_addK] at hk
        rw [if_neg (fun e => hk (.inr e))]
        exact D.out k fun z => hk (.inl z)
      · rcases mem_addK.mp hk with h | rfl
        · exact D.nn k h
        · exact ht
theorem ok_CBS {f fCF : Addr} {fd fdCF : FuncData} (F : Fun K "change_by_steps" "change_by_steps" s_change_by_steps f fd) (FCF : Fun K "change_from" "change_from" s_change_from fCF fdCF) (gCF : mg "change_from" = some (.ref fCF)) (bCF : Binds K fdCF ["changes", "turn", "amount"] []) :
    FnOk P w K mg base CX0 2 f fd ["changes", "steps", "turns", "times"] (spCBS K C) := by
  have GCF : FnOk P w K mg base CX0 1 fCF fdCF ["changes", "turn", "amount"] spCF := ok_CF FCF
  refine F.ok scCBS (fun vs H Q E h => ?_) (fun cdv A outer s H vs Q E hr h => ?_)
  · obtain ⟨d, ks, g, v, L, rfl, _⟩ := h
    rfl
  · obtain ⟨d, ks, g, v, L, rfl, D, hl, hv, k⟩ := h
    refine ⟨_, (pss_cons (ps_set (i := 4) scCBS.nd rfl (Or.inl rfl) pe_int)
  (pss_one (ps_for PassesOwn.never rfl (pi_or (pi_list (pv 1)) (pi_tup (pv 1))) (pg_or (pg_tup rfl (pgs_cons (pg_name (i := 5) (x := "turn") scCBS.nd rfl (Or.inl rfl)) (pgs_cons (pg_name (i := 6) (x := "rate") scCBS.nd rfl (Or.inl rfl)) pgs_nil))) (pg_unl rfl (pgs_cons (pg_name (i := 5) (x := "turn") scCBS.nd rfl (Or.inl rfl)) (pgs_cons (pg_name (i := 6) (x := "rate") scCBS.nd rfl (Or.inl rfl)) pgs_nil)))) (pss_cons (ps_expr (pe_call GCF (hr.mono (by decide)) (by rfl) gCF FCF.kp bCF .nil pass0 (pa_cons (pv 0) (pa_cons (pe_op op_add (pv 5) (pv 2)) (pa_cons (pe_op op_mul (pe_op op_sub (pv 6) (pv 4)) (pv 3)) pa_nil)))))
  (pss_one (ps_set (i := 4) scCBS.nd rfl (Or.inl rfl) (pv 6))))))), ?_⟩
    obtain ⟨b, xs, rfl, hb, hlen, hat⟩ := hv.at
    have nbd : b ≠ d := hb.elim (fun z => ne_of z D.at_ (fun y => by cases y)) fun z => ne_of z D.at_ fun y => by cases y
    refine walk_or4 (K := K) (a := d) (l := d) (S := fun b => b = d) nbd rfl rfl hb (fun S q => ⟨_, rfl, q⟩) fun J G wk hG => ?_
    refine for_it (g := gEi K 5 6) wk (fun j σ H' => (∃ (b0 : Int) (x5 x6 : Option V) (ks' : List Int) (g' : Int → Int), σ = [some (.ref d), some (.ref b), some (.int 0), some (.int 1), some (.int b0), x5, x6] ∧ DCh H' d ks' g' ∧ keyD ks L = keyD ks' (L.drop j) ∧ stepD g 0 L = stepD g' b0 (L.drop j) ∧ ks'.length ≤ ks.length + j) ∧ ∀ b o, b ≠ d → H b = some o → H' b = some o)
      ⟨⟨0, none, none, ks, g, rfl, D, rfl, rfl, Nat.le_refl _⟩, fun b o _ e => e⟩ (fun i σ H' _ z => hG _ (.inr fun o h => z.2 b o nbd h)) ?_ ?_
    · rintro j x σ H4 H5 hj ⟨⟨b0, x5, x6, ks', g', rfl, D4, ek, eg, lk⟩, fr⟩ ⟨rfl, hx⟩
      obtain ⟨q, p, hp, rfl, hq⟩ := hat j x hx
      have nqd : q ≠ d := hq.elim (fun z => ne_of z D.at_ (fun y => by cases y)) fun z => ne_of z D.at_ fun y => by cases y
      have dr : L.drop j = p :: L.drop (j + 1) := by
        obtain ⟨hl, hg⟩ := List.getElem?_eq_some_iff.mp hp
        rw [← hg, List.drop_eq_getElem_cons hl]
      rw [dr] at ek eg
      have p0 := (ok_nn hv.ok p (List.mem_of_getElem? hp)).1
      refine gEi_ok (hq.imp (fr _ _ nqd) (fr _ _ nqd)) ?_
      refine ⟨_, rfl, _, rfl, _, rfl, _, _, rfl, rfl, _, rfl, _, rfl, _, _, rfl, rfl, _, rfl, _, _, rfl, rfl, .inr ⟨by decide, by decide⟩, ?_⟩
      have e1 : p.1 + 0 = p.1 := Int.add_zero _
      have e2 : (p.2 - b0) * 1 = p.2 - b0 := Int.mul_one _
      refine ⟨d, ks', g', p.1, p.2 - b0, ?_, D4, by omega, p0, fun H6 f6 D6 => ?_⟩
      · show [V.ref d, V.int (p.1 + 0), V.int ((p.2 - b0) * 1)] ++ [] = _
        rw [e1, e2]
        rfl
      · refine ⟨_, rfl, ⟨p.2, _, _, _, _, rfl, D6, ek, ?_, ?_⟩, fun b o n e => f6 _ _ n (fr _ _ n e)⟩
        · rw [eg]
          show stepD (fun t => if t = p.1 then g' p.1 + (p.2 - b0) else g' t) p.2 (L.drop (j + 1)) = _
          rfl
        · have := len_addK (ks := ks') (t := p.1)
          omega
    · rintro σ H4 ⟨⟨b0, x5, x6, ks', g', rfl, D4, ek, eg, lk⟩, fr⟩
      rw [hlen, List.drop_length] at ek eg
      refine k H4 fr ?_
      rw [ek, eg]
      exact D4
theorem ok_SO {f : Addr} {fd : FuncData} (F : Fun K "steps_of" "steps_of" s_steps_of f fd) (zSo : mg "sorted" = none) : FnOk P w K mg base CX0 1 f fd ["changes"] spSO := by
  refine F.ok scSO (fun vs H Q E h => ?_) (fun cdv A outer s H vs Q E hr h => ?_)
  · obtain ⟨d, ks, f, g, rfl, _⟩ := h
    rfl
  · obtain ⟨d, ks, f, g, rfl, D, hl, hg, hc, h0, k⟩ := h
    refine ⟨_, (pss_cons (ps_set (i := 1) scSO.nd rfl (Or.inl rfl) (pe_lst pa_nil))
  (pss_cons (ps_set (i := 2) scSO.nd rfl (Or.inl rfl) pe_int)
  (Evl.pss_cut (ps_for PassesOwn.never rfl (pi_list (pe_callB (cr_sortedDk rfl) (by rfl) zSo (by decide +kernel) (pa_cons (pv 0) pa_nil))) (pg_name (i := 3) (x := "turn") scSO.nd rfl (Or.inl rfl)) (pss_one (ps_if (pt_cmpR op_ne (pe_dget (hu_of hr) (pv 0) (pv 3) (fun _ _ => rfl)) pe_int (nomark _)) (pss_cons (ps_aug (i := 2) scSO.nd rfl (Or.inl rfl) (pe_dget (hu_of hr) (pv 0) (pv 3) (fun _ _ => rfl)) ip_add)
  (pss_one (ps_expr (pe_bm PySem.F.plainAttrs_list PySem.F.slot_list_append PySem.F.type_list_append mt_append (pv 1) (pa_cons (pe_tup (pa_cons (pv 3) (pa_cons (pv 2) pa_nil))) pa_nil))))) pss_nil)))
  (pss_one (ps_ret (pv 1)))))), ?_⟩
    refine ⟨Nat.zero_le _, fun p hp => ?_⟩
    have s1 := same_new (o := HO.lst ([] : List V)) hp
    have D1 := s1 _ _ D.at_
    have hp1 : upd H p (.lst []) p = some (.lst []) := upd_same
    refine ⟨fun σ' H' => ∃ (x2 x3 : Option V) (xs : List V) (ns : List Int), σ' = [some (.ref d), some (.ref p), x2, x3] ∧ Same H H' ∧ H' p = some (.lst xs) ∧ Rows H H' xs (addF f 0 ns) ∧ Inc (-1) ns ∧ (∀ k, k ∈ ns ↔ k ∈ ks) ∧ xs.length ≤ ks.length, ?_, ?_⟩
    · refine ⟨_, rfl, d, _, ks, rfl, D1, ?_, fun ns q hperm hpw hq => ⟨q, rfl, ⟨_, SqL.of upd_same⟩, ?_⟩⟩
      · unfold dkv
        rw [List.map_map]
        rfl
      have hnd : ns.Nodup := (hperm.nodup_iff).mpr D.nd
      have hmem : ∀ k, k ∈ ns ↔ k ∈ ks := fun k => hperm.mem_iff
      have inc : Inc (-1) ns := inc_of hpw hnd fun k hk => by
        have := D.nn k ((hmem k).mp hk)
        omega
      have jm : Jmp f 0 ns := by
        have e := jmp_of (f := f) inc fun s t h2 h3 h4 => hc s t h2 h3 fun k hk => h4 k ((hmem k).mpr hk)
        rw [h0] at e
        exact e
      have s2 := same_new (o := HO.lst (ns.map V.int)) hq
      have npq : p ≠ q := ne_of_none hp1 hq
      have s12 := s1.trans s2
      have lns : ns.length = ks.length := hperm.length_eq
      refine for_it (g := gName 3) (walk_list (xs := ns.map V.int)) (fun j σ H' => ∃ (b : Int) (x3 : Option V) (xs : List V) (M : List (Int × Int)), σ = [some (.ref d), some (.ref p), some (.int b), x3] ∧ Same H H' ∧ H' q = some (.lst (ns.map V.int)) ∧ H' p = some (.lst xs) ∧ Rows H H' xs M ∧ addF f 0 ns = M ++ addF f b (ns.drop j) ∧ Jmp f b (ns.drop j) ∧ xs.length ≤ j)
        ⟨0, none, [], [], rfl, s12, upd_same, s2 _ _ hp1, .nil, rfl, jm, Nat.le_refl _⟩ (fun i σ H' _ z => by
          obtain ⟨_, _, _, _, _, _, z, _⟩ := z
          exact SqL.of z) ?_ ?_
      · rintro j x σ H4 H5 hj ⟨b, x3, xs, M, rfl, s4, hq4, hp4, r4, eM, jM, lx⟩ ⟨rfl, hx⟩
        rw [List.getElem?_map] at hx
        cases e0 : ns[j]? with
        | none =>
          rw [e0] at hx
          cases hx
        | some n =>
          rw [e0] at hx
          obtain rfl : V.int n = x := Option.some.inj hx
          have dr : ns.drop j = n :: ns.drop (j + 1) := by
            obtain ⟨hl, hg⟩ := List.getElem?_eq_some_iff.mp e0
            rw [← hg, List.drop_eq_getElem_cons hl]
          rw [dr] at eM jM
          have hn : n ∈ ks := (hmem n).mp (List.mem_of_getElem? e0)
          have hj2 : j < ns.length := by
            obtain ⟨hl, _⟩ := List.getElem?_eq_some_iff.mp e0
            exact hl
          have vg : valV (dkv g ks) (Sum.inl n) = some (V.int (g n)) := by rw [val_dkv, if_pos hn]
          have D4 := s4 _ _ D.at_
          have dg : DGet H5 d (.int n) (some (.int (g n))) := by
            have z := DGet.k (k := Sum.inl n) D4
            rw [vg] at z
            exact z
          have gn : g n = f n - b := by
            rw [hg n, jM.1]
          have eM2 : addF f 0 ns = M ++ (if f n ≠ b then (n, f n) :: addF f (f n) (ns.drop (j + 1)) else addF f b (ns.drop (j + 1))) := eM
          refine ⟨_, rfl, _, rfl, d, _, rfl, dg, rfl, _, rfl, ite2 (fun hc => ?_) (fun hc => ?_)⟩
          · have ne : f n ≠ b := fun z => by
              have hc2 : (!decide (V.int (g n) = V.int 0)) = true := hc
              rw [gn, z, Int.sub_self, decide_eq_true rfl] at hc2
              cases hc2
            rw [if_pos ne] at eM2
            refine ⟨_, rfl, _, rfl, _, rfl, d, _, rfl, dg, _, _, rfl, rfl, ?_⟩
            refine ⟨_, rfl, .inl ⟨rfl, _, SqL.of hp4⟩, _, rfl, _, rfl, two_fit, fun t ht => ?_⟩
            have st := same_new (o := HO.tup [V.int n, V.int (b + g n)]) ht
            have hp5 := st _ _ hp4
            refine ⟨p, xs, .ref t, rfl, rfl, hp5, Nat.lt_of_le_of_lt (show xs.length ≤ 1000000 by omega) (by decide), ?_⟩
            have ntp : t ≠ p := fun z => by
              rw [z, hp4] at ht
              cases ht
            have hH0 : H p = none := hp
            refine ⟨f n, some (.int n), xs ++ [.ref t], M ++ [(n, f n)], ?_, fun c o e => ?_, ?_, upd_same, ?_, ?_, jM.2, by rw [List.length_append]; show xs.length + 1 ≤ j + 1; omega⟩
            · show [some (V.ref d), some (V.ref p), some (V.int (b + g n)), some (V.int n)] = _
              rw [show b + g n = f n by omega]
            · rw [upd_ne (ne_of_none e hH0)]
              exact st _ _ (s4 _ _ e)
            · rw [upd_ne npq.symm]
              exact st _ _ hq4
            · refine paired_snoc ⟨t, rfl, none_back s4 ht, ?_⟩ (r4.keep fun c u n e => ?_)
              · rw [upd_ne (fun z => by rw [z, hp4] at e; cases e)]
                exact st _ _ e
              · rw [upd_ne ntp, upd_same]
                show some (HO.tup [V.int n, V.int (b + g n)]) = some (HO.tup [V.int n, V.int (f n)])
                rw [show b + g n = f n by omega]
            · rw [eM2, List.append_assoc]
              rfl
          · have e : f n = b := by
              have z : g n = 0 := Classical.byContradiction fun z => hc (by
                show (!decide (V.int (g n) = V.int 0)) = true
                rw [decide_eq_false (fun y => z (V.int.inj y))]
                rfl)
              omega
            rw [if_neg (fun z => z e)] at eM2
            have j2 := jM.2
            rw [e] at j2
            exact ⟨b, _, xs, M, rfl, s4, hq4, hp4, r4, eM2, j2, by omega⟩
      · rintro σ H4 ⟨b, x3, xs, M, rfl, s4, hq4, hp4, r4, eM, jM, lx⟩
        rw [List.length_map] at eM lx
        rw [List.drop_length] at eM
        have eM : addF f 0 ns = M ++ [] := eM
        rw [List.append_nil] at eM
        exact ⟨_, x3, xs, ns, rfl, s4, hp4, by rw [eM]; exact r4, inc, hmem, by omega⟩
    · rintro σ' H' ⟨x2, x3, xs, ns, rfl, s4, hp4, r4, inc, hmem, lx⟩
      exact ⟨_, rfl, k H' p xs ns s4 hp hp4 inc hmem r4 lx⟩
end
end K05

set_option Elab.async false
set_option linter.all false
set_option maxRecDepth 100000
set_option maxHeartbeats 4000000
namespace K05
open PySem PySem.Spec PyProof.Rows L2 Own
/-! together and later, told or refused -/
def keyDs : List Int → List (List (Int × Int)) → List Int
  | ks, [] => ks
  | ks, L :: Ls => keyDs (keyD ks L) Ls
def stepDs : (Int → Int) → List (List (Int × Int)) → (Int → Int)
  | g, [] => g
  | g, L :: Ls => stepDs (stepD g 0 L) Ls
def tot : List (List (Int × Int)) → Nat
  | [] => 0
  | L :: Ls => L.length + tot Ls
theorem mem_keyDs : ∀ {Ls : List (List (Int × Int))} {ks : List Int} {k : Int}, k ∈ keyDs ks Ls ↔ k ∈ ks ∨ ∃ L ∈ Ls, ∃ p ∈ L, p.1 = k
  | [], ks, k => ⟨.inl, fun h => h.elim id fun ⟨L, hL, _⟩ => by cases hL⟩
  | M :: r, ks, k => by
    show k ∈ keyDs (keyD ks M) r ↔ _
    rw [mem_keyDs, mem_keyD]
    constructor
    · rintro ((h | h) | ⟨L, hL, h⟩)
      · exact .inl h
      · exact .inr ⟨M, List.mem_cons_self, h⟩
      · exact .inr ⟨L, List.mem_cons_of_mem _ hL, h⟩
    · rintro (h | ⟨L, hL, h⟩)
      · exact .inl (.inl h)
      · rcases List.mem_cons.mp hL with rfl | hL
        · exact .inl (.inr h)
        · exact .inr ⟨L, hL, h⟩
theorem len_keyDs : ∀ {Ls : List (List (Int × Int))} {ks : List Int}, (keyDs ks Ls).length ≤ ks.length + tot Ls
  | [], _ => Nat.le_refl _
  | L :: Ls, ks => by
    have h1 := len_keyD (L := L) (ks := ks)
    have h2 := len_keyDs (Ls := Ls) (ks := keyD ks L)
    show (keyDs (keyD ks L) Ls).length ≤ ks.length + (L.length + tot Ls)
    omega
theorem stepDs_eq {t : Int} : ∀ {Ls : List (List (Int × Int))} {g : Int → Int}, (∀ L ∈ Ls, okL (-1) 0 L) → stepDs g Ls t = g t + (sumR Ls t - sumR Ls (t - 1))
  | [], g, _ => by
    show g t = g t + ((0 : Int) - 0)
    omega
  | L :: Ls, g, h => by
    show stepDs (stepD g 0 L) Ls t = g t + ((rateF t 0 L + sumR Ls t) - (rateF (t - 1) 0 L + sumR Ls (t - 1)))
    rw [stepDs_eq fun M hM => h M (List.mem_cons_of_mem _ hM), stepD_eq (h L List.mem_cons_self)]
    unfold jmp
    omega
theorem Rows.low {H0 H1 H : Hp} (e : Same H0 H1) {xs : List V} {L : List (Int × Int)} (h : Rows H1 H xs L) : Rows H0 H xs L := by
  induction h with
  | nil => exact .nil
  | cons hx _ ih =>
    obtain ⟨q, rfl, n, z⟩ := hx
    exact .cons ⟨q, rfl, none_back e n, z⟩ ih
theorem prs_at' {α β : Type} {F : α → β → Prop} : ∀ {xs : List α} {ys : List β} {i : Nat} {y : β}, Paired F xs ys → ys[i]? = some y → ∃ x, xs[i]? = some x ∧ F x y
  | _, _, i, y, .nil, h => by cases h
  | _, _, 0, y, .cons hx _, h => ⟨_, rfl, by
      cases h
      exact hx⟩
  | _, _, i + 1, y, .cons _ r, h => prs_at' (i := i) r h
def spNS5 (K : PySem.W.Frag) (C Cs : Addr) : Sp := fun vs H Q E => ∃ v c, vs = [v] ∧ Cd K C H v c ∧ (stp c = true → ∀ H', Same H H' → Q .non H') ∧ (stp c = false → Out H E Cs "steps" v)
def spTog (K : PySem.W.Frag) (C Cs : Addr) : Sp := fun vs H Q E => ∃ v, vs = [v] ∧
  ((SqR K C H v none ∧ Out H E Cs "steps" v) ∨
   (∃ (p : Addr) (xs : List V) (cs : List (Option (List (Option (List V))))) (i : Nat) (x : V), v = .ref p ∧ Sqs H p xs ∧ xs.length ≤ 1000 ∧ Paired (Cd K C H) xs cs ∧ (∀ j c, j < i → cs[j]? = some c → stp c = true) ∧ cs[i]?.map stp = some false ∧ xs[i]? = some x ∧ Out H E Cs "steps" x) ∨
   (∃ (p : Addr) (xs : List V) (Ls : List (List (Int × Int))), v = .ref p ∧ Sqs H p xs ∧ xs.length ≤ 1000 ∧ Paired (StL K C H) xs Ls ∧ tot Ls ≤ 1000000 ∧
      ∀ H' p xs ns, Same H H' → H p = none → H' p = some (.lst xs) → Inc (-1) ns → allT Ls ns → Rows H H' xs (addF (sumR Ls) 0 ns) → xs.length ≤ tot Ls → Q (.ref p) H'))
/-- later by so many turns -/
def shL (k : Int) (L : List (Int × Int)) : List (Int × Int) := L.map fun p => (p.1 + k, p.2)
def spLater (K : PySem.W.Frag) (C Cs Cu : Addr) : Sp := fun vs H Q E => ∃ v w c o, vs = [v, w] ∧ Cd K C H v c ∧ SqR K C H w o ∧ (stp c = false → Out H E Cs "steps" v) ∧ (stp c = true → isN w = false → Out H E Cu "turns" w) ∧
  (stp c = true → isN w = true → ∃ L k, w = .int k ∧ StL K C H v L ∧ L.length ≤ 1000 ∧ ∀ H' p xs, Same H H' → H p = none → H' p = some (.lst xs) → Rows H H' xs (shL k L) → Q (.ref p) H')
theorem scTog : FnScope ["lists", "steps", "changes"] ["lists"] (defScope s_together) := ⟨rfl, rfl, rfl, by decide +kernel, rfl, by decide +kernel, by decide +kernel⟩
theorem scLater : FnScope ["steps", "turns", "turn", "rate"] ["steps", "turns"] (defScope s_later) := ⟨rfl, rfl, rfl, by decide +kernel, rfl, by decide +kernel, by decide +kernel⟩
section
variable {P : Program} {w : World} {K : PySem.W.Frag} {mg : Str → Option Value} {base : Heap} {C : Addr}
theorem ok_NS5 {f fS Cs : Addr} {fd fdS : FuncData} (F : Fun K "need_steps" "need_steps" s_need_steps f fd) (FS : Fun K "is_steps" "is_steps" s_is_steps fS fdS) (gS : mg "is_steps" = some (.ref fS)) (bS : Binds K fdS ["thing"] []) (GS : FnOk P w K mg base CX0 3 fS fdS ["thing"] (spSteps K C))
    (EH : EI P w K mg base "BadSteps" "steps" Cs) : FnOk P w K mg base (L2.CX P w) 4 f fd ["steps"] (spNS5 K C Cs) := by
  refine F.okX scNS (fun vs H Q E h => ?_) (fun cdv A outer s H vs Q E hr h => ?_)
  · obtain ⟨v, c, rfl, _⟩ := h
    rfl
  · obtain ⟨v, c, rfl, hc, k, out⟩ := h
    refine ⟨_, (pss_one (ps_if (pt_not (pt_val (pe_call GS (hr.mono (by decide)) (by rfl) gS FS.kp bS .nil pass0 (pa_cons (pv 0) pa_nil)))) (pss_one (ps_EI rfl (takes_of rfl rfl rfl rfl) EH (hr.mono (by decide)) (by rfl) (pv 0) (mono_var 0))) pss_nil)), ?_⟩
    refine ⟨_, rfl, v, c, rfl, hc, fun H1 e1 => ⟨_, rfl, ?_⟩⟩
    cases hi : stp c with
    | true => exact iteF (k hi _ e1)
    | false => exact iteT ⟨_, rfl, (out hi).at e1⟩
theorem ok_tog {f fIL fNS fCBS fSO Cs : Addr} {fd fdIL fdNS fdCBS fdSO : FuncData} (F : Fun K "together" "together" s_together f fd)
    (FIL : Fun K "is_list" "is_list" sIsList fIL fdIL) (gIL : mg "is_list" = some (.ref fIL)) (bIL : Binds K fdIL ["thing"] []) (GIL : FnOk P w K mg base CX0 1 fIL fdIL ["thing"] (spLstY K C))
    (FNS : Fun K "need_steps" "need_steps" s_need_steps fNS fdNS) (gNS : mg "need_steps" = some (.ref fNS)) (bNS : Binds K fdNS ["steps"] []) (GNS : FnOk P w K mg base (L2.CX P w) 4 fNS fdNS ["steps"] (spNS5 K C Cs))
    (FCBS : Fun K "change_by_steps" "change_by_steps" s_change_by_steps fCBS fdCBS) (gCBS : mg "change_by_steps" = some (.ref fCBS)) (bCBS : Binds K fdCBS ["changes", "steps", "turns", "times"] []) (GCBS : FnOk P w K mg base CX0 2 fCBS fdCBS ["changes", "steps", "turns", "times"] (spCBS K C))
    (FSO : Fun K "steps_of" "steps_of" s_steps_of fSO fdSO) (gSO : mg "steps_of" = some (.ref fSO)) (bSO : Binds K fdSO ["changes"] []) (GSO : FnOk P w K mg base CX0 1 fSO fdSO ["changes"] spSO)
    (EH : EI P w K mg base "BadSteps" "steps" Cs) : FnOk P w K mg base (L2.CX P w) 5 f fd ["lists"] (spTog K C Cs) := by
  refine F.okX scTog (fun vs H Q E h => ?_) (fun cdv A outer s H vs Q E hr h => ?_)
  · obtain ⟨v, rfl, _⟩ := h
    rfl
  · obtain ⟨v, rfl, h⟩ := h
    refine ⟨_, (Evl.pss_cut (ps_if (pt_not (pt_val (pe_call GIL (hr.mono (by decide)) (by rfl) gIL FIL.kp bIL .nil pass0 (pa_cons (pv 0) pa_nil)))) (pss_one (ps_EI rfl (takes_of rfl rfl rfl rfl) EH (hr.mono (by decide)) (by rfl) (pv 0) (mono_var 0))) pss_nil)
  (Evl.pss_cut (ps_for PassesOwn.leaving rfl (pi_or (pi_list (pv 0)) (pi_tup (pv 0))) (pg_name (i := 1) (x := "steps") scTog.nd rfl (Or.inl rfl)) (pss_one (ps_expr (pe_call GNS (hr.mono (by decide)) (by rfl) gNS FNS.kp bNS .nil (passes_call (takes_of rfl rfl rfl rfl) (fun _ _ _ _ h => h)) (pa_cons (pv 1) pa_nil)))))
  (pss_cons (ps_set (i := 2) scTog.nd rfl (Or.inl rfl) pe_dnewK)
  (Evl.pss_cut (ps_for PassesOwn.leaving rfl (pi_or (pi_list (pv 0)) (pi_tup (pv 0))) (pg_name (i := 1) (x := "steps") scTog.nd rfl (Or.inl rfl)) (pss_one (ps_expr (pe_call GCBS (hr.mono (by decide)) (by rfl) gCBS FCBS.kp bCBS .nil pass0 (pa_cons (pv 2) (pa_cons (pv 1) (pa_cons pe_int (pa_cons pe_int pa_nil))))))))
  (pss_one (ps_ret (pe_call GSO (hr.mono (by decide)) (by rfl) gSO FSO.kp bSO .nil pass0 (pa_cons (pv 2) pa_nil)))))))), ?_⟩
    rcases h with ⟨hs, out⟩ | ⟨p, xs, cs, i0, x0, rfl, hs, hl, hcs, hok, hbad, hx0, out⟩ | ⟨p, xs, Ls, rfl, hs, hl, hL, ht, k⟩
    · refine ⟨fun σ' H' => False, ?_, fun _ _ z => z.elim⟩
      exact ⟨_, rfl, v, none, rfl, hs, fun H1 e1 => ⟨_, rfl, iteT ⟨_, rfl, out.at e1⟩⟩⟩
    · refine ⟨fun σ' H' => σ' = [some (.ref p), none, none] ∧ Same H H', ?_, ?_⟩
      · exact ⟨_, rfl, _, some xs, rfl, .inr (.inr ⟨p, xs, rfl, hs, rfl⟩), fun H1 e1 => ⟨_, rfl, iteF ⟨rfl, e1⟩⟩⟩
      rintro σ' H1 ⟨rfl, e1⟩
      refine ⟨fun σ' H' => False, ?_, fun _ _ z => z.elim⟩
      have hi0 : i0 < xs.length := (List.getElem?_eq_some_iff.mp hx0).1
      refine walk_or (K := K) (H0 := H1) (hs.same e1) (Same.refl H1) (fun S q => ⟨_, rfl, q⟩) fun J G wk hG => ?_
      refine for_it (g := gName 1) wk (fun i σ H' => (∃ x1 x2, σ = [some (.ref p), x1, x2]) ∧ i ≤ i0 ∧ Same H1 H') ⟨⟨none, none, rfl⟩, Nat.zero_le _, Same.refl H1⟩ (fun i σ H' _ z => hG _ z.2.2) ?_ ?_
      · rintro i x σ H4 H5 hi ⟨⟨x1, x2, rfl⟩, hle, s4⟩ ⟨rfl, hx⟩
        have e5 := e1.trans s4
        obtain ⟨c, hc, q⟩ := prs_at hcs hx
        refine ⟨_, rfl, x, c, rfl, q.same e5, fun hi => ?_, fun hi => ?_⟩
        · intro H6 e6
          refine ⟨⟨_, _, rfl⟩, ?_, s4.trans e6⟩
          by_cases z : i = i0
          · rw [← z, hc] at hbad
            rw [Option.map_some, hi] at hbad
            cases hbad
          · omega
        · by_cases z : i = i0
          · rw [z, hx0] at hx
            cases hx
            exact out.same e5
          · rw [hok i c (by omega) hc] at hi
            cases hi
      · rintro σ H4 ⟨_, hle, _⟩
        omega
    · refine ⟨fun σ' H' => σ' = [some (.ref p), none, none] ∧ Same H H', ?_, ?_⟩
      · exact ⟨_, rfl, _, some xs, rfl, .inr (.inr ⟨p, xs, rfl, hs, rfl⟩), fun H1 e1 => ⟨_, rfl, iteF ⟨rfl, e1⟩⟩⟩
      rintro σ' H1 ⟨rfl, e1⟩
      refine ⟨fun σ' H' => (∃ x1, σ' = [some (.ref p), x1, none]) ∧ Same H H', ?_, ?_⟩
      · refine walk_or (K := K) (H0 := H1) (hs.same e1) (Same.refl H1) (fun S q => ⟨_, rfl, q⟩) fun J G wk hG => ?_
        refine for_it (g := gName 1) wk (fun i σ H' => (∃ x1, σ = [some (.ref p), x1, none]) ∧ Same H1 H') ⟨⟨none, rfl⟩, Same.refl H1⟩ (fun i σ H' _ z => hG _ z.2) ?_ ?_
        · rintro i x σ H4 H5 hi ⟨⟨x1, rfl⟩, s4⟩ ⟨rfl, hx⟩
          have e5 := e1.trans s4
          obtain ⟨L, hL1, q⟩ := prs_at hL hx
          refine ⟨_, rfl, x, _, rfl, q.cd.same e5, fun _ H6 e6 => ⟨⟨_, rfl⟩, s4.trans e6⟩, fun hi => ?_⟩
          rw [show stp (some (L.map itP)) = true from okL_stp q.ok] at hi
          cases hi
        · rintro σ H4 ⟨⟨x1, rfl⟩, s4⟩
          exact ⟨⟨x1, rfl⟩, e1.trans s4⟩
      rintro σ' H2 ⟨⟨x1, rfl⟩, e2⟩
      refine fun d hd => ?_
      have sd := same_new (o := HO.dK []) hd
      have e3 := e2.trans sd
      have nd0 : H d = none := none_back e2 hd
      have D0 : DCh (upd H2 d (.dK [])) d [] (fun _ => 0) := ⟨upd_same, List.nodup_nil, fun _ _ => rfl, fun _ h => by cases h⟩
      have okLs : ∀ L ∈ Ls, okL (-1) 0 L := fun L hL2 => by
        obtain ⟨i, hi⟩ := List.getElem?_of_mem hL2
        obtain ⟨x, _, q⟩ := prs_at' hL hi
        exact q.ok
      refine ⟨fun σ' H' => (∃ x1, σ' = [some (.ref p), x1, some (.ref d)]) ∧ Same H H' ∧ DCh H' d (keyDs [] Ls) (stepDs (fun _ => 0) Ls) ∧ (keyDs [] Ls).length ≤ 1000000, ?_, ?_⟩
      · refine walk_or (K := K) (H0 := H) hs e3 (fun S q => ⟨_, rfl, q⟩) fun J G wk hG => ?_
        refine for_it (g := gName 1) wk (fun i σ H' => ∃ x1 ks g, σ = [some (.ref p), x1, some (.ref d)] ∧ Same H H' ∧ DCh H' d ks g ∧ keyDs [] Ls = keyDs ks (Ls.drop i) ∧ stepDs (fun _ => 0) Ls = stepDs g (Ls.drop i) ∧ ks.length + tot (Ls.drop i) ≤ 1000000) ⟨x1, [], fun _ => 0, rfl, e3, D0, rfl, rfl, by simpa using ht⟩ (fun i σ H' _ z => by
          obtain ⟨_, _, _, _, z, _⟩ := z
          exact hG _ z) ?_ ?_
        · rintro i x σ H4 H5 hi ⟨x1, ks, g, rfl, s4, D4, ek, eg, lk⟩ ⟨rfl, hx⟩
          obtain ⟨L, hL1, q⟩ := prs_at hL hx
          have dr : Ls.drop i = L :: Ls.drop (i + 1) := by
            obtain ⟨hl, hg⟩ := List.getElem?_eq_some_iff.mp hL1
            rw [← hg, List.drop_eq_getElem_cons hl]
          rw [dr] at ek eg lk
          have lk : ks.length + (L.length + tot (Ls.drop (i + 1))) ≤ 1000000 := lk
          refine ⟨_, rfl, _, rfl, d, ks, g, x, L, rfl, D4, by omega, q.same s4, fun H6 f6 D6 => ?_⟩
          have := len_keyD (L := L) (ks := ks)
          exact ⟨_, _, _, rfl, fun b o e => f6 b o (fun z => by rw [z, nd0] at e; cases e) (s4 _ _ e), D6, ek, eg, by omega⟩
        · rintro σ H4 ⟨x1, ks, g, rfl, s4, D4, ek, eg, lk⟩
          rw [show Ls.drop xs.length = [] by rw [Paired.length hL, List.drop_length]] at ek eg lk
          refine ⟨⟨x1, rfl⟩, s4, ?_, ?_⟩
          · rw [ek, eg]
            exact D4
          · rw [ek]
            exact lk
      · rintro σ' H4 ⟨⟨x1, rfl⟩, s4, D4, lk⟩
        refine ⟨_, rfl, d, keyDs [] Ls, sumR Ls, _, rfl, D4, lk, fun t => ?_, fun s t h1 h2 h3 => sumR_const h2 fun L hL2 p hp z => h3 p.1 (mem_keyDs.mpr (.inr ⟨L, hL2, p, hp, rfl⟩)) z, sumR_ahead (Int.le_refl _) okLs, fun H6 q ys ns s6 nq hq inc hmem r6 l6 => ?_⟩
        · rw [stepDs_eq okLs]
          show (0 : Int) + _ = _
          omega
        · refine k H6 q ys ns (s4.trans s6) (none_back s4 nq) hq inc ⟨fun L hL2 p hp => (hmem _).mpr (mem_keyDs.mpr (.inr ⟨L, hL2, p, hp, rfl⟩)), fun k hk => (mem_keyDs.mp ((hmem k).mp hk)).resolve_left fun z => by cases z⟩ (r6.low s4) (Nat.le_trans l6 (by have := len_keyDs (Ls := Ls) (ks := []); simpa using this))
theorem ok_later {f fIN fNS Cs Cu : Addr} {fd fdIN fdNS : FuncData} (F : Fun K "later" "later" s_later f fd)
    (FIN : Fun K "is_number" "is_number" sIsNum fIN fdIN) (gIN : mg "is_number" = some (.ref fIN)) (bIN : Binds K fdIN ["thing"] []) (GIN : FnOk P w K mg base CX0 2 fIN fdIN ["thing"] (spNumY K C))
    (FNS : Fun K "need_steps" "need_steps" s_need_steps fNS fdNS) (gNS : mg "need_steps" = some (.ref fNS)) (bNS : Binds K fdNS ["steps"] []) (GNS : FnOk P w K mg base (L2.CX P w) 4 fNS fdNS ["steps"] (spNS5 K C Cs))
    (EU : EI P w K mg base "BadTurns" "turns" Cu) : FnOk P w K mg base (L2.CX P w) 5 f fd ["steps", "turns"] (spLater K C Cs Cu) := by
  refine F.okX scLater (fun vs H Q E h => ?_) (fun cdv A outer s H vs Q E hr h => ?_)
  · obtain ⟨v, w, c, o, rfl, _⟩ := h
    rfl
  · obtain ⟨v, w, c, o, rfl, hc, hw, o1, o2, k⟩ := h
    refine ⟨_, (pss_cons (ps_expr (pe_call GNS (hr.mono (by decide)) (by rfl) gNS FNS.kp bNS .nil (passes_call (takes_of rfl rfl rfl rfl) (fun _ _ _ _ h => h)) (pa_cons (pv 0) pa_nil)))
  (Evl.pss_cut (ps_if (pt_not (pt_val (pe_call GIN (hr.mono (by decide)) (by rfl) gIN FIN.kp bIN .nil pass0 (pa_cons (pv 1) pa_nil)))) (pss_one (ps_EI rfl (takes_of rfl rfl rfl rfl) EU (hr.mono (by decide)) (by rfl) (pv 1) (mono_var 1))) pss_nil)
  (pss_one (ps_ret (pe_lc (own := [("turn", 2), ("rate", 3)]) (g := gEi K 2 3) (tt := tYes) rfl scLater.nd (pi_or (pi_list (pv 0)) (pi_tup (pv 0))) (blkOk_by (N := ["steps", "turns", "turn", "rate"]) (sc := defScope s_later) (by decide +kernel)) (fun _ _ _ _ _ => (pg_or (pg_tup rfl (pgs_cons (pg_name (i := 2) (x := "turn") scLater.nd rfl (Or.inl rfl)) (pgs_cons (pg_name (i := 3) (x := "rate") scLater.nd rfl (Or.inl rfl)) pgs_nil))) (pg_unl rfl (pgs_cons (pg_name (i := 2) (x := "turn") scLater.nd rfl (Or.inl rfl)) (pgs_cons (pg_name (i := 3) (x := "rate") scLater.nd rfl (Or.inl rfl)) pgs_nil))))) (fun _ _ _ _ _ => pts_nil) (fun _ _ _ _ _ => (pe_tup (pa_cons (pe_op op_add (pv 2) (pv 1)) (pa_cons (pv 3) pa_nil))))))))), ?_⟩
    refine ⟨_, rfl, v, c, rfl, hc, fun hi H1 e1 => ?_, o1⟩
    refine ⟨fun σ' H' => σ' = [some v, some w, none, none] ∧ Same H H' ∧ isN w = true, ?_, ?_⟩
    · refine ⟨_, rfl, w, o, rfl, hw.same e1, _, rfl, ?_⟩
      cases hn : isN w with
      | true => exact iteF ⟨rfl, e1, rfl⟩
      | false => exact iteT ⟨_, rfl, (o2 hi hn).at e1⟩
    · rintro σ' H2 ⟨rfl, e2, hn⟩
      obtain ⟨L, n, rfl, hv, hl, k2⟩ := k hi hn
      obtain ⟨b, xs, rfl, hb, hlen, hat⟩ := hv.at
      refine walk_or (K := K) (H0 := H) hb e2 (fun S q => ⟨_, rfl, q⟩) fun J G wk hG => ?_
      refine fun D hD => ?_
      have sD := same_new (o := HO.lst ([] : List V)) hD
      have eD := e2.trans sD
      refine lc_it wk (fun i H' => Same H H' ∧ ∃ acc, H' D = some (.lst acc) ∧ Rows H H' acc ((shL n L).take i) ∧ acc.length = i) ⟨eD, [], upd_same, by rw [List.take_zero]; exact .nil, rfl⟩ (fun i H' _ q => hG _ q.1) ?_ ?_
      · rintro i x H4 H5 hi ⟨s4, acc, a4, r4, l4⟩ ⟨rfl, hx⟩
        obtain ⟨q, p, hp, rfl, hq⟩ := hat i x hx
        refine gEi_ok (hq.imp (s4 _ _) (s4 _ _)) ?_
        dsimp only [tYes]
        refine ⟨rfl, iteT ⟨_, rfl, _, rfl, _, _, rfl, rfl, _, rfl, two_fit, fun t ht => ?_⟩⟩
        have st := same_new (o := HO.tup [V.int (p.1 + n), V.int p.2]) ht
        have nt := none_back s4 ht
        have hD0 : H D = none := none_back e2 hD
        have ntD : t ≠ D := fun z => by
          rw [z, a4] at ht
          cases ht
        have hi2 : i < L.length := (List.getElem?_eq_some_iff.mp hp).1
        refine ⟨acc, st _ _ a4, by rw [l4]; exact small1000 (by omega), fun b o z => ?_, _, upd_same, ?_, by rw [List.length_append, l4]; rfl⟩
        · rw [upd_ne (ne_of_none z hD0)]
          exact st _ _ (s4 _ _ z)
        · rw [List.take_add_one, show (shL n L)[i]? = some (p.1 + n, p.2) by unfold shL; rw [List.getElem?_map, hp]; rfl]
          have r5 : Rows H (upd (upd H5 t (HO.tup [V.int (p.1 + n), V.int p.2])) D (HO.lst (acc ++ [V.ref t]))) acc (List.take i (shL n L)) := r4.keep fun q' t' n' e => by
            rw [upd_ne (fun z => by rw [z, a4] at e; cases e)]
            exact st _ _ e
          refine paired_snoc ⟨t, rfl, nt, ?_⟩ r5
          rw [upd_ne ntD]
          exact upd_same
      · rintro H4 ⟨s4, acc, a4, r4, l4⟩
        rw [show (shL n L).take xs.length = shL n L by rw [hlen]; unfold shL; rw [List.take_of_length_le (by rw [List.length_map]; exact Nat.le_refl _)]] at r4
        exact k2 H4 D acc s4 (none_back e2 hD) a4 r4
end
end K05

set_option Elab.async false
set_option linter.all false
set_option maxRecDepth 100000
set_option maxHeartbeats 4000000
namespace K05
open PySem PySem.Spec PyProof.Rows L2 Own
/-! the law's own reckoning: added up, later -/
theorem imp5 {α β : Type} {F G : α → β → Prop} {xs : List α} {ys : List β} (h : Paired F xs ys) (k : ∀ x y, F x y → G x y) : Paired G xs ys := by
  induction h with
  | nil => exact .nil
  | cons hx _ ih => exact .cons (k _ _ hx) ih
def dkB (ks : List Int) : List (L2.Key × V) := ks.map fun k => (Sum.inl k, V.bl true)
theorem any_dkB {t : Int} : ∀ {ks : List Int}, ((dkB ks).any fun kv => decide (kv.1 = (Sum.inl t : L2.Key))) = decide (t ∈ ks)
  | [] => by simp [dkB]
  | k :: ks => by
    show (decide ((Sum.inl k : L2.Key) = Sum.inl t) || (dkB ks).any fun kv => decide (kv.1 = (Sum.inl t : L2.Key))) = decide (t ∈ k :: ks)
    rw [any_dkB]
    by_cases z : k = t
    · subst z
      simp
    · have z2 : ¬ ((Sum.inl k : L2.Key) = Sum.inl t) := fun e => z (Sum.inl.inj e)
      have z3 : ¬ t = k := fun e => z e.symm
      rw [decide_eq_false z2]
      simp [z3]
theorem put_dkB {t : Int} {ks : List Int} : putK (dkB ks) (Sum.inl t) (V.bl true) = dkB (addK ks t) := by
  unfold putK addK
  rw [any_dkB]
  by_cases m : t ∈ ks
  · rw [if_pos (decide_eq_true m), if_pos m]
    unfold dkB
    rw [List.map_map]
    refine List.map_congr_left fun k hk => ?_
    show (if (Sum.inl k : L2.Key) = Sum.inl t then (Sum.inl k, V.bl true) else (Sum.inl k, V.bl true)) = (Sum.inl k, V.bl true)
    rw [ite_self]
  · rw [if_neg (by simpa using m), if_neg m]
    unfold dkB
    rw [List.map_append]
    rfl
theorem merge_dkB : ∀ {L : List (Int × Int)} {ks : List Int}, mergeK (dkB ks) (L.map fun p => (Sum.inl p.1, V.bl true)) = dkB (keyD ks L)
  | [], ks => rfl
  | p :: r, ks => by
    show mergeK (putK (dkB ks) (Sum.inl p.1) (V.bl true)) (r.map fun p => (Sum.inl p.1, V.bl true)) = dkB (keyD (addK ks p.1) r)
    rw [put_dkB, merge_dkB]
theorem nd_keyD : ∀ {L : List (Int × Int)} {ks : List Int}, ks.Nodup → (keyD ks L).Nodup
  | [], _, h => h
  | p :: r, ks, h => nd_keyD (L := r) (nd_addK h)
def spAdd (K : PySem.W.Frag) (C : Addr) : Sp := fun vs H Q _ => ∃ (p : Addr) (xs : List V) (Ls : List (List (Int × Int))), vs = [.ref p] ∧ Sqs H p xs ∧ xs.length ≤ 1000 ∧ Paired (StL K C H) xs Ls ∧ tot Ls ≤ 1000000 ∧
  ∀ H' p xs ns, Same H H' → H p = none → H' p = some (.lst xs) → Inc (-1) ns → allT Ls ns → Rows H H' xs (addF (sumR Ls) 0 ns) → xs.length ≤ tot Ls → Q (.ref p) H'
def spShf (K : PySem.W.Frag) (C : Addr) : Sp := fun vs H Q _ => ∃ (v : V) (L : List (Int × Int)) (k : Int), vs = [v, .int k] ∧ StL K C H v L ∧ L.length ≤ 1000 ∧
  ∀ H' p xs, Same H H' → H p = none → H' p = some (.lst xs) → Rows H H' xs (shL k L) → Q (.ref p) H'
abbrev NLAd : List Str := ["_law_lists", "_law_turns", "_law_found", "_law_last", "_law_steps", "_law_turn", "_law_rate_here"]
theorem scLAd : FnScope NLAd ["_law_lists"] (defScope s_l_p_added) := ⟨rfl, rfl, rfl, by decide +kernel, rfl, by decide +kernel, by decide +kernel⟩
theorem scLSh : FnScope ["_law_steps", "_law_turns", "_law_turn", "_law_rate_here"] ["_law_steps", "_law_turns"] (defScope s_l_p_shifted) := ⟨rfl, rfl, rfl, by decide +kernel, rfl, by decide +kernel, by decide +kernel⟩
section
variable {P : Program} {w : World} {K : PySem.W.Frag} {mg : Str → Option Value} {base : Heap} {C : Addr}
theorem ok_LSh {f : Addr} {fd : FuncData} (F : Fun K "_law_p_shifted" "_law_p_shifted" s_l_p_shifted f fd) : FnOk P w K mg base CX0 1 f fd ["_law_steps", "_law_turns"] (spShf K C) := by
  refine F.ok scLSh (fun vs H Q E h => ?_) (fun cdv A outer s H vs Q E hr h => ?_)
  · obtain ⟨v, L, k, rfl, _⟩ := h
    rfl
  · obtain ⟨v, L, n, rfl, hv, hl, k2⟩ := h
    refine ⟨_, (pss_one (ps_ret (pe_lc (own := [("_law_turn", 2), ("_law_rate_here", 3)]) (g := gEi K 2 3) (tt := tYes) rfl scLSh.nd (pi_or (pi_list (pv 0)) (pi_tup (pv 0))) (blkOk_by (N := ["_law_steps", "_law_turns", "_law_turn", "_law_rate_here"]) (sc := defScope s_l_p_shifted) (by decide +kernel)) (fun _ _ _ _ _ => (pg_or (pg_tup rfl (pgs_cons (pg_name (i := 2) (x := "_law_turn") scLSh.nd rfl (Or.inl rfl)) (pgs_cons (pg_name (i := 3) (x := "_law_rate_here") scLSh.nd rfl (Or.inl rfl)) pgs_nil))) (pg_unl rfl (pgs_cons (pg_name (i := 2) (x := "_law_turn") scLSh.nd rfl (Or.inl rfl)) (pgs_cons (pg_name (i := 3) (x := "_law_rate_here") scLSh.nd rfl (Or.inl rfl)) pgs_nil))))) (fun _ _ _ _ _ => pts_nil) (fun _ _ _ _ _ => (pe_tup (pa_cons (pe_op op_add (pv 2) (pv 1)) (pa_cons (pv 3) pa_nil))))))), ?_⟩
    obtain ⟨b, xs, rfl, hb, hlen, hat⟩ := hv.at
    refine walk_or (K := K) (H0 := H) hb (Same.refl H) (fun S q => ⟨_, rfl, q⟩) fun J G wk hG => ?_
    refine fun D hD => ?_
    have eD := same_new (o := HO.lst ([] : List V)) hD
    refine lc_it wk (fun i H' => Same H H' ∧ ∃ acc, H' D = some (.lst acc) ∧ Rows H H' acc ((shL n L).take i) ∧ acc.length = i) ⟨eD, [], upd_same, by rw [List.take_zero]; exact .nil, rfl⟩ (fun i H' _ q => hG _ q.1) ?_ ?_
    · rintro i x H4 H5 hi ⟨s4, acc, a4, r4, l4⟩ ⟨rfl, hx⟩
      obtain ⟨q, p, hp, rfl, hq⟩ := hat i x hx
      refine gEi_ok (hq.imp (s4 _ _) (s4 _ _)) ?_
      dsimp only [tYes]
      refine ⟨rfl, iteT ⟨_, rfl, _, rfl, _, _, rfl, rfl, _, rfl, two_fit, fun t ht => ?_⟩⟩
      have st := same_new (o := HO.tup [V.int (p.1 + n), V.int p.2]) ht
      have nt := none_back s4 ht
      have ntD : t ≠ D := fun z => by
        rw [z, a4] at ht
        cases ht
      have hi2 : i < L.length := (List.getElem?_eq_some_iff.mp hp).1
      refine ⟨acc, st _ _ a4, by rw [l4]; exact small1000 (by omega), fun b o z => ?_, _, upd_same, ?_, by rw [List.length_append, l4]; rfl⟩
      · rw [upd_ne (ne_of_none z hD)]
        exact st _ _ (s4 _ _ z)
      · rw [List.take_add_one, show (shL n L)[i]? = some (p.1 + n, p.2) by unfold shL; rw [List.getElem?_map, hp]; rfl]
        have r5 : Rows H (upd (upd H5 t (HO.tup [V.int (p.1 + n), V.int p.2])) D (HO.lst (acc ++ [V.ref t]))) acc (List.take i (shL n L)) := r4.keep fun q' t' n' e => by
          rw [upd_ne (fun z => by rw [z, a4] at e; cases e)]
          exact st _ _ e
        refine paired_snoc ⟨t, rfl, nt, ?_⟩ r5
        rw [upd_ne ntD]
        exact upd_same
    · rintro H4 ⟨s4, acc, a4, r4, l4⟩
      rw [show (shL n L).take xs.length = shL n L by rw [hlen]; unfold shL; rw [List.take_of_length_le (by rw [List.length_map]; exact Nat.le_refl _)]] at r4
      exact k2 H4 D acc s4 hD a4 r4
theorem ok_LAd {f fR : Addr} {fd fdR : FuncData} (F : Fun K "_law_p_added" "_law_p_added" s_l_p_added f fd) (zSo : mg "sorted" = none) (zSu : mg "sum" = none)
    (FR : Fun K "_law_rate" "_law_rate" s_l_rate fR fdR) (gR : mg "_law_rate" = some (.ref fR)) (bR : Binds K fdR ["_law_steps", "_law_turn"] []) (GR : FnOk P w K mg base CX0 1 fR fdR ["_law_steps", "_law_turn"] (spRate K C)) :
    FnOk P w K mg base CX0 2 f fd ["_law_lists"] (spAdd K C) := by
  refine F.ok scLAd (fun vs H Q E h => ?_) (fun cdv A outer s H vs Q E hr h => ?_)
  · obtain ⟨p, xs, Ls, rfl, _⟩ := h
    rfl
  · obtain ⟨p, xs, Ls, rfl, hs, hl, hL, ht, k⟩ := h
    refine ⟨_, (Evl.pss_cut (ps_par3 (i := 1) (j := 2) (l := 3) (by rfl) scLAd.nd rfl rfl rfl (by decide) (by decide) (by decide) rfl rfl rfl (pa_cons pe_dnewK (pa_cons (pe_lst pa_nil) (pa_cons pe_int pa_nil))) (by rfl))
  (Evl.pss_cut (ps_for PassesOwn.never rfl (pi_or (pi_list (pv 0)) (pi_tup (pv 0))) (pg_name (i := 4) (x := "_law_steps") scLAd.nd rfl (Or.inl rfl)) (pss_one (ps_expr (pe_bm PySem.F.plainAttrs_dict PySem.F.slot_dict_update PySem.F.type_dict_update (mt_updP rfl) (pv 1) (pa_cons (pe_lc (own := [("_law_turn", 5), ("_law_rate_here", 6)]) (g := gEi K 5 6) (tt := tYes) rfl scLAd.nd (pi_or (pi_list (pv 4)) (pi_tup (pv 4))) (blkOk_by (N := ["_law_lists", "_law_turns", "_law_found", "_law_last", "_law_steps", "_law_turn", "_law_rate_here"]) (sc := defScope s_l_p_added) (by decide +kernel)) (fun _ _ _ _ _ => (pg_or (pg_tup rfl (pgs_cons (pg_name (i := 5) (x := "_law_turn") scLAd.nd rfl (Or.inl rfl)) (pgs_cons (pg_name (i := 6) (x := "_law_rate_here") scLAd.nd rfl (Or.inl rfl)) pgs_nil))) (pg_unl rfl (pgs_cons (pg_name (i := 5) (x := "_law_turn") scLAd.nd rfl (Or.inl rfl)) (pgs_cons (pg_name (i := 6) (x := "_law_rate_here") scLAd.nd rfl (Or.inl rfl)) pgs_nil))))) (fun _ _ _ _ _ => pts_nil) (fun _ _ _ _ _ => (pe_tup (pa_cons (pv 5) (pa_cons pe_bl pa_nil))))) pa_nil)))))
  (Evl.pss_cut (ps_for PassesOwn.never rfl (pi_list (pe_callB (cr_sortedDk rfl) (by rfl) zSo (by decide +kernel) (pa_cons (pv 1) pa_nil))) (pg_name (i := 5) (x := "_law_turn") scLAd.nd rfl (Or.inr rfl)) (pss_cons (ps_set (i := 6) scLAd.nd rfl (Or.inl rfl) (pe_callB (cr_sum rfl) (by rfl) zSu (by decide +kernel) (pa_cons (pe_lc (own := [("_law_steps", 4)]) (g := gName 4) (tt := tYes) rfl scLAd.nd (pi_or (pi_list (pv 0)) (pi_tup (pv 0))) (blkOk_by (N := ["_law_lists", "_law_turns", "_law_found", "_law_last", "_law_steps", "_law_turn", "_law_rate_here"]) (sc := defScope s_l_p_added) (by decide +kernel)) (fun _ _ _ _ _ => (pg_name (i := 4) (x := "_law_steps") scLAd.nd rfl (Or.inl rfl))) (fun _ _ _ _ _ => pts_nil) (fun _ _ _ _ _ => (pe_call GR (hr.mono (by decide)) (by rfl) gR FR.kp bR .nil pass0 (pa_cons (pv 4) (pa_cons (pv 5) pa_nil))))) pa_nil)))
  (pss_one (ps_if (pt_cmpR op_ne (pv 6) (pv 3) (nomark _)) (pss_cons (ps_expr (pe_bm PySem.F.plainAttrs_list PySem.F.slot_list_append PySem.F.type_list_append mt_append (pv 2) (pa_cons (pe_tup (pa_cons (pv 5) (pa_cons (pv 6) pa_nil))) pa_nil)))
  (pss_one (ps_set (i := 3) scLAd.nd rfl (Or.inl rfl) (pv 6)))) pss_nil))))
  (pss_one (ps_ret (pv 2)))))), ?_⟩
    have okLs : ∀ L ∈ Ls, okL (-1) 0 L := fun L hL2 => by
      obtain ⟨i, hi⟩ := List.getElem?_of_mem hL2
      obtain ⟨x, _, q⟩ := prs_at' hL hi
      exact q.ok
    have hbd : ∀ L ∈ Ls, ∀ d ∈ L, 0 ≤ d.1 := fun L hL2 d hd => (ok_nn (okLs L hL2) d hd).1
    refine ⟨fun σ' H' => ∃ d r, σ' = [some (.ref p), some (.ref d), some (.ref r), some (.int 0), none, none, none] ∧ Same H H' ∧ H d = none ∧ H r = none ∧ d ≠ r ∧ H' d = some (.dK (dkB [])) ∧ H' r = some (.lst []), ?_, ?_⟩
    · refine fun d hd => ⟨Nat.zero_le _, fun r hrr => ?_⟩
      have ndr : d ≠ r := fun z => by
        rw [← z, upd_same] at hrr
        cases hrr
      have s1 := same_new (o := HO.dK []) hd
      exact ⟨_, _, _, rfl, d, r, rfl, s1.trans (same_new hrr), hd, none_back s1 hrr, ndr, by rw [upd_ne ndr]; exact upd_same, upd_same⟩
    rintro σ' H1 ⟨d, r, rfl, e1, hd, hr0, ndr, d1, r1⟩
    refine ⟨fun σ' H' => ∃ x4 x5 x6, σ' = [some (.ref p), some (.ref d), some (.ref r), some (.int 0), x4, x5, x6] ∧ Same H H' ∧ H' d = some (.dK (dkB (keyDs [] Ls))) ∧ H' r = some (.lst []) ∧ (keyDs [] Ls).Nodup ∧ (keyDs [] Ls).length ≤ 1000000, ?_, ?_⟩
    · refine walk_or (K := K) (H0 := H) hs e1 (fun S q => ⟨_, rfl, q⟩) fun J G wk hG => ?_
      refine for_it (g := gName 4) wk (fun i σ H' => ∃ x4 x5 x6 ks, σ = [some (.ref p), some (.ref d), some (.ref r), some (.int 0), x4, x5, x6] ∧ Same H H' ∧ H' d = some (.dK (dkB ks)) ∧ H' r = some (.lst []) ∧ keyDs [] Ls = keyDs ks (Ls.drop i) ∧ ks.Nodup ∧ ks.length + tot (Ls.drop i) ≤ 1000000)
        ⟨none, none, none, [], rfl, e1, d1, r1, rfl, List.nodup_nil, by simpa using ht⟩ (fun i σ H' _ z => by
          obtain ⟨_, _, _, _, _, z, _⟩ := z
          exact hG _ z) ?_ ?_
      · rintro i x σ H4 H5 hi ⟨x4, x5, x6, ks, rfl, s4, d4, r4, ek, nk, lk⟩ ⟨rfl, hx⟩
        obtain ⟨L, hL1, q⟩ := prs_at hL hx
        have dr : Ls.drop i = L :: Ls.drop (i + 1) := by
          obtain ⟨hl, hg⟩ := List.getElem?_eq_some_iff.mp hL1
          rw [← hg, List.drop_eq_getElem_cons hl]
        rw [dr] at ek lk
        have lk : ks.length + (L.length + tot (Ls.drop (i + 1))) ≤ 1000000 := lk
        obtain ⟨b, ys, rfl, hb, hlen, hat⟩ := (q.same s4).at
        refine ⟨_, rfl, .inr (.inr (.inl ⟨rfl, .inl ⟨_, d4⟩⟩)), ?_⟩
        refine walk_or (K := K) (H0 := H5) hb (Same.refl H5) (fun S q => ⟨_, rfl, q⟩) fun J2 G2 wk2 hG2 => ?_
        refine fun D hD => ?_
        have eD := same_new (o := HO.lst ([] : List V)) hD
        refine lc_it wk2 (fun j H' => Same H5 H' ∧ ∃ acc, H' D = some (.lst acc) ∧ PairsT H' acc ((L.map fun p => ((Sum.inl p.1 : L2.Key), V.bl true)).take j) ∧ acc.length = j ∧ V.ref D ∉ acc) ⟨eD, [], upd_same, by rw [List.take_zero]; exact .nil, rfl, List.not_mem_nil⟩ (fun j H' _ q => hG2 _ q.1) ?_ ?_
        · rintro j y H6 H7 hj ⟨s6, acc, a6, p6, l6, nm⟩ ⟨rfl, hy⟩
          obtain ⟨q', pr, hp, rfl, hq⟩ := hat j y hy
          refine gEi_ok (hq.imp (s6 _ _) (s6 _ _)) ?_
          dsimp only [tYes]
          refine ⟨rfl, iteT ⟨_, rfl, two_fit, fun t ht => ?_⟩⟩
          have st := same_new (o := HO.tup [V.int pr.1, V.bl true]) ht
          have ntD : t ≠ D := fun z => by
            rw [z, a6] at ht
            cases ht
          have hj2 : j < L.length := (List.getElem?_eq_some_iff.mp hp).1
          refine ⟨acc, st _ _ a6, Nat.lt_of_le_of_lt (show acc.length ≤ 1000000 by omega) (by decide), fun b o z => ?_, _, upd_same, ?_, by rw [List.length_append, l6]; rfl, fun z => ?_⟩
          · rw [upd_ne (ne_of_none z hD)]
            exact st _ _ (s6 _ _ z)
          · rw [List.take_add_one, show (L.map fun p => ((Sum.inl p.1 : L2.Key), V.bl true))[j]? = some (Sum.inl pr.1, V.bl true) by rw [List.getElem?_map, hp]; rfl]
            have r5 : PairsT (upd (upd H7 t (HO.tup [V.int pr.1, V.bl true])) D (HO.lst (acc ++ [V.ref t]))) acc ((L.map fun p => ((Sum.inl p.1 : L2.Key), V.bl true)).take j) := by
              refine imp5 p6 fun x kv ⟨u, e, z⟩ => ⟨u, e, ?_⟩
              rw [upd_ne (fun y => by rw [y, a6] at z; cases z)]
              exact st _ _ z
            refine paired_snoc ⟨t, rfl, ?_⟩ r5
            rw [upd_ne ntD]
            exact upd_same
          · rcases List.mem_append.mp z with z | z
            · exact nm z
            · cases List.mem_singleton.mp z
              exact ntD rfl
        · rintro H6 ⟨s6, acc, a6, p6, l6, nm⟩
          rw [hlen, List.take_of_length_le (by rw [List.length_map]; exact Nat.le_refl _)] at p6
          refine ⟨d, D, dkB ks, _, acc, rfl, rfl, s6 _ _ d4, a6, p6, ?_, ?_⟩
          · unfold dkB
            rw [List.length_map, l6, hlen]
            exact Nat.le_trans (show ks.length + L.length ≤ 1000000 by omega) (by decide)
          · rw [merge_dkB]
            have := len_keyD (L := L) (ks := ks)
            have ndH5 : ∀ b o, H b = some o → H6 b = some o := fun b o z => s6 _ _ (s4 _ _ z)
            refine ⟨_, _, _, keyD ks L, rfl, fun b o z => ?_, upd_same, ?_, ek, nd_keyD nk, by omega⟩
            · rw [upd_ne (ne_of_none z hd)]
              exact ndH5 _ _ z
            · rw [upd_ne ndr.symm]
              exact s6 _ _ r4
      · rintro σ H4 ⟨x4, x5, x6, ks, rfl, s4, d4, r4, ek, nk, lk⟩
        rw [show Ls.drop xs.length = [] by rw [Paired.length hL, List.drop_length]] at ek lk
        have ek : keyDs [] Ls = ks := ek
        rw [ek]
        exact ⟨x4, x5, x6, rfl, s4, d4, r4, nk, lk⟩
    rintro σ' H2 ⟨x4, x5, x6, rfl, e2, d2, r2, nk, lk⟩
    refine ⟨fun σ' H' => ∃ b x4 x5 x6 ys ns, σ' = [some (.ref p), some (.ref d), some (.ref r), some (.int b), x4, x5, x6] ∧ Same H H' ∧ H' r = some (.lst ys) ∧ Inc (-1) ns ∧ allT Ls ns ∧ Rows H H' ys (addF (sumR Ls) 0 ns) ∧ ys.length ≤ tot Ls, ?_, ?_⟩
    · refine ⟨_, rfl, d, _, keyDs [] Ls, rfl, d2, by unfold dkB; rw [List.map_map]; rfl, fun ns q hperm hpw hq => ⟨q, rfl, ⟨_, SqL.of upd_same⟩, ?_⟩⟩
      have hnd : ns.Nodup := (hperm.nodup_iff).mpr nk
      have hmem : ∀ k, k ∈ ns ↔ k ∈ keyDs [] Ls := fun k => hperm.mem_iff
      have hk : ∀ k ∈ ns, 0 ≤ k := fun k hk => by
        rcases mem_keyDs.mp ((hmem k).mp hk) with h | ⟨L, hL2, pr, hp, rfl⟩
        · cases h
        · exact hbd L hL2 pr hp
      have inc : Inc (-1) ns := inc_of hpw hnd fun k hk2 => by
        have := hk k hk2
        omega
      have all : allT Ls ns := ⟨fun L hL2 pr hp => (hmem _).mpr (mem_keyDs.mpr (.inr ⟨L, hL2, pr, hp, rfl⟩)), fun k hk => (mem_keyDs.mp ((hmem k).mp hk)).resolve_left fun z => by cases z⟩
      have s2 := same_new (o := HO.lst (ns.map V.int)) hq
      have nrq : r ≠ q := ne_of_none r2 hq
      have lns : ns.length = (keyDs [] Ls).length := hperm.length_eq
      refine for_it (g := gName 5) (walk_list (xs := ns.map V.int)) (fun j σ H' => ∃ (b : Int) (x4 x5 x6 : Option V) (ys : List V) (M : List (Int × Int)), σ = [some (.ref p), some (.ref d), some (.ref r), some (.int b), x4, x5, x6] ∧ Same H H' ∧ H' q = some (.lst (ns.map V.int)) ∧ H' r = some (.lst ys) ∧ Rows H H' ys M ∧ addF (sumR Ls) 0 ns = M ++ addF (sumR Ls) b (ns.drop j) ∧ ys.length ≤ j)
        ⟨0, x4, x5, x6, [], [], rfl, e2.trans s2, upd_same, s2 _ _ r2, .nil, rfl, Nat.le_refl _⟩ (fun i σ H' _ z => by
          obtain ⟨_, _, _, _, _, _, _, _, z, _⟩ := z
          exact SqL.of z) ?_ ?_
      · rintro j x σ H4 H5 hj ⟨b, y4, y5, y6, ys, M, rfl, s4, hq4, hp4, r4, eM, lx⟩ ⟨rfl, hx⟩
        rw [List.getElem?_map] at hx
        cases e0 : ns[j]? with
        | none =>
          rw [e0] at hx
          cases hx
        | some n =>
          rw [e0] at hx
          obtain rfl : V.int n = x := Option.some.inj hx
          have dr : ns.drop j = n :: ns.drop (j + 1) := by
            obtain ⟨hl, hg⟩ := List.getElem?_eq_some_iff.mp e0
            rw [← hg, List.drop_eq_getElem_cons hl]
          rw [dr] at eM
          have hn0 : 0 ≤ n := hk n (List.mem_of_getElem? e0)
          have hj2 : j < ns.length := by
            obtain ⟨hl, _⟩ := List.getElem?_eq_some_iff.mp e0
            exact hl
          have eM2 : addF (sumR Ls) 0 ns = M ++ (if sumR Ls n ≠ b then (n, sumR Ls n) :: addF (sumR Ls) (sumR Ls n) (ns.drop (j + 1)) else addF (sumR Ls) b (ns.drop (j + 1))) := eM
          refine walk_or (K := K) (H0 := H) hs s4 (fun S q => ⟨_, rfl, q⟩) fun J2 G2 wk2 hG2 => ?_
          refine fun D hD => ?_
          have eD := same_new (o := HO.lst ([] : List V)) hD
          refine lc_it wk2 (fun i H' => Same H5 H' ∧ H' D = some (.lst (((Ls.take i).map fun L => rateF n 0 L).map V.int))) ⟨eD, by rw [List.take_zero]; exact upd_same⟩ (fun i H' _ q => hG2 _ (s4.trans q.1)) ?_ ?_
          · rintro i y H6 H7 hi ⟨s6, a6⟩ ⟨rfl, hy⟩
            obtain ⟨L, hL1, sl⟩ := prs_at hL hy
            dsimp only [tYes]
            refine ⟨rfl, iteT ⟨_, rfl, _, rfl, y, n, L, rfl, sl.same (s4.trans s6), hn0, fun H8 s8 => ?_⟩⟩
            have hi2 : i < Ls.length := (List.getElem?_eq_some_iff.mp hL1).1
            have hxl : xs.length = Ls.length := Paired.length hL
            refine ⟨_, s8 _ _ a6, ?_, fun b o z => ?_, ?_⟩
            · rw [List.length_map, List.length_map, List.length_take]
              exact small1000 (by omega)
            · rw [upd_ne (ne_of_none z hD)]
              exact s8 _ _ (s6 _ _ z)
            · rw [upd_same, List.take_add_one, hL1, List.map_append, List.map_append]
              rfl
          · rintro H6 ⟨s6, a6⟩
            rw [show Ls.take xs.length = Ls by rw [Paired.length hL, List.take_length]] at a6
            have s46 := s4.trans s6
            have hp6 := s6 _ _ hp4
            refine ⟨D, _, rfl, SqL.of a6, ?_⟩
            show _
            refine ⟨_, rfl, _, rfl, rfl, _, rfl, ite2 (fun hc => ?_) (fun hc => ?_)⟩
            · have ne : sumR Ls n ≠ b := fun z => by
                have hc2 : (!decide (V.int (sumR Ls n) = V.int b)) = true := hc
                rw [z, decide_eq_true rfl] at hc2
                cases hc2
              rw [if_pos ne] at eM2
              refine ⟨_, rfl, .inl ⟨rfl, _, SqL.of hp6⟩, _, rfl, _, rfl, two_fit, fun t ht => ?_⟩
              have st := same_new (o := HO.tup [V.int n, V.int (sumR Ls n)]) ht
              have hp7 := st _ _ hp6
              refine ⟨r, ys, .ref t, rfl, rfl, hp7, Nat.lt_of_le_of_lt (show ys.length ≤ 1000000 by omega) (by decide), ?_⟩
              have ntr : t ≠ r := fun z => by
                rw [z, hp6] at ht
                cases ht
              refine ⟨_, rfl, sumR Ls n, y4, some (.int n), some (.int (sumR Ls n)), ys ++ [.ref t], M ++ [(n, sumR Ls n)], rfl, fun c o e => ?_, ?_, upd_same, ?_, ?_, by rw [List.length_append]; show ys.length + 1 ≤ j + 1; omega⟩
              · rw [upd_ne (ne_of_none e hr0)]
                exact st _ _ (s46 _ _ e)
              · rw [upd_ne nrq.symm]
                exact st _ _ (s6 _ _ hq4)
              · refine paired_snoc ⟨t, rfl, none_back s46 ht, ?_⟩ (r4.keep fun c u n e => ?_)
                · rw [upd_ne (fun z => by rw [z, hp4] at e; cases e)]
                  exact st _ _ (s6 _ _ e)
                · rw [upd_ne ntr]
                  exact upd_same
              · rw [eM2, List.append_assoc]
                rfl
            · have e : sumR Ls n = b := by
                refine Classical.byContradiction fun z => hc ?_
                show (!decide (V.int (sumR Ls n) = V.int b)) = true
                rw [decide_eq_false (fun y => z (V.int.inj y))]
                rfl
              rw [if_neg (fun z => z e)] at eM2
              exact ⟨b, y4, some (.int n), some (.int (sumR Ls n)), ys, M, rfl, s46, s6 _ _ hq4, hp6, r4.keep fun c u n e => s6 _ _ e, eM2, by omega⟩
      · rintro σ H4 ⟨b, y4, y5, y6, ys, M, rfl, s4, hq4, hp4, r4, eM, lx⟩
        rw [List.length_map] at eM lx
        rw [List.drop_length] at eM
        have eM : addF (sumR Ls) 0 ns = M ++ [] := eM
        rw [List.append_nil] at eM
        exact ⟨b, y4, y5, y6, ys, ns, rfl, s4, hp4, inc, all, by rw [eM]; exact r4, by have := len_keyDs (Ls := Ls) (ks := []); simp only [List.length_nil] at this; omega⟩
    · rintro σ' H4 ⟨b, y4, y5, y6, ys, ns, rfl, s4, r4, inc, all, rw4, ly4⟩
      exact ⟨_, rfl, k H4 r ys ns s4 hr0 r4 inc all rw4 ly4⟩
end
end K05

set_option Elab.async false
set_option linter.all false
set_option maxRecDepth 100000
/-! xs != [] for a list of any things: the lengths tell -/
namespace Own
open PySem PySem.Spec PyProof.Rows L2
def rNeL (K : PySem.W.Frag) : R2 := fun x y H Q => ∃ (a b : Addr) (xs : List V), x = .ref a ∧ y = .ref b ∧ SqL K H a xs ∧ SqL K H b [] ∧ Q (.bl (!xs.isEmpty)) H
theorem op_neL {X : Cx} (hu : X.A.units + 64 < cLine) : OpR X (compareOp .NotEq) (rNeL X.K) := by
  rintro pins s σ H x y v u Q I rx ry ⟨a, b, xs, rfl, rfl, ha, hb, q⟩
  cases (show v = Value.ref a from rx)
  cases (show u = Value.ref b from ry)
  obtain ⟨us, r1, p1, _⟩ := I.list ha
  obtain ⟨ws, r2, p2, _⟩ := I.list hb
  have hw : ws = [] := List.eq_nil_of_length_eq_zero (by rw [← r2.length]; rfl)
  subst hw
  cases xs with
  | nil =>
    have hus : us = [] := List.eq_nil_of_length_eq_zero (by rw [← r1.length]; rfl)
    subst hus
    refine SeqAt.RcNeAt.lists (e := fun _ => true) p1.isList p2.isList rfl (by omega) (fun j h1 _ => absurd h1 (by simp)) X.prog X.w _ _ ?_
    exact ⟨.bl false, H, I, rfl, q⟩
  | cons x0 xt =>
    refine SeqAt.RcNeAt.lists_lengths p1.isList p2.isList ?_ (by omega) X.prog X.w _ _ ?_
    · have := r1.length
      simp only [List.length_cons] at this
      simp only [List.size_toArray, List.length_nil]
      simp
      intro z
      rw [z] at this
      simp at this
    · exact ⟨.bl true, H, I, rfl, q⟩
end Own

set_option Elab.async false
set_option linter.all false
set_option maxRecDepth 100000
set_option maxHeartbeats 4000000
namespace K05
open PySem PySem.Spec PyProof.Rows L2 Own
/-! _law_due, _law_later_due -/
theorem at_zeroD {x : V} {ys : List V} : atI (x :: ys) 0 = some x := by
  unfold atI ixN
  rw [if_pos (by decide), if_pos (by rw [List.length_cons]; omega)]
  rfl
/-- a new pair of a word and a thing -/
def Pair (H H' : Hp) (t : Addr) (s : Str) (v : V) : Prop := Same H H' ∧ H t = none ∧ H' t = some (.tup [.str s, v])
def spDue (K : PySem.W.Frag) (C : Addr) : Sp := fun vs H Q _ => ∃ v, vs = [v] ∧
  ((SqR K C H v none ∧ ∀ H' t, Pair H H' t "steps" v → Q (.ref t) H') ∨
   (∃ (p : Addr) (xs : List V) (cs : List (Option (List (Option (List V))))) (i : Nat) (x : V), v = .ref p ∧ Sqs H p xs ∧ xs.length ≤ 1000 ∧ Paired (Cd K C H) xs cs ∧ (∀ j c, j < i → cs[j]? = some c → stp c = true) ∧ cs[i]?.map stp = some false ∧ xs[i]? = some x ∧ ∀ H' t, Pair H H' t "steps" x → Q (.ref t) H') ∨
   (∃ (p : Addr) (xs : List V) (Ls : List (List (Int × Int))), v = .ref p ∧ Sqs H p xs ∧ xs.length ≤ 1000 ∧ Paired (StL K C H) xs Ls ∧ tot Ls ≤ 1000000 ∧
      ∀ H' t p xs ns, Pair H H' t "told" (.ref p) → H p = none → H' p = some (.lst xs) → Inc (-1) ns → allT Ls ns → Rows H H' xs (addF (sumR Ls) 0 ns) → xs.length ≤ tot Ls → Q (.ref t) H'))
def spLDue (K : PySem.W.Frag) (C : Addr) : Sp := fun vs H Q _ => ∃ v w c o, vs = [v, w] ∧ Cd K C H v c ∧ SqR K C H w o ∧ (stp c = false → ∀ H' t, Pair H H' t "steps" v → Q (.ref t) H') ∧ (stp c = true → isN w = false → ∀ H' t, Pair H H' t "turns" w → Q (.ref t) H') ∧
  (stp c = true → isN w = true → ∃ L k, w = .int k ∧ StL K C H v L ∧ L.length ≤ 1000 ∧ ∀ H' t p xs, Pair H H' t "told" (.ref p) → H p = none → H' p = some (.lst xs) → Rows H H' xs (shL k L) → Q (.ref t) H')
theorem scDue : FnScope ["_law_lists", "_law_wrong", "_law_steps"] ["_law_lists"] (defScope s_l_due) := ⟨rfl, rfl, rfl, by decide +kernel, rfl, by decide +kernel, by decide +kernel⟩
theorem scLDue : FnScope ["_law_steps", "_law_turns"] ["_law_steps", "_law_turns"] (defScope s_l_later_due) := ⟨rfl, rfl, rfl, by decide +kernel, rfl, by decide +kernel, by decide +kernel⟩
section
variable {P : Program} {w : World} {K : PySem.W.Frag} {mg : Str → Option Value} {base : Heap} {C : Addr}
theorem ok_due {f fLL fLS fAd : Addr} {fd fdLL fdLS fdAd : FuncData} (F : Fun K "_law_due" "_law_due" s_l_due f fd)
    (FLL : Fun K "_law_is_list" "_law_is_list" s_l_is_list fLL fdLL) (gLL : mg "_law_is_list" = some (.ref fLL)) (bLL : Binds K fdLL ["_law_thing"] []) (GLL : FnOk P w K mg base CX0 1 fLL fdLL ["_law_thing"] (spLstY K C))
    (FLS : Fun K "_law_is_steps" "_law_is_steps" s_l_is_steps fLS fdLS) (gLS : mg "_law_is_steps" = some (.ref fLS)) (bLS : Binds K fdLS ["_law_thing"] []) (GLS : FnOk P w K mg base CX0 2 fLS fdLS ["_law_thing"] (spSteps K C))
    (FAd : Fun K "_law_p_added" "_law_p_added" s_l_p_added fAd fdAd) (gAd : mg "_law_p_added" = some (.ref fAd)) (bAd : Binds K fdAd ["_law_lists"] []) (GAd : FnOk P w K mg base CX0 2 fAd fdAd ["_law_lists"] (spAdd K C)) :
    FnOk P w K mg base CX0 3 f fd ["_law_lists"] (spDue K C) := by
  refine F.ok scDue (fun vs H Q E h => ?_) (fun cdv A outer s H vs Q E hr h => ?_)
  · obtain ⟨v, rfl, _⟩ := h
    rfl
  · obtain ⟨v, rfl, h⟩ := h
    refine ⟨_, (Evl.pss_cut (ps_if (pt_not (pt_val (pe_call GLL (hr.mono (by decide)) (by rfl) gLL FLL.kp bLL .nil pass0 (pa_cons (pv 0) pa_nil)))) (pss_one (ps_ret (pe_tup (pa_cons pe_str (pa_cons (pv 0) pa_nil))))) pss_nil)
  (Evl.pss_cut (ps_setLc (i := 1) (own := [("_law_steps", 2)]) (g := gName 2) (by rfl) scDue.nd rfl rfl (sw_true rfl rfl rfl (by decide +kernel)) (pi_or (pi_list (pv 0)) (pi_tup (pv 0))) (blkOk_by (N := ["_law_lists", "_law_wrong", "_law_steps"]) (sc := defScope s_l_due) (by decide +kernel)) (fun _ _ _ _ _ => (pg_name (i := 2) (x := "_law_steps") scDue.nd rfl (Or.inl rfl))) (fun _ _ _ _ _ => (pts_one (pt_not (pt_val (pe_call GLS (hr.mono (by decide)) (by rfl) gLS FLS.kp bLS .nil pass0 (pa_cons (pv 2) pa_nil)))))) (fun _ _ _ _ _ => (pv 2)))
  (pss_one (ps_ret (pe_ifExp (pt_cmpR (op_neL hr.units) (pv 1) (pe_lst pa_nil) (nomark _)) (pe_tup (pa_cons pe_str (pa_cons (pe_ix ix_list (pv 1) pe_int (fun _ _ => rfl)) pa_nil))) (pe_tup (pa_cons pe_str (pa_cons (pe_call GAd (hr.mono (by decide)) (by rfl) gAd FAd.kp bAd .nil pass0 (pa_cons (pv 0) pa_nil)) pa_nil)))))))), ?_⟩
    have tup : ∀ {H1 : Hp} {s : Str} {y : V}, Same H H1 → ∀ t, H1 t = none → Pair H (upd H1 t (.tup [.str s, y])) t s y := fun e t ht => ⟨e.trans (same_new ht), none_back e ht, upd_same⟩
    rcases h with ⟨hs, k⟩ | ⟨p, xs, cs, i0, x0, rfl, hs, hl, hcs, hok, hbad, hx0, k⟩ | ⟨p, xs, Ls, rfl, hs, hl, hL, ht, k⟩
    · refine ⟨fun σ' H' => False, ?_, fun _ _ z => z.elim⟩
      exact ⟨_, rfl, v, none, rfl, hs, fun H1 e1 => ⟨_, rfl, iteT ⟨_, rfl, two_fit, fun t ht => k _ t (tup e1 t ht)⟩⟩⟩
    · refine ⟨fun σ' H' => σ' = [some (.ref p), none, none] ∧ Same H H', ?_, ?_⟩
      · exact ⟨_, rfl, _, some xs, rfl, .inr (.inr ⟨p, xs, rfl, hs, rfl⟩), fun H1 e1 => ⟨_, rfl, iteF ⟨rfl, e1⟩⟩⟩
      rintro σ' H1 ⟨rfl, e1⟩
      refine ⟨fun σ' H' => ∃ D yt, σ' = [some (.ref p), some (.ref D), none] ∧ Same H H' ∧ H' D = some (.lst (x0 :: yt)), ?_, ?_⟩
      · refine walk_or (K := K) (H0 := H1) (hs.same e1) (Same.refl H1) (fun S q => ⟨_, rfl, q⟩) fun J G wk hG => ?_
        refine fun D hD => ?_
        have eD := same_new (o := HO.lst ([] : List V)) hD
        refine lc_it wk (fun i H' => Same H1 H' ∧ ∃ acc, H' D = some (.lst acc) ∧ acc.length ≤ i ∧ (i ≤ i0 → acc = []) ∧ (i0 < i → ∃ yt, acc = x0 :: yt)) ⟨eD, [], upd_same, Nat.le_refl _, fun _ => rfl, fun z => absurd z (Nat.not_lt_zero _)⟩ (fun i H' _ q => hG _ q.1) ?_ ?_
        · rintro i x H4 H5 hi ⟨s4, acc, a4, l4, e4, f4⟩ ⟨rfl, hx⟩
          obtain ⟨c, hc, q⟩ := prs_at hcs hx
          refine ⟨rfl, _, rfl, x, c, rfl, q.same (e1.trans s4), fun H6 e6 => ⟨_, rfl, ?_⟩⟩
          cases hst : stp c with
          | true =>
            refine iteF ⟨s4.trans e6, acc, e6 _ _ a4, by omega, fun z => e4 (by omega), fun z => ?_⟩
            by_cases y : i = i0
            · rw [← y, hc, Option.map_some, hst] at hbad
              cases hbad
            · exact f4 (by omega)
          | false =>
            have le : i0 ≤ i := Nat.le_of_not_lt fun z => by
              rw [hok i c z hc] at hst
              cases hst
            refine iteT ⟨_, rfl, acc, e6 _ _ a4, small1000 (by omega), fun b o z => ?_, acc ++ [x], upd_same, by rw [List.length_append]; show acc.length + 1 ≤ i + 1; omega, fun z => by omega, fun _ => ?_⟩
            · rw [upd_ne (ne_of_none z hD)]
              exact e6 _ _ (s4 _ _ z)
            · by_cases y : i = i0
              · rw [y, hx0] at hx
                cases hx
                rw [e4 (by omega)]
                exact ⟨[], rfl⟩
              · obtain ⟨yt, rfl⟩ := f4 (by omega)
                exact ⟨yt ++ [x], rfl⟩
        · rintro H4 ⟨s4, acc, a4, l4, e4, f4⟩
          have hi0 : i0 < xs.length := (List.getElem?_eq_some_iff.mp hx0).1
          obtain ⟨yt, rfl⟩ := f4 hi0
          exact ⟨D, yt, rfl, e1.trans s4, a4⟩
      rintro σ' H2 ⟨D, yt, rfl, e2, hD⟩
      refine ⟨_, rfl, Nat.zero_le _, fun e he => ?_⟩
      have s2 := same_new (o := HO.lst ([] : List V)) he
      refine ⟨D, e, x0 :: yt, rfl, rfl, SqL.of (s2 _ _ hD), SqL.of upd_same, _, rfl, iteT ⟨_, rfl, D, _, 0, x0, rfl, rfl, SqL.of (s2 _ _ hD), at_zeroD, two_fit, fun t ht => k _ t (tup (e2.trans s2) t ht)⟩⟩
    · refine ⟨fun σ' H' => σ' = [some (.ref p), none, none] ∧ Same H H', ?_, ?_⟩
      · exact ⟨_, rfl, _, some xs, rfl, .inr (.inr ⟨p, xs, rfl, hs, rfl⟩), fun H1 e1 => ⟨_, rfl, iteF ⟨rfl, e1⟩⟩⟩
      rintro σ' H1 ⟨rfl, e1⟩
      refine ⟨fun σ' H' => ∃ D, σ' = [some (.ref p), some (.ref D), none] ∧ Same H H' ∧ H' D = some (.lst []), ?_, ?_⟩
      · refine walk_or (K := K) (H0 := H1) (hs.same e1) (Same.refl H1) (fun S q => ⟨_, rfl, q⟩) fun J G wk hG => ?_
        refine fun D hD => ?_
        have eD := same_new (o := HO.lst ([] : List V)) hD
        refine lc_it wk (fun i H' => Same H1 H' ∧ H' D = some (.lst [])) ⟨eD, upd_same⟩ (fun i H' _ q => hG _ q.1) ?_ ?_
        · rintro i x H4 H5 hi ⟨s4, a4⟩ ⟨rfl, hx⟩
          obtain ⟨L, hL1, q⟩ := prs_at hL hx
          refine ⟨rfl, _, rfl, x, _, rfl, q.cd.same (e1.trans s4), fun H6 e6 => ⟨_, rfl, ?_⟩⟩
          rw [show stp (some (L.map itP)) = true from okL_stp q.ok]
          exact iteF ⟨s4.trans e6, e6 _ _ a4⟩
        · rintro H4 ⟨s4, a4⟩
          exact ⟨D, rfl, e1.trans s4, a4⟩
      rintro σ' H2 ⟨D, rfl, e2, hD⟩
      refine ⟨_, rfl, Nat.zero_le _, fun e he => ?_⟩
      have s2 := same_new (o := HO.lst ([] : List V)) he
      have e3 := e2.trans s2
      refine ⟨D, e, [], rfl, rfl, SqL.of (s2 _ _ hD), SqL.of upd_same, _, rfl, iteF ⟨_, rfl, p, xs, Ls, rfl, hs.same e3, hl, imp5 hL fun _ _ q => q.same e3, ht, fun H4 q ys ns s4 nq hq inc all r4 l4 => ⟨two_fit, fun t ht => ?_⟩⟩⟩
      have st := same_new (o := HO.tup [V.str "told", V.ref q]) ht
      exact k _ t q ys ns (tup (e3.trans s4) t ht) (none_back e3 nq) (st _ _ hq) inc all (Rows.low e3 (r4.keep fun q t n e => st _ _ e)) l4
theorem ok_ldue {f fLN fLS fSh : Addr} {fd fdLN fdLS fdSh : FuncData} (F : Fun K "_law_later_due" "_law_later_due" s_l_later_due f fd)
    (FLN : Fun K "_law_is_number" "_law_is_number" s_l_is_number fLN fdLN) (gLN : mg "_law_is_number" = some (.ref fLN)) (bLN : Binds K fdLN ["_law_thing"] []) (GLN : FnOk P w K mg base CX0 1 fLN fdLN ["_law_thing"] (spNumY K C))
    (FLS : Fun K "_law_is_steps" "_law_is_steps" s_l_is_steps fLS fdLS) (gLS : mg "_law_is_steps" = some (.ref fLS)) (bLS : Binds K fdLS ["_law_thing"] []) (GLS : FnOk P w K mg base CX0 2 fLS fdLS ["_law_thing"] (spSteps K C))
    (FSh : Fun K "_law_p_shifted" "_law_p_shifted" s_l_p_shifted fSh fdSh) (gSh : mg "_law_p_shifted" = some (.ref fSh)) (bSh : Binds K fdSh ["_law_steps", "_law_turns"] []) (GSh : FnOk P w K mg base CX0 1 fSh fdSh ["_law_steps", "_law_turns"] (spShf K C)) :
    FnOk P w K mg base CX0 3 f fd ["_law_steps", "_law_turns"] (spLDue K C) := by
  refine F.ok scLDue (fun vs H Q E h => ?_) (fun cdv A outer s H vs Q E hr h => ?_)
  · obtain ⟨v, w, c, o, rfl, _⟩ := h
    rfl
  · obtain ⟨v, w, c, o, rfl, hc, hw, o1, o2, k⟩ := h
    refine ⟨_, (Evl.pss_cut (ps_if (pt_not (pt_val (pe_call GLS (hr.mono (by decide)) (by rfl) gLS FLS.kp bLS .nil pass0 (pa_cons (pv 0) pa_nil)))) (pss_one (ps_ret (pe_tup (pa_cons pe_str (pa_cons (pv 0) pa_nil))))) pss_nil)
  (pss_one (ps_ret (pe_ifExp (pt_val (pe_call GLN (hr.mono (by decide)) (by rfl) gLN FLN.kp bLN .nil pass0 (pa_cons (pv 1) pa_nil))) (pe_tup (pa_cons pe_str (pa_cons (pe_call GSh (hr.mono (by decide)) (by rfl) gSh FSh.kp bSh .nil pass0 (pa_cons (pv 0) (pa_cons (pv 1) pa_nil))) pa_nil))) (pe_tup (pa_cons pe_str (pa_cons (pv 1) pa_nil))))))), ?_⟩
    have tup : ∀ {H1 : Hp} {s : Str} {y : V}, Same H H1 → ∀ t, H1 t = none → Pair H (upd H1 t (.tup [.str s, y])) t s y := fun e t ht => ⟨e.trans (same_new ht), none_back e ht, upd_same⟩
    refine ⟨fun σ' H' => σ' = [some v, some w] ∧ Same H H' ∧ stp c = true, ?_, ?_⟩
    · refine ⟨_, rfl, v, c, rfl, hc, fun H1 e1 => ⟨_, rfl, ?_⟩⟩
      cases hi : stp c with
      | true => exact iteF ⟨rfl, e1, rfl⟩
      | false => exact iteT ⟨_, rfl, two_fit, fun t ht => o1 hi _ t (tup e1 t ht)⟩
    · rintro σ' H2 ⟨rfl, e2, hi⟩
      refine ⟨_, rfl, w, o, rfl, hw.same e2, _, rfl, ?_⟩
      cases hn : isN w with
      | false => exact iteF ⟨_, rfl, two_fit, fun t ht => o2 hi hn _ t (tup e2 t ht)⟩
      | true =>
        obtain ⟨L, n, rfl, hv, hl, k2⟩ := k hi hn
        refine iteT ⟨_, rfl, _, rfl, v, L, n, rfl, hv.same e2, hl, fun H4 q ys s4 nq hq r4 => ⟨two_fit, fun t ht => ?_⟩⟩
        have st := same_new (o := HO.tup [V.str "told", V.ref q]) ht
        exact k2 _ t q ys (tup (e2.trans s4) t ht) (none_back e2 nq) (st _ _ hq) (Rows.low e2 (r4.keep fun q t n e => st _ _ e))
end
end K05

set_option Elab.async false
set_option linter.all false
set_option maxRecDepth 100000
set_option maxHeartbeats 4000000
namespace K05
open PySem PySem.Spec PyProof.Rows L2 Own
/-! steps parted in two: by a turn, by a height -/
theorem ok_less5 : ∀ {L : List (Int × Int)} {l l' b : Int}, okL l b L → l' ≤ l → okL l' b L
  | [], _, _, _, h, _ => h
  | p :: r, l, l', b, h, e => by
    obtain ⟨h1, h2, h3, h4, h5⟩ := h
    exact ⟨h1, h2, by omega, h4, h5⟩
def endR : Int → List (Int × Int) → Int
  | b, [] => b
  | _, p :: r => endR p.2 r
def befL (t : Int) (L : List (Int × Int)) : List (Int × Int) := L.filter fun p => decide (p.1 < t)
def aftL (t : Int) (L : List (Int × Int)) : List (Int × Int) := L.filter fun p => decide (p.1 > t)
def aheL (t b : Int) (L : List (Int × Int)) : List (Int × Int) := befL t L ++ (if endR b (befL t L) > 0 then [(t, 0)] else [])
def behL (t b : Int) (L : List (Int × Int)) : List (Int × Int) := (if rateF t b L > 0 then [(t, rateF t b L)] else []) ++ aftL t L
theorem late_of : ∀ {L : List (Int × Int)} {l b : Int}, okL l b L → ∀ p ∈ L, l < p.1
  | [], _, _, _, p, hp => by cases hp
  | q :: r, l, b, h, p, hp => by
    obtain ⟨h1, h2, h3, h4, h5⟩ := h
    rcases List.mem_cons.mp hp with rfl | hp
    · exact h3
    · have := late_of h5 p hp
      omega
theorem bef_none {t : Int} {L : List (Int × Int)} (h : ∀ p ∈ L, t ≤ p.1) : befL t L = [] := List.filter_eq_nil_iff.mpr fun p hp => by
  have := h p hp
  simp only [decide_eq_true_eq]
  omega
theorem aft_all {t : Int} {L : List (Int × Int)} (h : ∀ p ∈ L, t < p.1) : aftL t L = L := List.filter_eq_self.mpr fun p hp => by
  have := h p hp
  simp only [decide_eq_true_eq]
  omega
theorem early {s : Int} : ∀ {L : List (Int × Int)}, (∀ p ∈ L, s < p.1) → ∀ c, rateF s c L = c
  | [], _, _ => rfl
  | p :: r, h, c => by
    have h1 := h p List.mem_cons_self
    show rateF s (if p.1 ≤ s then p.2 else c) r = c
    rw [if_neg (by omega)]
    exact early (fun q hq => h q (List.mem_cons_of_mem _ hq)) c
theorem later_all {p : Int × Int} {r : List (Int × Int)} {t : Int} (h : okL p.1 p.2 r) (c : t ≤ p.1) : ∀ q ∈ p :: r, t ≤ q.1 := fun q hq => by
  rcases List.mem_cons.mp hq with rfl | hq
  · exact c
  · have := late_of h q hq
    omega
theorem ahe_ok {t : Int} (ht : 0 ≤ t) : ∀ {L : List (Int × Int)} {l b : Int}, okL l b L → l < t → 0 ≤ b → okL l b (aheL t b L) ∧ (∀ s, s < t → rateF s b (aheL t b L) = rateF s b L) ∧ ∀ p ∈ aheL t b L, p.1 ≤ t
  | [], l, b, h, hl, hb => by
    have h : b = 0 := h
    subst h
    exact ⟨rfl, fun _ _ => rfl, fun p hp => by cases hp⟩
  | p :: r, l, b, h, hl, hb => by
    obtain ⟨h1, h2, h3, h4, h5⟩ := h
    by_cases c : p.1 < t
    · have e : aheL t b (p :: r) = p :: aheL t p.2 r := by
        unfold aheL befL
        rw [List.filter_cons_of_pos (by simpa using c)]
        rfl
      obtain ⟨i1, i2, i3⟩ := ahe_ok ht h5 c h2
      rw [e]
      refine ⟨⟨h1, h2, h3, h4, i1⟩, fun s hs => ?_, fun q hq => ?_⟩
      · show rateF s (if p.1 ≤ s then p.2 else b) (aheL t p.2 r) = rateF s (if p.1 ≤ s then p.2 else b) r
        by_cases d : p.1 ≤ s
        · rw [if_pos d]
          exact i2 s hs
        · rw [if_neg d, far i1 (by omega), far h5 (by omega)]
      · rcases List.mem_cons.mp hq with rfl | hq
        · omega
        · exact i3 q hq
    · have la := later_all h5 (show t ≤ p.1 by omega)
      have e : aheL t b (p :: r) = if b > 0 then [(t, 0)] else [] := by
        unfold aheL
        rw [bef_none la]
        rfl
      have er : ∀ s, s < t → rateF s b (p :: r) = b := fun s hs => early (fun q hq => by
        have := la q hq
        omega) b
      rw [e]
      by_cases d : b > 0
      · rw [if_pos d]
        refine ⟨⟨ht, Int.le_refl _, hl, fun z => by
          have z : (0 : Int) = b := z
          omega, rfl⟩, fun s hs => ?_, fun q hq => ?_⟩
        · rw [er s hs]
          show (if t ≤ s then (0 : Int) else b) = b
          rw [if_neg (by omega)]
        · cases List.mem_singleton.mp hq
          exact Int.le_refl _
      · rw [if_neg d]
        have z : b = 0 := by omega
        exact ⟨z, fun s hs => (er s hs).symm, fun q hq => by cases hq⟩
theorem aft_ok {t : Int} : ∀ {L : List (Int × Int)} {l b : Int}, okL l b L → okL t (rateF t b L) (aftL t L) ∧ ∀ s, t ≤ s → rateF s (rateF t b L) (aftL t L) = rateF s b L
  | [], l, b, h => ⟨h, fun _ _ => rfl⟩
  | p :: r, l, b, h => by
    have h0 := h
    obtain ⟨h1, h2, h3, h4, h5⟩ := h
    by_cases c : p.1 ≤ t
    · have e : aftL t (p :: r) = aftL t r := by
        unfold aftL
        rw [List.filter_cons_of_neg (by simpa using c)]
      have e2 : rateF t b (p :: r) = rateF t p.2 r := by
        show rateF t (if p.1 ≤ t then p.2 else b) r = _
        rw [if_pos c]
      obtain ⟨i1, i2⟩ := aft_ok (t := t) h5
      rw [e, e2]
      refine ⟨i1, fun s hs => ?_⟩
      rw [i2 s hs]
      show _ = rateF s (if p.1 ≤ s then p.2 else b) r
      rw [if_pos (by omega)]
    · have la := later_all h5 (show t + 1 ≤ p.1 by omega)
      rw [aft_all (fun q hq => by
        have := la q hq
        omega), early (fun q hq => by
        have := la q hq
        omega) b]
      exact ⟨⟨h1, h2, by omega, h4, h5⟩, fun _ _ => rfl⟩
theorem beh_ok {t : Int} (ht : 0 ≤ t) {L : List (Int × Int)} {l b : Int} (h : okL l b L) (hl : l < t) (hb : 0 ≤ b) : okL l 0 (behL t b L) ∧ (∀ s, t ≤ s → rateF s 0 (behL t b L) = rateF s b L) ∧ ∀ s, s < t → rateF s 0 (behL t b L) = 0 := by
  obtain ⟨i1, i2⟩ := aft_ok (t := t) h
  have nn : 0 ≤ rateF t b L := rate_nn h b hb
  unfold behL
  by_cases d : rateF t b L > 0
  · rw [if_pos d]
    have ok : okL l 0 ([(t, rateF t b L)] ++ aftL t L) := ⟨ht, nn, hl, fun z => by
      have z : rateF t b L = 0 := z
      omega, i1⟩
    refine ⟨ok, fun s hs => ?_, fun s hs => ?_⟩
    · show rateF s (if t ≤ s then rateF t b L else 0) (aftL t L) = _
      rw [if_pos hs]
      exact i2 s hs
    · show rateF s (if t ≤ s then rateF t b L else 0) (aftL t L) = _
      rw [if_neg (by omega)]
      exact far i1 (by omega) 0
  · rw [if_neg d]
    have z : rateF t b L = 0 := by omega
    rw [z] at i1 i2
    exact ⟨ok_less5 i1 (by omega), i2, fun s hs => far i1 (by omega) 0⟩
theorem by_turn {t : Int} (ht : 0 ≤ t) {L : List (Int × Int)} (h : okL (-1) 0 L) : okL (-1) 0 (aheL t 0 L) ∧ okL (-1) 0 (behL t 0 L) ∧ ∀ s, sumR [aheL t 0 L, behL t 0 L] s = rateF s 0 L := by
  obtain ⟨a1, a2, a3⟩ := ahe_ok ht h (by omega) (Int.le_refl _)
  obtain ⟨b1, b2, b3⟩ := beh_ok ht h (by omega) (Int.le_refl _)
  refine ⟨a1, b1, fun s => ?_⟩
  show rateF s 0 (aheL t 0 L) + (rateF s 0 (behL t 0 L) + 0) = rateF s 0 L
  by_cases c : s < t
  · rw [a2 s c, b3 s c]
    omega
  · rw [rate_end a1 fun p hp => by
      have := a3 p hp
      omega, b2 s (by omega)]
    omega
/-- through a map of rates, equal ones left out -/
def dedF (f : Int → Int) : Int → List (Int × Int) → List (Int × Int)
  | _, [] => []
  | b, p :: r => if f p.2 ≠ b then (p.1, f p.2) :: dedF f (f p.2) r else dedF f b r
theorem ded_ok {f : Int → Int} (f0 : f 0 = 0) (fn : ∀ x, 0 ≤ x → 0 ≤ f x) : ∀ {L : List (Int × Int)} {l b : Int}, okL l b L → okL l (f b) (dedF f (f b) L) ∧ ∀ s, rateF s (f b) (dedF f (f b) L) = f (rateF s b L)
  | [], l, b, h => by
    have h : b = 0 := h
    subst h
    exact ⟨f0, fun _ => rfl⟩
  | p :: r, l, b, h => by
    obtain ⟨h1, h2, h3, h4, h5⟩ := h
    obtain ⟨i1, i2⟩ := ded_ok f0 fn h5
    show okL l (f b) (if f p.2 ≠ f b then (p.1, f p.2) :: dedF f (f p.2) r else dedF f (f b) r) ∧ ∀ s, rateF s (f b) (if f p.2 ≠ f b then (p.1, f p.2) :: dedF f (f p.2) r else dedF f (f b) r) = f (rateF s (if p.1 ≤ s then p.2 else b) r)
    have nx : ∀ s, rateF s (if p.1 ≤ s then f p.2 else f b) (dedF f (f p.2) r) = f (rateF s (if p.1 ≤ s then p.2 else b) r) := fun s => by
      by_cases c : p.1 ≤ s
      · rw [if_pos c, if_pos c]
        exact i2 s
      · rw [if_neg c, if_neg c, far i1 (by omega), far h5 (by omega)]
    by_cases d : f p.2 ≠ f b
    · rw [if_pos d]
      exact ⟨⟨h1, fn _ h2, h3, d, i1⟩, nx⟩
    · rw [if_neg d]
      have e : f p.2 = f b := Classical.byContradiction d
      rw [← e]
      refine ⟨ok_less5 i1 (by omega), fun s => ?_⟩
      have z := nx s
      rw [← e, ite_self] at z
      exact z
def lowF (h x : Int) : Int := min x h
def ovrF (h x : Int) : Int := max (x - h) 0
theorem by_high {h : Int} (hh : 0 ≤ h) {L : List (Int × Int)} (k : okL (-1) 0 L) : okL (-1) 0 (dedF (lowF h) 0 L) ∧ okL (-1) 0 (dedF (ovrF h) 0 L) ∧ ∀ s, sumR [dedF (lowF h) 0 L, dedF (ovrF h) 0 L] s = rateF s 0 L := by
  have l0 : lowF h 0 = 0 := by
    unfold lowF
    omega
  have o0 : ovrF h 0 = 0 := by
    unfold ovrF
    omega
  obtain ⟨a1, a2⟩ := ded_ok (f := lowF h) l0 (fun x hx => by unfold lowF; omega) k
  obtain ⟨b1, b2⟩ := ded_ok (f := ovrF h) o0 (fun x hx => by unfold ovrF; omega) k
  rw [l0] at a1 a2
  rw [o0] at b1 b2
  refine ⟨a1, b1, fun s => ?_⟩
  show rateF s 0 (dedF (lowF h) 0 L) + (rateF s 0 (dedF (ovrF h) 0 L) + 0) = rateF s 0 L
  rw [a2, b2]
  unfold lowF ovrF
  omega
theorem ded_mem {f : Int → Int} : ∀ {L : List (Int × Int)} {b : Int}, ∀ p ∈ dedF f b L, ∃ q ∈ L, p = (q.1, f q.2)
  | [], b, p, hp => by cases hp
  | q :: r, b, p, hp => by
    have hp : p ∈ (if f q.2 ≠ b then (q.1, f q.2) :: dedF f (f q.2) r else dedF f b r) := hp
    by_cases c : f q.2 ≠ b
    · rw [if_pos c] at hp
      rcases List.mem_cons.mp hp with rfl | hp
      · exact ⟨q, List.mem_cons_self, rfl⟩
      · obtain ⟨u, hu, e⟩ := ded_mem p hp
        exact ⟨u, List.mem_cons_of_mem _ hu, e⟩
    · rw [if_neg c] at hp
      obtain ⟨u, hu, e⟩ := ded_mem p hp
      exact ⟨u, List.mem_cons_of_mem _ hu, e⟩
theorem ded_len {f : Int → Int} : ∀ {L : List (Int × Int)} {b : Int}, (dedF f b L).length ≤ L.length
  | [], _ => Nat.le_refl _
  | q :: r, b => by
    show (if f q.2 ≠ b then (q.1, f q.2) :: dedF f (f q.2) r else dedF f b r).length ≤ r.length + 1
    by_cases c : f q.2 ≠ b
    · rw [if_pos c]
      have := ded_len (f := f) (L := r) (b := f q.2)
      show (dedF f (f q.2) r).length + 1 ≤ _
      omega
    · rw [if_neg c]
      have := ded_len (f := f) (L := r) (b := b)
      omega
end K05

set_option Elab.async false
set_option linter.all false
/-! a word behind an expression, a test: what follows is shown once, from Mid -/
namespace Own
open PySem PySem.Spec PyProof.Rows L2
def tCutE (t : TE) : TE := fun σ H Q => ∃ Mid : V → Hp → Prop, t σ H Mid ∧ ∀ v H', Mid v H' → Q v H'
theorem pe_cut {X : Cx} {e : Expr} {t : TE} (h : PE X e t) : PE X e (tCutE t) := by
  refine ⟨fun pins s σ H Q I q => ?_⟩
  obtain ⟨Mid, hm, hu⟩ := q
  exact wpAny_mono (h.run pins s σ H Mid I hm) (fun u s' ⟨v, H', I', r, m⟩ => ⟨v, H', I', r, hu v H' m⟩) fun _ _ x => x
end Own

set_option Elab.async false
set_option linter.all false
set_option maxRecDepth 100000
set_option maxHeartbeats 4000000
namespace K05
open PySem PySem.Spec PyProof.Rows L2 Own
/-! _law_p_parts -/
def BdT (d : Int × Int) (T R : Int) : Prop := 0 ≤ d.1 ∧ d.1 ≤ T ∧ 0 ≤ d.2 ∧ d.2 ≤ R
structure PartOf (L : List (Int × Int)) (Ms : List (List (Int × Int))) : Prop where
  len : Ms.length ≤ 2
  ok : ∀ M ∈ Ms, okL (-1) 0 M
  sum : ∀ s, sumR Ms s = rateF s 0 L
  ln : ∀ M ∈ Ms, M.length ≤ L.length + 1
  bd : ∀ T R, (∀ d ∈ L, BdT d T R) → ∀ M ∈ Ms, ∀ d ∈ M, BdT d (T + 1) R
theorem BdT.up {d : Int × Int} {T R : Int} (h : BdT d T R) : BdT d (T + 1) R := ⟨h.1, by have := h.2.1; omega, h.2.2⟩
theorem part_self {L : List (Int × Int)} (h : okL (-1) 0 L) : PartOf L [L] where
  len := by show 1 ≤ 2; decide
  ok := fun M hM => by
    cases List.mem_singleton.mp hM
    exact h
  sum := fun s => Int.add_zero _
  ln := fun M hM => by
    cases List.mem_singleton.mp hM
    exact Nat.le_succ _
  bd := fun T R k M hM d hd => by
    cases List.mem_singleton.mp hM
    exact (k d hd).up
theorem rate_le {t R : Int} : ∀ {L : List (Int × Int)}, (∀ d ∈ L, d.2 ≤ R) → ∀ {c}, c ≤ R → rateF t c L ≤ R
  | [], _, c, hc => hc
  | p :: r, h, c, hc => by
    show rateF t (if p.1 ≤ t then p.2 else c) r ≤ R
    refine rate_le (fun d hd => h d (List.mem_cons_of_mem _ hd)) ?_
    split
    · exact h p List.mem_cons_self
    · exact hc
theorem two_of {α : Type} {a b c : α} (h : c ∈ [a, b]) : c = a ∨ c = b := by
  rcases List.mem_cons.mp h with h | h
  · exact .inl h
  · exact .inr (List.mem_singleton.mp h)
theorem part_turn {L : List (Int × Int)} {t : Int} (h : okL (-1) 0 L) (ht : 0 ≤ t) (hq : ∃ q ∈ L, t ≤ q.1 + 1) : PartOf L [aheL t 0 L, behL t 0 L] := by
  obtain ⟨a, b, s⟩ := by_turn ht h
  have lb : (befL t L).length ≤ L.length := List.length_filter_le _ _
  have la : (aftL t L).length ≤ L.length := List.length_filter_le _ _
  refine ⟨by show 2 ≤ 2; decide, fun M hM => ?_, s, fun M hM => ?_, fun T R k M hM d hd => ?_⟩
  · rcases two_of hM with rfl | rfl
    · exact a
    · exact b
  · rcases two_of hM with rfl | rfl
    · unfold aheL
      rw [List.length_append]
      split <;> simp only [List.length_cons, List.length_nil] <;> omega
    · unfold behL
      rw [List.length_append]
      split <;> simp only [List.length_cons, List.length_nil] <;> omega
  · obtain ⟨q, hq1, hq2⟩ := hq
    obtain ⟨k1, k2, k3, k4⟩ := k q hq1
    rcases two_of hM with rfl | rfl
    · unfold aheL befL at hd
      rcases List.mem_append.mp hd with hd | hd
      · exact (k d (List.mem_filter.mp hd).1).up
      · split at hd
        · cases List.mem_singleton.mp hd
          exact ⟨ht, by show t ≤ T + 1; omega, Int.le_refl _, by show (0 : Int) ≤ R; omega⟩
        · cases hd
    · unfold behL aftL at hd
      rcases List.mem_append.mp hd with hd | hd
      · split at hd
        · cases List.mem_singleton.mp hd
          exact ⟨ht, by show t ≤ T + 1; omega, rate_nn h _ (Int.le_refl _), rate_le (fun d hd => (k d hd).2.2.2) (by omega)⟩
        · cases hd
      · exact (k d (List.mem_filter.mp hd).1).up
theorem part_high {L : List (Int × Int)} {h : Int} (ok : okL (-1) 0 L) (hh : 0 ≤ h) : PartOf L [dedF (lowF h) 0 L, dedF (ovrF h) 0 L] := by
  obtain ⟨a, b, s⟩ := by_high hh ok
  refine ⟨by show 2 ≤ 2; decide, fun M hM => ?_, s, fun M hM => ?_, fun T R k M hM d hd => ?_⟩
  · rcases two_of hM with rfl | rfl
    · exact a
    · exact b
  · rcases two_of hM with rfl | rfl
    · exact Nat.le_succ_of_le ded_len
    · exact Nat.le_succ_of_le ded_len
  · rcases two_of hM with rfl | rfl
    · obtain ⟨q, hq, rfl⟩ := ded_mem d hd
      obtain ⟨k1, k2, k3, k4⟩ := k q hq
      unfold lowF
      refine ⟨k1, ?_, ?_, ?_⟩ <;> dsimp only <;> omega
    · obtain ⟨q, hq, rfl⟩ := ded_mem d hd
      obtain ⟨k1, k2, k3, k4⟩ := k q hq
      unfold ovrF
      refine ⟨k1, ?_, ?_, ?_⟩ <;> dsimp only <;> omega
/-- while the parts by height are gathered -/
def LowM (f : Int → Int) (L : List (Int × Int)) (j : Nat) (M : List (Int × Int)) : Prop := (j = 0 ∧ M = []) ∨ ∃ M' u e p0, L.head? = some p0 ∧ M = M' ++ [(u, e)] ∧ M ++ dedF f e (L.drop j) = (p0.1, f p0.2) :: dedF f (f p0.2) (L.drop 1)
theorem drop_at {L : List (Int × Int)} {j : Nat} {p : Int × Int} (h : L[j]? = some p) : L.drop j = p :: L.drop (j + 1) := by
  obtain ⟨hl, hg⟩ := List.getElem?_eq_some_iff.mp h
  rw [← hg, List.drop_eq_getElem_cons hl]
theorem LowM.first {f : Int → Int} {L : List (Int × Int)} {j : Nat} {p : Int × Int} (h : LowM f L j []) (e : L[j]? = some p) : LowM f L (j + 1) [(p.1, f p.2)] := by
  rcases h with ⟨rfl, _⟩ | ⟨M', u, x, p0, _, z, _⟩
  · refine .inr ⟨[], _, _, p, by rw [List.head?_eq_getElem?]; exact e, rfl, rfl⟩
  · cases M' <;> cases z
theorem LowM.put {f : Int → Int} {L M : List (Int × Int)} {j : Nat} {p d : Int × Int} (h : LowM f L j (M ++ [d])) (e : L[j]? = some p) (n : d.2 ≠ f p.2) : LowM f L (j + 1) (M ++ [d] ++ [(p.1, f p.2)]) := by
  rcases h with ⟨_, z⟩ | ⟨M', u, x, p0, h0, z, q⟩
  · cases M <;> cases z
  · obtain ⟨rfl, z2⟩ := List.append_inj' z rfl
    cases z2
    rw [drop_at e] at q
    refine .inr ⟨_, _, _, p0, h0, rfl, ?_⟩
    have q2 : M ++ [(u, x)] ++ (if f p.2 ≠ x then (p.1, f p.2) :: dedF f (f p.2) (L.drop (j + 1)) else dedF f x (L.drop (j + 1))) = (p0.1, f p0.2) :: dedF f (f p0.2) (L.drop 1) := q
    rw [if_pos (fun z => n z.symm)] at q2
    rw [← q2, List.append_assoc]
    rfl
theorem LowM.skip {f : Int → Int} {L M : List (Int × Int)} {j : Nat} {p d : Int × Int} (h : LowM f L j (M ++ [d])) (e : L[j]? = some p) (n : d.2 = f p.2) : LowM f L (j + 1) (M ++ [d]) := by
  rcases h with ⟨_, z⟩ | ⟨M', u, x, p0, h0, z, q⟩
  · cases M <;> cases z
  · obtain ⟨rfl, z2⟩ := List.append_inj' z rfl
    cases z2
    rw [drop_at e] at q
    refine .inr ⟨_, _, _, p0, h0, rfl, ?_⟩
    have q2 : M ++ [(u, x)] ++ (if f p.2 ≠ x then (p.1, f p.2) :: dedF f (f p.2) (L.drop (j + 1)) else dedF f x (L.drop (j + 1))) = (p0.1, f p0.2) :: dedF f (f p0.2) (L.drop 1) := q
    rw [if_neg (fun z => z n.symm)] at q2
    exact q2
theorem LowM.fin {f : Int → Int} {L M : List (Int × Int)} (fn : ∀ x, 0 ≤ x → 0 ≤ f x) (nn : ∀ d ∈ L, 0 ≤ d.2) (h : LowM f L L.length M) (ne : L ≠ []) : ∃ d0 M', M = d0 :: M' ∧ 0 ≤ d0.2 ∧ dedF f 0 L = if d0.2 > 0 then M else M' := by
  rcases h with ⟨z, _⟩ | ⟨M', u, x, p0, h0, z, q⟩
  · exact absurd (List.eq_nil_of_length_eq_zero z) ne
  · rw [List.drop_length] at q
    have q : M ++ [] = (p0.1, f p0.2) :: dedF f (f p0.2) (L.drop 1) := q
    rw [List.append_nil] at q
    cases L with
    | nil => exact absurd rfl ne
    | cons p r =>
      cases h0
      have n0 : 0 ≤ f p0.2 := fn _ (nn p0 List.mem_cons_self)
      refine ⟨_, _, q, n0, ?_⟩
      show (if f p0.2 ≠ 0 then (p0.1, f p0.2) :: dedF f (f p0.2) r else dedF f 0 r) = if f p0.2 > 0 then M else dedF f (f p0.2) r
      by_cases c : f p0.2 > 0
      · rw [if_pos (by omega), if_pos c, q]
        rfl
      · rw [if_neg (by omega), if_neg c, show f p0.2 = 0 by omega]
/-- steps in lists of their own -/
theorem Paired.app5 {α β : Type} {F : α → β → Prop} {xs xs' : List α} {ys ys' : List β} (h : Paired F xs ys) (g : Paired F xs' ys') : Paired F (xs ++ xs') (ys ++ ys') := by
  induction h with
  | nil => exact g
  | cons hx _ ih => exact .cons hx ih
def LsA (G H : Hp) (ys : List V) (Ms : List (List (Int × Int))) : Prop := Paired (fun y (M : List (Int × Int)) => ∃ q zs, y = V.ref q ∧ G q = none ∧ H q = some (.lst zs) ∧ Rows G H zs M) ys Ms
def rowT (d : Int × Int) : PyData := .tuple [.int d.1, .int d.2]
theorem dp_rowsT {K : PySem.W.Frag} {H0 H : Hp} : ∀ {xs : List V} {L : List (Int × Int)}, Rows H0 H xs L → DpAll K H xs (L.map rowT)
  | _, _, .nil => .nil
  | _, _, .cons h t => by
    obtain ⟨q, rfl, _, e⟩ := h
    exact .cons (.tup (SqT.of e) (.cons (.int _) (.cons (.int _) .nil))) (dp_rowsT t)
theorem lay_rowsT : ∀ L : List (Int × Int), PyData.canLayAll0 (L.map rowT) = true ∧ PyData.depthAll (L.map rowT) ≤ 1
  | [] => ⟨rfl, Nat.zero_le _⟩
  | d :: r => by
    obtain ⟨h1, h2⟩ := lay_rowsT r
    constructor
    · show (PyData.canLay0 (rowT d) && PyData.canLayAll0 (r.map rowT)) = true
      rw [h1]
      rfl
    · show max (PyData.depth (rowT d)) (PyData.depthAll (r.map rowT)) ≤ 1
      have e : PyData.depth (rowT d) = 1 := rfl
      omega
theorem sh_rowsT (L : List (Int × Int)) : SeqAt.shaped (.list (L.map rowT)) = true := by
  obtain ⟨h1, h2⟩ := lay_rowsT L
  show (PyData.canLayAll0 (L.map rowT) && decide (PyData.depthAll (L.map rowT) + 1 ≤ 64)) = true
  rw [h1, decide_eq_true (show PyData.depthAll (L.map rowT) + 1 ≤ 64 by omega)]
  rfl
theorem Rows.split {H0 H : Hp} {xs : List V} {M : List (Int × Int)} {d : Int × Int} (r : Rows H0 H xs (M ++ [d])) : ∃ x0 q, xs = x0 ++ [V.ref q] ∧ H q = some (.tup [.int d.1, .int d.2]) := by
  have go : ∀ {M : List (Int × Int)} {xs : List V}, Rows H0 H xs (M ++ [d]) → ∃ x0 q, xs = x0 ++ [V.ref q] ∧ H q = some (.tup [.int d.1, .int d.2]) := by
    intro M
    induction M with
    | nil =>
      intro xs r
      cases r with
      | cons h t =>
        cases t
        obtain ⟨q, e1, _, e2⟩ := h
        exact ⟨[], q, by rw [e1]; rfl, e2⟩
    | cons x M ih =>
      intro xs r
      cases r with
      | cons h t =>
        obtain ⟨x0, q, rfl, z⟩ := ih t
        exact ⟨_ :: x0, q, rfl, z⟩
  exact go r
theorem Rows.filt {H0 H : Hp} {x : V} {xs : List V} {L : List (Int × Int)} {d : Int × Int} (r : Rows H0 H xs L) (h : ∃ q, x = V.ref q ∧ H0 q = none ∧ H q = some (.tup [.int d.1, .int d.2])) : Rows H0 H (xs ++ [x]) (L ++ [d]) := paired_snoc h r
theorem ix_tupK {X : Cx} {K : PySem.W.Frag} (h : X.K = K) : IxR X (rIxT K) := by
  subst h
  exact ix_tup
theorem at_last5 {xs : List V} {y : V} : atI (xs ++ [y]) (-1) = some y := by
  unfold atI ixN
  rw [if_neg (by decide), if_pos (by rw [List.length_append]; show -((xs.length + 1 : Nat) : Int) ≤ -1; omega)]
  have e : (-1 + ((xs ++ [y]).length : Int)).toNat = xs.length := by
    rw [List.length_append]
    show (-1 + ((xs.length + 1 : Nat) : Int)).toNat = xs.length
    omega
  rw [e]
  show (xs ++ [y])[xs.length]? = some y
  rw [List.getElem?_append_right (Nat.le_refl _), Nat.sub_self]
  rfl
theorem at_zero5 {x : V} {ys : List V} : atI (x :: ys) 0 = some x := by
  unfold atI ixN
  rw [if_pos (by decide), if_pos (by rw [List.length_cons]; omega)]
  rfl
theorem endR_snoc : ∀ {M : List (Int × Int)} {b : Int} {d : Int × Int}, endR b (M ++ [d]) = d.2
  | [], _, _ => rfl
  | _ :: M, _, _ => endR_snoc (M := M)
def spPts (K : PySem.W.Frag) (C : Addr) : Sp := fun vs H Q _ => ∃ (a l p : Addr) (N : Int) (G : Hp) (xs : List V) (L : List (Int × Int)), vs = [.ref a, .ref p] ∧ Strm N H a l ∧ 0 ≤ N ∧ N + 10 ≤ 1000000000 ∧ G a ≠ none ∧ G l ≠ none ∧ (∀ b, H b = none → G b = none) ∧ G p = none ∧ H p = some (.lst xs) ∧ Rows G H xs L ∧ okL (-1) 0 L ∧ L.length ≤ 900 ∧ (∀ d ∈ L, Sml d) ∧
  ∀ H' D ys Ms, But2 a l H H' → H D = none → H' D = some (.lst ys) → LsA G H' ys Ms → PartOf L Ms → Strm (N + 3) H' a l → Q (.ref D) H'
abbrev NPts : List Str := ["_law_stream_here", "_law_steps", "_law_way", "_law_turn", "_law_rate_here", "_law_ahead", "_law_high", "_law_low", "_law_over", "_law_pair"]
theorem scPts : FnScope NPts ["_law_stream_here", "_law_steps"] (defScope s_l_p_parts) := ⟨rfl, rfl, rfl, by decide +kernel, rfl, by decide +kernel, by decide +kernel⟩
section
variable {P : Program} {w : World} {K : PySem.W.Frag} {mg : Str → Option Value} {base : Heap} {C : Addr}
theorem ok_pts {f fD fP fR : Addr} {fd fdD fdP fdR : FuncData} (F : Fun K "_law_p_parts" "_law_p_parts" s_l_p_parts f fd) (T : Bt mg) (FD : Fun K "_law_draw" "_law_draw" sDraw fD fdD) (gD : mg "_law_draw" = some (.ref fD)) (bD : Binds K fdD ["_law_stream_here", "_law_many"] [])
    (FP : Fun K "_law_pick" "_law_pick" sPick fP fdP) (gP : mg "_law_pick" = some (.ref fP)) (bP : Binds K fdP ["_law_stream_here", "_law_things"] [])
    (FR : Fun K "_law_rate" "_law_rate" s_l_rate fR fdR) (gR : mg "_law_rate" = some (.ref fR)) (bR : Binds K fdR ["_law_steps", "_law_turn"] []) :
    FnOk P w K mg base CX0 3 f fd ["_law_stream_here", "_law_steps"] (spPts K C) := by
  have GP : FnOk P w K mg base CX0 2 fP fdP ["_law_stream_here", "_law_things"] spPick := ok_pick FP T FD gD bD
  have GD : FnOk P w K mg base CX0 1 fD fdD ["_law_stream_here", "_law_many"] spDraw := ok_draw FD T
  have GR : FnOk P w K mg base CX0 1 fR fdR ["_law_steps", "_law_turn"] (spRate K C) := ok_LRate FR
  refine F.ok scPts (fun vs H Q E h => ?_) (fun cdv A outer s H vs Q E hr h => ?_)
  · obtain ⟨a, l, p, N, G, xs, L, rfl, _⟩ := h
    rfl
  · obtain ⟨a, l, p, N, G, xs, L, rfl, S0, hN0, hN1, ga, gl, gb, gp, hp, hx, ok, hlen, sml, k⟩ := h
    refine ⟨_, (pss_cons (ps_set (i := 2) scPts.nd rfl (Or.inl rfl) (pe_call GD (hr.mono (by decide)) (by rfl) gD FD.kp bD .nil pass0 (pa_cons (pv 0) (pa_cons pe_int pa_nil))))
  (Evl.pss_cut (ps_if (PW.pt (pw_or (pt_cmpR op_eq (pv 2) pe_int (nomark _)) (pw_or1 (pt_cmpR (op_eqD hr.units) (pv 1) (pe_lst pa_nil) (nomark _))))) (pss_one (ps_ret (pe_lst (pa_cons (pv 1) pa_nil)))) pss_nil)
  (Evl.pss_cut (ps_if (pt_cmpR op_eq (pv 2) pe_int (nomark _)) (Evl.pss_cut (ps_set (i := 3) scPts.nd rfl (Or.inr rfl) (pe_op op_add (pe_ix ix_tup (pe_call GP (hr.mono (by decide)) (by rfl) gP FP.kp bP .nil pass0 (pa_cons (pv 0) (pa_cons (pv 1) pa_nil))) pe_int (fun _ _ => rfl)) (pe_call GD (hr.mono (by decide)) (by rfl) gD FD.kp bD .nil pass0 (pa_cons (pv 0) (pa_cons pe_int pa_nil)))))
  (pss_cons (ps_set (i := 4) scPts.nd rfl (Or.inl rfl) (pe_call GR (hr.mono (by decide)) (by rfl) gR FR.kp bR .nil pass0 (pa_cons (pv 1) (pa_cons (pv 3) pa_nil))))
  (Evl.pss_cut (ps_setLc (i := 5) (own := [("_law_pair", 9)]) (g := gName 9) (by rfl) scPts.nd rfl rfl (sw_true rfl rfl rfl (by decide +kernel)) (pi_list (pv 1)) (blkOk_by (N := ["_law_stream_here", "_law_steps", "_law_way", "_law_turn", "_law_rate_here", "_law_ahead", "_law_high", "_law_low", "_law_over", "_law_pair"]) (sc := defScope s_l_p_parts) (by decide +kernel)) (fun _ _ _ _ _ => (pg_name (i := 9) (x := "_law_pair") scPts.nd rfl (Or.inl rfl))) (fun _ _ _ _ _ => (pts_one (pt_cmpR op_lt (pe_ix (ix_tupK (K := K) rfl) (pv 9) pe_int (fun _ _ => rfl)) (pv 3) (nomark _)))) (fun _ _ _ _ _ => (pv 9)))
  (Evl.pss_cut (ps_set (i := 5) scPts.nd rfl (Or.inl rfl) (pe_op op_cat (pv 5) (pe_cut (pe_ifExp (PW.pt (pw_and (pt_cmpR (op_neD hr.units) (pv 5) (pe_lst pa_nil) (nomark _)) (pw_and1 (pt_cmpR op_gt (pe_ix ix_tup (pe_ix ix_list (pv 5) (pe_un un_neg pe_int) (fun _ _ => rfl)) pe_int (fun _ _ => rfl)) pe_int (nomark _))))) (pe_lst (pa_cons (pe_tup (pa_cons (pv 3) (pa_cons pe_int pa_nil))) pa_nil)) (pe_lst pa_nil)))))
  (pss_one (ps_ret (pe_lst (pa_cons (pv 5) (pa_cons (pe_op op_cat (pe_cut (pe_ifExp (pt_cmpR op_gt (pv 4) pe_int (nomark _)) (pe_lst (pa_cons (pe_tup (pa_cons (pv 3) (pa_cons (pv 4) pa_nil))) pa_nil)) (pe_lst pa_nil))) (pe_lc (own := [("_law_pair", 9)]) (g := gName 9) rfl scPts.nd (pi_list (pv 1)) (blkOk_by (N := ["_law_stream_here", "_law_steps", "_law_way", "_law_turn", "_law_rate_here", "_law_ahead", "_law_high", "_law_low", "_law_over", "_law_pair"]) (sc := defScope s_l_p_parts) (by decide +kernel)) (fun _ _ _ _ _ => (pg_name (i := 9) (x := "_law_pair") scPts.nd rfl (Or.inl rfl))) (fun _ _ _ _ _ => (pts_one (pt_cmpR op_gt (pe_ix (ix_tupK (K := K) rfl) (pv 9) pe_int (fun _ _ => rfl)) (pv 3) (nomark _)))) (fun _ _ _ _ _ => (pv 9)))) pa_nil))))))))) pss_nil)
  (Evl.pss_cut (ps_par3 (i := 6) (j := 7) (l := 8) (by rfl) scPts.nd rfl rfl rfl (by decide) (by decide) (by decide) rfl rfl rfl (pa_cons (pe_ix ix_tup (pe_call GP (hr.mono (by decide)) (by rfl) gP FP.kp bP .nil pass0 (pa_cons (pv 0) (pa_cons (pv 1) pa_nil))) pe_int (fun _ _ => rfl)) (pa_cons (pe_lst pa_nil) (pa_cons (pe_lst pa_nil) pa_nil))) (by rfl))
  (Evl.pss_cut (ps_for PassesOwn.never rfl (pi_list (pv 1)) (pg_or (pg_tup rfl (pgs_cons (pg_name (i := 3) (x := "_law_turn") scPts.nd rfl (Or.inr rfl)) (pgs_cons (pg_name (i := 4) (x := "_law_rate_here") scPts.nd rfl (Or.inl rfl)) pgs_nil))) (pg_unl rfl (pgs_cons (pg_name (i := 3) (x := "_law_turn") scPts.nd rfl (Or.inr rfl)) (pgs_cons (pg_name (i := 4) (x := "_law_rate_here") scPts.nd rfl (Or.inl rfl)) pgs_nil)))) (Evl.pss_cut (ps_expr (pe_bm PySem.F.plainAttrs_list PySem.F.slot_list_extend PySem.F.type_list_extend mt_extend (pv 7) (pa_cons (pe_cut (pe_ifExp (PW.pt (pw_or (pt_cmpR (op_eqD hr.units) (pv 7) (pe_lst pa_nil) (nomark _)) (pw_or1 (pt_cmpR op_ne (pe_ix ix_tup (pe_ix ix_list (pv 7) (pe_un un_neg pe_int) (fun _ _ => rfl)) pe_int (fun _ _ => rfl)) (pe_callB (call_min2 rfl) (by rfl) T.min (by decide +kernel) (pa_cons (pv 4) (pa_cons (pv 6) pa_nil))) (nomark _))))) (pe_lst (pa_cons (pe_tup (pa_cons (pv 3) (pa_cons (pe_callB (call_min2 rfl) (by rfl) T.min (by decide +kernel) (pa_cons (pv 4) (pa_cons (pv 6) pa_nil))) pa_nil))) pa_nil)) (pe_lst pa_nil))) pa_nil)))
  (pss_one (ps_expr (pe_bm PySem.F.plainAttrs_list PySem.F.slot_list_extend PySem.F.type_list_extend mt_extend (pv 8) (pa_cons (pe_cut (pe_ifExp (PW.pt (pw_or (pt_cmpR (op_eqD hr.units) (pv 8) (pe_lst pa_nil) (nomark _)) (pw_or1 (pt_cmpR op_ne (pe_ix ix_tup (pe_ix ix_list (pv 8) (pe_un un_neg pe_int) (fun _ _ => rfl)) pe_int (fun _ _ => rfl)) (pe_callB (call_max2 rfl) (by rfl) T.max (by decide +kernel) (pa_cons (pe_op op_sub (pv 4) (pv 6)) (pa_cons pe_int pa_nil))) (nomark _))))) (pe_lst (pa_cons (pe_tup (pa_cons (pv 3) (pa_cons (pe_callB (call_max2 rfl) (by rfl) T.max (by decide +kernel) (pa_cons (pe_op op_sub (pv 4) (pv 6)) (pa_cons pe_int pa_nil))) pa_nil))) pa_nil)) (pe_lst pa_nil))) pa_nil))))))
  (pss_one (ps_ret (pe_lst (pa_cons (pe_cut (pe_ifExp (pt_cmpR op_gt (pe_ix ix_tup (pe_ix ix_list (pv 7) pe_int (fun _ _ => rfl)) pe_int (fun _ _ => rfl)) pe_int (nomark _)) (pv 7) (pe_slice sl_list (pv 7) (po_some pe_int) po_none))) (pa_cons (pe_cut (pe_ifExp (pt_cmpR op_gt (pe_ix ix_tup (pe_ix ix_list (pv 8) pe_int (fun _ _ => rfl)) pe_int (fun _ _ => rfl)) pe_int (nomark _)) (pv 8) (pe_slice sl_list (pv 8) (po_some pe_int) po_none))) pa_nil)))))))))), ?_⟩
    have nG : ∀ {b}, G b = none → b ≠ a ∧ b ≠ l := fun {b} z => ⟨fun y => ga (by rw [← y]; exact z), fun y => gl (by rw [← y]; exact z)⟩
    have hpx : ∀ {H'}, But2 a l H H' → H' p = some (.lst xs) := fun b => b _ _ (nG gp).1 (nG gp).2 hp
    have rowk : ∀ {H1 H2 ys M}, But2 a l H1 H2 → Rows G H1 ys M → Rows G H2 ys M := fun b r => r.keep fun q t n e => b _ _ (nG n).1 (nG n).2 e
    have hxx : ∀ {H'}, But2 a l H H' → Rows G H' xs L := fun b => rowk b hx
    have hlx : xs.length = L.length := hx.len
    have stl : ∀ {H'}, But2 a l H H' → StL K C H' (.ref p) L := fun b => (Rows.str (K := K) (C := C) (S := fun b => b = a ∨ b = l) (fun b z => by
      rcases z with rfl | rfl
      · exact ga
      · exact gl) gp (hpx b) (hxx b) (by omega) ok sml).stl
    refine ⟨_, rfl, a, l, N, 3, rfl, S0, hN0, by omega, by decide, by decide, fun H1 way w0 w1 b1 S1 => ?_⟩
    refine ⟨fun σ' H' => σ' = [some (.ref a), some (.ref p), some (.int way), none, none, none, none, none, none, none] ∧ But2 a l H H' ∧ Strm (N + 1) H' a l ∧ L ≠ [], ?_, ?_⟩
    · have self : ∀ H2 D, But2 a l H H2 → Strm (N + 1) H2 a l → H2 D = none → Q (.ref D) (upd H2 D (.lst [.ref p])) := fun H2 D b2 S2 hD => by
        have sD := same_new (o := HO.lst [V.ref p]) hD
        have b3 : But2 a l H (upd H2 D (.lst [.ref p])) := fun b o x y z => sD _ _ (b2 _ _ x y z)
        exact k _ D [.ref p] [L] b3 (b2.fresh S2 hD) upd_same (.cons ⟨p, xs, rfl, gp, hpx b3, hxx b3⟩ .nil) (part_self ok) ((S2.but sD).mono (by omega))
      refine ⟨_, rfl, rfl, _, rfl, ite2 (fun hc => ?_) (fun hc => ?_)⟩
      · exact iteT ⟨_, rfl, by show 1 ≤ sizeLine; decide, fun D hD => self H1 D b1 S1 hD⟩
      · refine ⟨_, rfl, Nat.zero_le _, fun e he => ?_⟩
        have s2 := same_new (o := HO.lst ([] : List V)) he
        have b2 : But2 a l H (upd H1 e (.lst [])) := fun b o x y z => s2 _ _ (b1 _ _ x y z)
        refine ⟨.list (L.map rowT), .list [], .lst (SqL.of (hpx b2)) (dp_rowsT (hxx b2)), .lst (SqL.of upd_same) .nil, sh_rowsT L, rfl, _, rfl, ?_⟩
        cases L with
        | nil => exact iteT ⟨_, rfl, by show 1 ≤ sizeLine; decide, fun D hD => self _ D b2 (S1.but s2) hD⟩
        | cons d0 L0 => exact iteF ⟨rfl, b2, S1.but s2, fun z => by cases z⟩
    rintro σ' H2 ⟨rfl, b2, S2, ne⟩
    have pos : 0 < xs.length := by
      rw [hlx]
      exact List.length_pos_iff.mpr ne
    refine ⟨fun σ' H' => σ' = [some (.ref a), some (.ref p), some (.int way), none, none, none, none, none, none, none] ∧ But2 a l H H' ∧ Strm (N + 1) H' a l, ?_, ?_⟩
    · refine ⟨_, rfl, rfl, _, rfl, ite2 (fun hc => ?_) (fun hc => ⟨rfl, b2, S2⟩)⟩
      refine ⟨fun σ' H' => ∃ t, σ' = [some (.ref a), some (.ref p), some (.int way), some (.int t), none, none, none, none, none, none] ∧ 0 ≤ t ∧ (∃ q ∈ L, t ≤ q.1 + 1) ∧ But2 a l H H' ∧ Strm (N + 3) H' a l, ?_, ?_⟩
      · refine ⟨_, rfl, _, rfl, a, l, p, N + 1, xs, rfl, S2, by omega, by omega, (nG gp).1, (nG gp).2, hpx b2, pos, by omega, fun H3 v hv b3 S3 => ?_⟩
        have b3' := b2.trans b3
        obtain ⟨i, hi⟩ := List.getElem?_of_mem hv
        obtain ⟨d, hd, q, rfl, _, hq⟩ := prs_at (hxx b3') hi
        have dm := List.mem_of_getElem? hd
        have d0 := (sml d dm).1
        refine ⟨q, _, 0, .int d.1, rfl, rfl, SqT.of hq, rfl, _, rfl, a, l, _, 2, rfl, S3, by omega, by omega, by decide, by decide, fun H4 j j0 j1 b4 S4 => ⟨_, _, rfl, rfl, ?_⟩⟩
        exact ⟨d.1 + j, rfl, by omega, ⟨d, dm, by omega⟩, b3'.trans b4, S4.mono (by omega)⟩
      · rintro σ' H3 ⟨t, rfl, t0, tq, b3, S3⟩
        refine ⟨_, rfl, _, rfl, .ref p, t, L, rfl, stl b3, t0, fun H4 s4 => ?_⟩
        have b4 : But2 a l H H4 := fun b o x y z => s4 _ _ (b3 _ _ x y z)
        have S4 := S3.but s4
        refine ⟨fun σ' H' => ∃ D ys, σ' = [some (.ref a), some (.ref p), some (.int way), some (.int t), some (.int (rateF t 0 L)), some (.ref D), none, none, none, none] ∧ But2 a l H H' ∧ Strm (N + 3) H' a l ∧ H D = none ∧ H' D = some (.lst ys) ∧ Rows G H' ys (befL t L), ?_, ?_⟩
        · refine ⟨_, rfl, p, rfl, ⟨_, SqL.of (hpx b4)⟩, fun D hD => ?_⟩
          refine lc_it (walk_list (xs := xs)) (fun i H' => Same H4 H' ∧ ∃ acc, H' D = some (.lst acc) ∧ Rows G H' acc (befL t (L.take i)) ∧ acc.length ≤ i) ⟨same_new hD, [], upd_same, by rw [List.take_zero]; exact .nil, Nat.le_refl _⟩ (fun i H' _ q => SqL.of (q.1 _ _ (hpx b4))) ?_ ?_
          · rintro i x H5 H6 hi ⟨q1, acc, a3, r3, l3⟩ ⟨rfl, hxi⟩
            obtain ⟨d, hd, q, rfl, hG, hq⟩ := prs_at (hxx b4) hxi
            have e5 : befL t (L.take (i + 1)) = befL t (L.take i) ++ (if d.1 < t then [d] else []) := by
              rw [List.take_add_one, hd]
              unfold befL
              rw [List.filter_append]
              congr 1
              by_cases z : d.1 < t
              · rw [if_pos z]
                show [d].filter _ = _
                rw [List.filter_cons_of_pos (by simpa using z)]
                rfl
              · rw [if_neg z]
                show [d].filter _ = _
                rw [List.filter_cons_of_neg (by simpa using z)]
                rfl
            refine ⟨rfl, _, rfl, q, _, 0, .int d.1, rfl, rfl, SqT.of (q1 _ _ hq), rfl, _, rfl, _, _, rfl, rfl, _, rfl, ?_⟩
            have hi2 : i < L.length := (List.getElem?_eq_some_iff.mp hd).1
            refine ite2 (fun hc => ?_) (fun hc => ?_)
            · have z : d.1 < t := of_decide_eq_true hc
              refine ⟨_, rfl, acc, a3, small1000 (by omega), fun b o z => ?_, acc ++ [.ref q], upd_same, ?_, by rw [List.length_append]; show acc.length + 1 ≤ i + 1; omega⟩
              · rw [upd_ne (ne_of_none z hD)]
                exact q1 _ _ z
              · rw [e5, if_pos z]
                have r5 : Rows G (upd H6 D (HO.lst (acc ++ [V.ref q]))) acc (befL t (L.take i)) := r3.keep fun c u n e => by
                  rw [upd_ne (fun z => by rw [z, a3] at e; cases e)]
                  exact e
                refine r5.filt ⟨q, rfl, hG, ?_⟩
                rw [upd_ne (fun z => by rw [z, (show H4 D = none from hD)] at hq; cases hq)]
                exact q1 _ _ hq
            · have z : ¬ d.1 < t := fun z => hc (decide_eq_true z)
              refine ⟨q1, acc, a3, ?_, by omega⟩
              rw [e5, if_neg z, List.append_nil]
              exact r3
          · rintro H5 ⟨q1, acc, a3, r3, l3⟩
            rw [hlx, List.take_length] at r3
            exact ⟨D, acc, rfl, fun b o x y z => q1 _ _ (b4 _ _ x y z), S4.but q1, b4.fresh S4 hD, a3, r3⟩
        rintro σ' H5 ⟨D, ys, rfl, b5, S5, hD, hD5, r5⟩
        have lys : ys.length = (befL t L).length := r5.len
        have lb : (befL t L).length ≤ L.length := List.length_filter_le _ _
        have la : (aftL t L).length ≤ L.length := List.length_filter_le _ _
        refine ⟨fun σ' H' => ∃ D ys, σ' = [some (.ref a), some (.ref p), some (.int way), some (.int t), some (.int (rateF t 0 L)), some (.ref D), none, none, none, none] ∧ But2 a l H H' ∧ Strm (N + 3) H' a l ∧ H D = none ∧ H' D = some (.lst ys) ∧ Rows G H' ys (aheL t 0 L), ?_, ?_⟩
        · refine ⟨_, rfl, fun v H' => ∃ u zs M0, v = .ref u ∧ Same H5 H' ∧ H' u = some (.lst zs) ∧ Rows G H' zs M0 ∧ M0.length ≤ 1 ∧ M0 = (if endR 0 (befL t L) > 0 then [(t, 0)] else []), ?_, ?_⟩
          · refine ⟨_, rfl, Nat.zero_le _, fun e he => ?_⟩
            have s6 := same_new (o := HO.lst ([] : List V)) he
            have b6 : But2 a l H (upd H5 e (.lst [])) := fun b o x y z => s6 _ _ (b5 _ _ x y z)
            have r6 : Rows G (upd H5 e (.lst [])) ys (befL t L) := r5.keep fun q t n e => s6 _ _ e
            refine ⟨.list ((befL t L).map rowT), .list [], .lst (SqL.of (s6 _ _ hD5)) (dp_rowsT r6), .lst (SqL.of upd_same) .nil, sh_rowsT _, rfl, _, rfl, ?_⟩
            have none_ : ∀ {H7}, Same H5 H7 → ¬ endR 0 (befL t L) > 0 → ∀ u, H7 u = none → ∃ u' zs M0, V.ref u = .ref u' ∧ Same H5 (upd H7 u (.lst [])) ∧ (upd H7 u (.lst [])) u' = some (.lst zs) ∧ Rows G (upd H7 u (.lst [])) zs M0 ∧ M0.length ≤ 1 ∧ M0 = (if endR 0 (befL t L) > 0 then [(t, 0)] else []) := fun s7 n u hu =>
              ⟨u, [], [], rfl, s7.trans (same_new hu), upd_same, .nil, Nat.zero_le _, by rw [if_neg n]⟩
            rcases List.eq_nil_or_concat (befL t L) with z | ⟨M', d, z⟩
            · rw [z] at none_ ⊢
              exact iteF (iteF ⟨Nat.zero_le _, fun u hu => none_ s6 (by show ¬ (0 : Int) > 0; omega) u hu⟩)
            · rw [List.concat_eq_append] at z
              have er : endR 0 (befL t L) = d.2 := by rw [z, endR_snoc]
              rw [z] at r6
              obtain ⟨y0, q, rfl, hq⟩ := r6.split
              rw [z]
              have tr : PyData.eqv (.list ((M' ++ [d]).map rowT)) (.list []) = false := by
                cases M' <;> rfl
              rw [tr]
              rw [z] at none_
              refine iteT ⟨_, rfl, 1, rfl, D, _, -1, .ref q, rfl, rfl, SqL.of (s6 _ _ hD5), at_last5, q, _, 1, .int d.2, rfl, rfl, SqT.of hq, rfl, _, _, rfl, rfl, _, rfl, ite2 (fun hc => ?_) (fun hc => ?_)⟩
              · have gt : d.2 > 0 := of_decide_eq_true hc
                refine ⟨_, rfl, two_fit, fun q2 hq2 => ⟨by show 1 ≤ sizeLine; decide, fun u hu => ?_⟩⟩
                have s7 := same_new (o := HO.tup [V.int t, V.int 0]) hq2
                have s8 := same_new (o := HO.lst [V.ref q2]) hu
                have nq2 : q2 ≠ u := fun z => by
                  rw [← z, upd_same] at hu
                  cases hu
                refine ⟨u, [.ref q2], [(t, 0)], rfl, (s6.trans s7).trans s8, upd_same, .cons ⟨q2, rfl, ?_, ?_⟩ .nil, Nat.le_refl _, ?_⟩
                · exact gb _ (b5.fresh S5 (none_back s6 hq2))
                · rw [upd_ne nq2]
                  exact upd_same
                · rw [endR_snoc, if_pos gt]
              · have gt : ¬ d.2 > 0 := fun z => hc (decide_eq_true z)
                refine ⟨Nat.zero_le _, fun u hu => none_ s6 (by rw [endR_snoc]; exact gt) u hu⟩
          · rintro v H6 ⟨u, zs, M0, rfl, s6, hu, r0, l0, e0⟩
            have lz : zs.length = M0.length := r0.len
            refine ⟨D, u, ys, zs, rfl, rfl, s6 _ _ hD5, hu, ?_, fun D2 hD2 => ?_⟩
            · exact Nat.le_trans (show ys.length + zs.length ≤ 1000 by omega) (by decide)
            have s7 := same_new (o := HO.lst (ys ++ zs)) hD2
            have s67 := s6.trans s7
            refine ⟨D2, ys ++ zs, rfl, fun b o x y z => s67 _ _ (b5 _ _ x y z), S5.but s67, b5.fresh S5 (none_back s6 hD2), upd_same, ?_⟩
            unfold aheL
            rw [← e0]
            exact Paired.app5 (r5.keep fun q t n e => s67 _ _ e) (r0.keep fun q t n e => s7 _ _ e)
        · rintro σ' H6 ⟨D2, zs, rfl, b6, S6, hD2, h6, r6⟩
          refine ⟨_, rfl, fun v H' => ∃ u zs M0, v = .ref u ∧ Same H6 H' ∧ H' u = some (.lst zs) ∧ Rows G H' zs M0 ∧ M0.length ≤ 1 ∧ M0 = (if rateF t 0 L > 0 then [(t, rateF t 0 L)] else []), ?_, ?_⟩
          · refine ⟨_, rfl, _, _, rfl, rfl, _, rfl, ite2 (fun hc => ?_) (fun hc => ?_)⟩
            · have gt : rateF t 0 L > 0 := of_decide_eq_true hc
              refine ⟨_, rfl, _, rfl, two_fit, fun q2 hq2 => ⟨by show 1 ≤ sizeLine; decide, fun u hu => ?_⟩⟩
              have s7 := same_new (o := HO.tup [V.int t, V.int (rateF t 0 L)]) hq2
              have s8 := same_new (o := HO.lst [V.ref q2]) hu
              have nq2 : q2 ≠ u := fun z => by
                rw [← z, upd_same] at hu
                cases hu
              refine ⟨u, [.ref q2], [(t, rateF t 0 L)], rfl, s7.trans s8, upd_same, .cons ⟨q2, rfl, ?_, ?_⟩ .nil, Nat.le_refl _, by rw [if_pos gt]⟩
              · exact gb _ (b6.fresh S6 hq2)
              · rw [upd_ne nq2]
                exact upd_same
            · have gt : ¬ rateF t 0 L > 0 := fun z => hc (decide_eq_true z)
              exact ⟨Nat.zero_le _, fun u hu => ⟨u, [], [], rfl, same_new hu, upd_same, .nil, Nat.zero_le _, by rw [if_neg gt]⟩⟩
          · rintro v H7 ⟨u, us, M0, rfl, s7, hu, r0, l0, e0⟩
            have b7 : But2 a l H H7 := fun b o x y z => s7 _ _ (b6 _ _ x y z)
            refine ⟨_, rfl, p, rfl, ⟨_, SqL.of (hpx b7)⟩, fun X hX => ?_⟩
            refine lc_it (walk_list (xs := xs)) (fun i H' => Same H7 H' ∧ ∃ acc, H' X = some (.lst acc) ∧ Rows G H' acc (aftL t (L.take i)) ∧ acc.length ≤ i) ⟨same_new hX, [], upd_same, by rw [List.take_zero]; exact .nil, Nat.le_refl _⟩ (fun i H' _ q => SqL.of (q.1 _ _ (hpx b7))) ?_ ?_
            · rintro i x H8 H9 hi ⟨q1, acc, a3, r3, l3⟩ ⟨rfl, hxi⟩
              obtain ⟨d, hd, q, rfl, hG, hq⟩ := prs_at (hxx b7) hxi
              have e5 : aftL t (L.take (i + 1)) = aftL t (L.take i) ++ (if d.1 > t then [d] else []) := by
                rw [List.take_add_one, hd]
                unfold aftL
                rw [List.filter_append]
                congr 1
                by_cases z : d.1 > t
                · rw [if_pos z]
                  show [d].filter _ = _
                  rw [List.filter_cons_of_pos (by simpa using z)]
                  rfl
                · rw [if_neg z]
                  show [d].filter _ = _
                  rw [List.filter_cons_of_neg (by simpa using z)]
                  rfl
              have hi2 : i < L.length := (List.getElem?_eq_some_iff.mp hd).1
              refine ⟨rfl, _, rfl, q, _, 0, .int d.1, rfl, rfl, SqT.of (q1 _ _ hq), rfl, _, rfl, _, _, rfl, rfl, _, rfl, ?_⟩
              refine ite2 (fun hc => ?_) (fun hc => ?_)
              · have z : d.1 > t := of_decide_eq_true hc
                refine ⟨_, rfl, acc, a3, small1000 (by omega), fun b o z => ?_, acc ++ [.ref q], upd_same, ?_, by rw [List.length_append]; show acc.length + 1 ≤ i + 1; omega⟩
                · rw [upd_ne (ne_of_none z hX)]
                  exact q1 _ _ z
                · rw [e5, if_pos z]
                  have r5 : Rows G (upd H9 X (HO.lst (acc ++ [V.ref q]))) acc (aftL t (L.take i)) := r3.keep fun c u n e => by
                    rw [upd_ne (fun z => by rw [z, a3] at e; cases e)]
                    exact e
                  refine r5.filt ⟨q, rfl, hG, ?_⟩
                  rw [upd_ne (fun z => by rw [z, (show H7 X = none from hX)] at hq; cases hq)]
                  exact q1 _ _ hq
              · have z : ¬ d.1 > t := fun z => hc (decide_eq_true z)
                refine ⟨q1, acc, a3, ?_, by omega⟩
                rw [e5, if_neg z, List.append_nil]
                exact r3
            · rintro H8 ⟨q1, acc, a3, r3, l3⟩
              rw [hlx, List.take_length] at r3
              have lacc : acc.length = (aftL t L).length := r3.len
              have lus : us.length = M0.length := r0.len
              refine ⟨u, X, us, acc, rfl, rfl, q1 _ _ hu, a3, ?_, fun B hB => ?_⟩
              · exact Nat.le_trans (show us.length + acc.length ≤ 1000 by omega) (by decide)
              refine ⟨by show 2 ≤ sizeLine; decide, fun R hR => ?_⟩
              have s9 := same_new (o := HO.lst (us ++ acc)) hB
              have s10 := same_new (o := HO.lst [V.ref D2, V.ref B]) hR
              have nBR : B ≠ R := fun z => by
                rw [← z, upd_same] at hR
                cases hR
              have b10 : But2 a l H (upd (upd H8 B (.lst (us ++ acc))) R (.lst [.ref D2, .ref B])) := fun b o x y z => s10 _ _ (s9 _ _ (q1 _ _ (b7 _ _ x y z)))
              have s6x : Same H6 (upd (upd H8 B (.lst (us ++ acc))) R (.lst [.ref D2, .ref B])) := ((s7.trans q1).trans s9).trans s10
              have bk : ∀ {b}, H8 b = none → H b = none := fun z => b7.fresh (S6.but s7) (none_back q1 z)
              refine k _ R [.ref D2, .ref B] [aheL t 0 L, behL t 0 L] b10 (bk (none_back s9 hR)) upd_same (.cons ⟨D2, zs, rfl, gb _ hD2, s6x _ _ h6, r6.keep fun q t n e => s6x _ _ e⟩ (.cons ⟨B, us ++ acc, rfl, gb _ (bk hB), ?_, ?_⟩ .nil)) (part_turn ok t0 tq) (S6.but s6x)
              · rw [upd_ne nBR]
                exact upd_same
              · unfold behL
                rw [← e0]
                exact Paired.app5 (r0.keep fun q t n e => s10 _ _ (s9 _ _ (q1 _ _ e))) (r3.keep fun q t n e => s10 _ _ (s9 _ _ e))
    rintro σ' H3 ⟨rfl, b3, S3⟩
    refine ⟨fun σ' H' => ∃ h A B, σ' = [some (.ref a), some (.ref p), some (.int way), none, none, none, some (.int h), some (.ref A), some (.ref B), none] ∧ 0 ≤ h ∧ But2 a l H H' ∧ Strm (N + 2) H' a l ∧ H A = none ∧ H B = none ∧ A ≠ B ∧ H' A = some (.lst []) ∧ H' B = some (.lst []), ?_, ?_⟩
    · refine ⟨_, rfl, _, rfl, a, l, p, N + 1, xs, rfl, S3, by omega, by omega, (nG gp).1, (nG gp).2, hpx b3, pos, by omega, fun H4 v hv b4 S4 => ?_⟩
      have b4' := b3.trans b4
      obtain ⟨i, hi⟩ := List.getElem?_of_mem hv
      obtain ⟨d, hd, q, rfl, _, hq⟩ := prs_at (hxx b4') hi
      have d0 := (sml d (List.mem_of_getElem? hd)).2.2.1
      refine ⟨q, _, 1, .int d.2, rfl, rfl, SqT.of hq, rfl, Nat.zero_le _, fun A hA => ⟨Nat.zero_le _, fun B hB => ?_⟩⟩
      have nAB : A ≠ B := fun z => by
        rw [← z, upd_same] at hB
        cases hB
      have sA := same_new (o := HO.lst ([] : List V)) hA
      have sB := same_new (o := HO.lst ([] : List V)) hB
      refine ⟨_, _, _, rfl, d.2, A, B, rfl, d0, fun b o x y z => sB _ _ (sA _ _ (b4' _ _ x y z)), (S4.but (sA.trans sB)).mono (by omega), b4'.fresh S4 hA, b4'.fresh S4 (none_back sA hB), nAB, by rw [upd_ne nAB]; exact upd_same, upd_same⟩
    rintro σ' H4 ⟨h, A, B, rfl, h0, b4, S4, nA, nB, nAB, a4, c4⟩
    refine ⟨fun σ' H' => ∃ x3 x4, σ' = [some (.ref a), some (.ref p), some (.int way), x3, x4, none, some (.int h), some (.ref A), some (.ref B), none] ∧ But2 a l H H' ∧ Strm (N + 2) H' a l ∧ (∃ ys M, H' A = some (.lst ys) ∧ Rows G H' ys M ∧ M.length ≤ L.length ∧ LowM (lowF h) L L.length M) ∧ (∃ zs W, H' B = some (.lst zs) ∧ Rows G H' zs W ∧ W.length ≤ L.length ∧ LowM (ovrF h) L L.length W), ?_, ?_⟩
    · refine ⟨_, rfl, p, rfl, ⟨_, SqL.of (hpx b4)⟩, ?_⟩
      refine for_it (g := gEi K 3 4) (walk_list (xs := xs)) (fun j σ H' => ∃ x3 x4, σ = [some (.ref a), some (.ref p), some (.int way), x3, x4, none, some (.int h), some (.ref A), some (.ref B), none] ∧ But2 a l H H' ∧ Strm (N + 2) H' a l ∧ (∃ ys M, H' A = some (.lst ys) ∧ Rows G H' ys M ∧ M.length ≤ j ∧ LowM (lowF h) L j M) ∧ (∃ zs W, H' B = some (.lst zs) ∧ Rows G H' zs W ∧ W.length ≤ j ∧ LowM (ovrF h) L j W))
        ⟨none, none, rfl, b4, S4, ⟨[], [], a4, .nil, Nat.le_refl _, .inl ⟨rfl, rfl⟩⟩, ⟨[], [], c4, .nil, Nat.le_refl _, .inl ⟨rfl, rfl⟩⟩⟩ (fun i σ H' _ z => by
          obtain ⟨_, _, _, z, _⟩ := z
          exact SqL.of (hpx z)) ?_ ?_
      · rintro j x σ H5 H6 hj ⟨x3, x4, rfl, b5, S5, ⟨ys, M, hA, rA, lenA, lA⟩, ⟨zs, W, hB, rB, lenB, lB⟩⟩ ⟨rfl, hx5⟩
        obtain ⟨d, hd, q, rfl, _, hq⟩ := prs_at (hxx b5) hx5
        have hj2 : j < L.length := (List.getElem?_eq_some_iff.mp hd).1
        refine gEi_ok (.inr hq) ?_
        have lys : ys.length = M.length := rA.len
        have lzs : zs.length = W.length := rB.len
        refine ⟨fun σ' H' => σ' = [some (.ref a), some (.ref p), some (.int way), some (.int d.1), some (.int d.2), none, some (.int h), some (.ref A), some (.ref B), none] ∧ But2 a l H H' ∧ Strm (N + 2) H' a l ∧ (∃ ys M, H' A = some (.lst ys) ∧ Rows G H' ys M ∧ M.length ≤ j + 1 ∧ LowM (lowF h) L (j + 1) M) ∧ (∃ zs W, H' B = some (.lst zs) ∧ Rows G H' zs W ∧ W.length ≤ j ∧ LowM (ovrF h) L j W), ?_, ?_⟩
        · have bk : ∀ {b}, H6 b = none → G b = none := fun z => gb _ (b5.fresh S5 z)
          refine ⟨_, rfl, .inl ⟨rfl, _, SqL.of hA⟩, fun v H' => ∃ u us Mn, v = .ref u ∧ Same H6 H' ∧ H' u = some (.lst us) ∧ Rows G H' us Mn ∧ Mn.length ≤ 1 ∧ LowM (lowF h) L (j + 1) (M ++ Mn), ?_, ?_⟩
          · refine ⟨_, rfl, Nat.zero_le _, fun e he => ?_⟩
            have s6 := same_new (o := HO.lst ([] : List V)) he
            have r6 : Rows G (upd H6 e (.lst [])) ys M := rA.keep fun q t n e => s6 _ _ e
            have ev : (if h < d.2 then h else d.2) = lowF h d.2 := by
              unfold lowF
              split <;> omega
            refine ⟨.list (M.map rowT), .list [], .lst (SqL.of (s6 _ _ hA)) (dp_rowsT r6), .lst (SqL.of upd_same) .nil, sh_rowsT _, rfl, _, rfl, ?_⟩
            have one : ∀ {H7}, Same H6 H7 → ∀ t, H7 t = none → ∀ u, (upd H7 t (.tup [.int d.1, .int (lowF h d.2)])) u = none → LowM (lowF h) L (j + 1) (M ++ [(d.1, lowF h d.2)]) → ∃ u' us Mn, V.ref u = .ref u' ∧ Same H6 (upd (upd H7 t (.tup [.int d.1, .int (lowF h d.2)])) u (.lst [.ref t])) ∧ (upd (upd H7 t (.tup [.int d.1, .int (lowF h d.2)])) u (.lst [.ref t])) u' = some (.lst us) ∧ Rows G (upd (upd H7 t (.tup [.int d.1, .int (lowF h d.2)])) u (.lst [.ref t])) us Mn ∧ Mn.length ≤ 1 ∧ LowM (lowF h) L (j + 1) (M ++ Mn) := fun s7 t ht u hu lm =>
              ⟨u, [.ref t], [(d.1, lowF h d.2)], rfl, (s7.trans (same_new ht)).trans (same_new hu), upd_same, .cons ⟨t, rfl, bk (none_back s7 ht), by
                rw [upd_ne (fun z => by rw [← z, upd_same] at hu; cases hu)]
                exact upd_same⟩ .nil, Nat.le_refl _, lm⟩
            rcases List.eq_nil_or_concat M with z | ⟨M', d', z⟩
            · subst z
              refine iteT (iteT ⟨_, rfl, _, rfl, _, rfl, _, _, rfl, two_fit, fun t ht => ⟨by show 1 ≤ sizeLine; decide, fun u hu => ?_⟩⟩)
              first | rw [ev] at hu ⊢ | simp only [ev] at hu ⊢
              exact one s6 t ht u hu (LowM.first lA hd)
            · rw [List.concat_eq_append] at z
              subst z
              obtain ⟨y0, q', rfl, hq'⟩ := r6.split
              have tr : PyData.eqv (.list ((M' ++ [d']).map rowT)) (.list []) = false := by
                cases M' <;> rfl
              rw [tr]
              refine iteF ⟨_, rfl, 1, rfl, A, _, -1, .ref q', rfl, rfl, SqL.of (s6 _ _ hA), at_last5, q', _, 1, .int d'.2, rfl, rfl, SqT.of hq', rfl, _, rfl, _, rfl, _, _, rfl, rfl, _, rfl, ite2 (fun hc => ?_) (fun hc => ?_)⟩
              · have n : d'.2 ≠ lowF h d.2 := fun z => by
                  rw [ev, z, decide_eq_true rfl] at hc
                  cases hc
                refine ⟨_, rfl, _, rfl, _, rfl, _, _, rfl, two_fit, fun t ht => ⟨by show 1 ≤ sizeLine; decide, fun u hu => ?_⟩⟩
                first | rw [ev] at hu ⊢ | simp only [ev] at hu ⊢
                exact one s6 t ht u hu (lA.put hd n)
              · have n : d'.2 = lowF h d.2 := Classical.byContradiction fun z => hc (by
                  rw [ev, decide_eq_false (fun y => z (V.int.inj y))]
                  rfl)
                exact ⟨Nat.zero_le _, fun u hu => ⟨u, [], [], rfl, s6.trans (same_new hu), upd_same, .nil, Nat.zero_le _, by rw [List.append_nil]; exact lA.skip hd n⟩⟩
          · rintro v H7 ⟨u, us, Mn, rfl, s7, hu, ru, lu, lm⟩
            have lus : us.length = Mn.length := ru.len
            refine ⟨A, u, ys, us, rfl, rfl, s7 _ _ hA, hu, ?_, ?_⟩
            · exact Nat.le_trans (show ys.length + us.length ≤ 1000 by omega) (by decide)
            have kp : ∀ b o, b ≠ A → H6 b = some o → (upd H7 A (.lst (ys ++ us))) b = some o := fun b o n z => by
              rw [upd_ne n]
              exact s7 _ _ z
            have tk : ∀ {H8 : Hp}, H8 A = some (.lst ys) → ∀ q t, H8 q = some (.tup t) → (upd H8 A (.lst (ys ++ us))) q = some (.tup t) := fun hA q t z => by
              rw [upd_ne (fun y => by rw [y, hA] at z; cases z)]
              exact z
            refine ⟨rfl, fun b o x y z => ?_, ?_, ⟨_, _, upd_same, Paired.app5 (rA.keep fun q t n e => tk (s7 _ _ hA) _ _ (s7 _ _ e)) (ru.keep fun q t n e => tk (s7 _ _ hA) _ _ e), by rw [List.length_append]; omega, lm⟩, ⟨zs, W, kp _ _ nAB.symm hB, rB.keep fun q t n e => tk (s7 _ _ hA) _ _ (s7 _ _ e), lenB, lB⟩⟩
            · exact kp _ _ (fun y => by rw [y, nA] at z; cases z) (b5 _ _ x y z)
            · exact (S5.but s7).upd (nG (gb _ nA)).1 (nG (gb _ nA)).2
        · rintro σ' H6 ⟨rfl, b5, S5, ⟨ys, M, hA, rA, lenA, lA⟩, ⟨zs, W, hB, rB, lenB, lB⟩⟩
          have lys : ys.length = M.length := rA.len
          have lzs : zs.length = W.length := rB.len
          have bk : ∀ {b}, H6 b = none → G b = none := fun z => gb _ (b5.fresh S5 z)
          refine ⟨_, rfl, .inl ⟨rfl, _, SqL.of hB⟩, fun v H' => ∃ u us Mn, v = .ref u ∧ Same H6 H' ∧ H' u = some (.lst us) ∧ Rows G H' us Mn ∧ Mn.length ≤ 1 ∧ LowM (ovrF h) L (j + 1) (W ++ Mn), ?_, ?_⟩
          · refine ⟨_, rfl, Nat.zero_le _, fun e he => ?_⟩
            have s6 := same_new (o := HO.lst ([] : List V)) he
            have r6 : Rows G (upd H6 e (.lst [])) zs W := rB.keep fun q t n e => s6 _ _ e
            have ev : (if (0 : Int) > d.2 - h then 0 else d.2 - h) = ovrF h d.2 := by
              unfold ovrF
              split <;> omega
            refine ⟨.list (W.map rowT), .list [], .lst (SqL.of (s6 _ _ hB)) (dp_rowsT r6), .lst (SqL.of upd_same) .nil, sh_rowsT _, rfl, _, rfl, ?_⟩
            have one : ∀ {H7}, Same H6 H7 → ∀ t, H7 t = none → ∀ u, (upd H7 t (.tup [.int d.1, .int (ovrF h d.2)])) u = none → LowM (ovrF h) L (j + 1) (W ++ [(d.1, ovrF h d.2)]) → ∃ u' us Mn, V.ref u = .ref u' ∧ Same H6 (upd (upd H7 t (.tup [.int d.1, .int (ovrF h d.2)])) u (.lst [.ref t])) ∧ (upd (upd H7 t (.tup [.int d.1, .int (ovrF h d.2)])) u (.lst [.ref t])) u' = some (.lst us) ∧ Rows G (upd (upd H7 t (.tup [.int d.1, .int (ovrF h d.2)])) u (.lst [.ref t])) us Mn ∧ Mn.length ≤ 1 ∧ LowM (ovrF h) L (j + 1) (W ++ Mn) := fun s7 t ht u hu lm =>
              ⟨u, [.ref t], [(d.1, ovrF h d.2)], rfl, (s7.trans (same_new ht)).trans (same_new hu), upd_same, .cons ⟨t, rfl, bk (none_back s7 ht), by
                rw [upd_ne (fun z => by rw [← z, upd_same] at hu; cases hu)]
                exact upd_same⟩ .nil, Nat.le_refl _, lm⟩
            rcases List.eq_nil_or_concat W with z | ⟨M', d', z⟩
            · subst z
              refine iteT (iteT ⟨_, rfl, _, rfl, _, rfl, _, _, rfl, rfl, _, _, rfl, two_fit, fun t ht => ⟨by show 1 ≤ sizeLine; decide, fun u hu => ?_⟩⟩)
              first | rw [ev] at hu ⊢ | simp only [ev] at hu ⊢
              exact one s6 t ht u hu (LowM.first lB hd)
            · rw [List.concat_eq_append] at z
              subst z
              obtain ⟨y0, q', rfl, hq'⟩ := r6.split
              have tr : PyData.eqv (.list ((M' ++ [d']).map rowT)) (.list []) = false := by
                cases M' <;> rfl
              rw [tr]
              refine iteF ⟨_, rfl, 1, rfl, B, _, -1, .ref q', rfl, rfl, SqL.of (s6 _ _ hB), at_last5, q', _, 1, .int d'.2, rfl, rfl, SqT.of hq', rfl, _, rfl, _, rfl, _, _, rfl, rfl, _, _, rfl, rfl, _, rfl, ite2 (fun hc => ?_) (fun hc => ?_)⟩
              · have n : d'.2 ≠ ovrF h d.2 := fun z => by
                  rw [ev, z, decide_eq_true rfl] at hc
                  cases hc
                refine ⟨_, rfl, _, rfl, _, rfl, _, _, rfl, rfl, _, _, rfl, two_fit, fun t ht => ⟨by show 1 ≤ sizeLine; decide, fun u hu => ?_⟩⟩
                first | rw [ev] at hu ⊢ | simp only [ev] at hu ⊢
                exact one s6 t ht u hu (lB.put hd n)
              · have n : d'.2 = ovrF h d.2 := Classical.byContradiction fun z => hc (by
                  rw [ev, decide_eq_false (fun y => z (V.int.inj y))]
                  rfl)
                exact ⟨Nat.zero_le _, fun u hu => ⟨u, [], [], rfl, s6.trans (same_new hu), upd_same, .nil, Nat.zero_le _, by rw [List.append_nil]; exact lB.skip hd n⟩⟩
          · rintro v H7 ⟨u, us, Mn, rfl, s7, hu, ru, lu, lm⟩
            have lus : us.length = Mn.length := ru.len
            refine ⟨B, u, zs, us, rfl, rfl, s7 _ _ hB, hu, ?_, ?_⟩
            · exact Nat.le_trans (show zs.length + us.length ≤ 1000 by omega) (by decide)
            have kp : ∀ b o, b ≠ B → H6 b = some o → (upd H7 B (.lst (zs ++ us))) b = some o := fun b o n z => by
              rw [upd_ne n]
              exact s7 _ _ z
            have tk : ∀ {H8 : Hp}, H8 B = some (.lst zs) → ∀ q t, H8 q = some (.tup t) → (upd H8 B (.lst (zs ++ us))) q = some (.tup t) := fun hB q t z => by
              rw [upd_ne (fun y => by rw [y, hB] at z; cases z)]
              exact z
            refine ⟨some (.int d.1), some (.int d.2), rfl, fun b o x y z => ?_, ?_, ⟨ys, M, kp _ _ nAB hA, rA.keep fun q t n e => tk (s7 _ _ hB) _ _ (s7 _ _ e), lenA, lA⟩, ⟨_, _, upd_same, Paired.app5 (rB.keep fun q t n e => tk (s7 _ _ hB) _ _ (s7 _ _ e)) (ru.keep fun q t n e => tk (s7 _ _ hB) _ _ e), by rw [List.length_append]; omega, lm⟩⟩
            · exact kp _ _ (fun y => by rw [y, nB] at z; cases z) (b5 _ _ x y z)
            · exact (S5.but s7).upd (nG (gb _ nB)).1 (nG (gb _ nB)).2
      · rintro σ H5 ⟨x3, x4, rfl, b5, S5, A5, B5⟩
        rw [hlx] at A5 B5
        exact ⟨x3, x4, rfl, b5, S5, A5, B5⟩
    rintro σ' H5 ⟨x3, x4, rfl, b5, S5, ⟨ys, M, hA, rA, lenA, lA⟩, ⟨zs, W, hB, rB, lenB, lB⟩⟩
    have nn : ∀ d ∈ L, 0 ≤ d.2 := fun d hd => (sml d hd).2.2.1
    obtain ⟨da, M', eA, na, fa⟩ := lA.fin (fun x hx => by unfold lowF; omega) nn ne
    obtain ⟨db, W', eB, nb, fb⟩ := lB.fin (fun x hx => by unfold ovrF; omega) nn ne
    refine ⟨fun v H' => ∃ u us, v = .ref u ∧ Same H5 H' ∧ G u = none ∧ H' u = some (.lst us) ∧ Rows G H' us (dedF (lowF h) 0 L), ?_, ?_⟩
    · rw [fa]
      obtain ⟨y, yt, eY, q, e1, e2, e3⟩ : ∃ y yt, ys = y :: yt ∧ ∃ q, y = V.ref q ∧ G q = none ∧ H5 q = some (.tup [.int da.1, .int da.2]) := by
        rw [eA] at rA
        cases rA with
        | cons hh _ =>
          obtain ⟨q, z1, z2, z3⟩ := hh
          exact ⟨_, _, rfl, q, z1, z2, z3⟩
      rw [eY, e1] at hA
      refine ⟨_, rfl, A, _, 0, .ref q, rfl, rfl, SqL.of hA, at_zero5, q, _, 1, .int da.2, rfl, rfl, SqT.of ( e3), rfl, _, _, rfl, rfl, _, rfl, ite2 (fun hc => ?_) (fun hc => ?_)⟩
      · rw [if_pos (of_decide_eq_true hc)]
        exact ⟨_, rfl, A, ys, rfl, Same.refl _, gb _ nA, by rw [eY, e1]; exact  hA, rA.keep fun q t n e =>  e⟩
      · rw [if_neg (fun z => hc (decide_eq_true z))]
        refine ⟨_, rfl, 1, rfl, A, _, rfl, SqL.of ( hA), fun u hu => ?_⟩
        have su := same_new (o := HO.lst (cutV (V.ref q :: yt) (some 1) none)) hu
        refine ⟨u, yt, rfl, su, gb _ (b5.fresh S5 hu), by rw [upd_same, cut_from _ (by decide)]; rfl, ?_⟩
        rw [eA, eY] at rA
        cases rA with
        | cons _ tt => exact Rows.keep tt fun q t n e => su _ _ ( e)
    · rintro v H6 ⟨u, us, rfl, s6, hu0, hu, ru⟩
      refine ⟨fun v H' => ∃ u us, v = .ref u ∧ Same H6 H' ∧ G u = none ∧ H' u = some (.lst us) ∧ Rows G H' us (dedF (ovrF h) 0 L), ?_, ?_⟩
      · rw [fb]
        obtain ⟨y, yt, eY, q, e1, e2, e3⟩ : ∃ y yt, zs = y :: yt ∧ ∃ q, y = V.ref q ∧ G q = none ∧ H5 q = some (.tup [.int db.1, .int db.2]) := by
          rw [eB] at rB
          cases rB with
          | cons hh _ =>
            obtain ⟨q, z1, z2, z3⟩ := hh
            exact ⟨_, _, rfl, q, z1, z2, z3⟩
        rw [eY, e1] at hB
        refine ⟨_, rfl, B, _, 0, .ref q, rfl, rfl, SqL.of (s6 _ _ hB), at_zero5, q, _, 1, .int db.2, rfl, rfl, SqT.of (s6 _ _ e3), rfl, _, _, rfl, rfl, _, rfl, ite2 (fun hc => ?_) (fun hc => ?_)⟩
        · rw [if_pos (of_decide_eq_true hc)]
          exact ⟨_, rfl, B, zs, rfl, Same.refl _, gb _ nB, by rw [eY, e1]; exact s6 _ _ hB, rB.keep fun q t n e => s6 _ _ e⟩
        · rw [if_neg (fun z => hc (decide_eq_true z))]
          refine ⟨_, rfl, 1, rfl, B, _, rfl, SqL.of (s6 _ _ hB), fun u hu => ?_⟩
          have su := same_new (o := HO.lst (cutV (V.ref q :: yt) (some 1) none)) hu
          refine ⟨u, yt, rfl, su, gb _ (b5.fresh S5 (none_back s6 hu)), by rw [upd_same, cut_from _ (by decide)]; rfl, ?_⟩
          rw [eB, eY] at rB
          cases rB with
          | cons _ tt => exact Rows.keep tt fun q t n e => su _ _ (s6 _ _ e)
      · rintro v H7 ⟨u', us', rfl, s7, hu0', hu', ru'⟩
        refine ⟨by show 2 ≤ sizeLine; decide, fun R hR => ?_⟩
        have s9 := same_new (o := HO.lst [V.ref u, V.ref u']) hR
        have s69 := (s6.trans s7).trans s9
        have s79 := s7.trans s9
        exact k _ R [.ref u, .ref u'] [dedF (lowF h) 0 L, dedF (ovrF h) 0 L] (fun b o x y z => s69 _ _ (b5 _ _ x y z)) (b5.fresh S5 (none_back (s6.trans s7) hR)) upd_same (.cons ⟨u, us, rfl, hu0, s79 _ _ hu, ru.keep fun q t n e => s79 _ _ e⟩ (.cons ⟨u', us', rfl, hu0', s9 _ _ hu', ru'.keep fun q t n e => s9 _ _ e⟩ .nil)) (part_high ok h0) ((S5.but s69).mono (by omega))
end
end K05

set_option Elab.async false
set_option linter.all false
set_option maxRecDepth 100000
set_option maxHeartbeats 4000000
/-! defs whose promise holds where no repr is under way: made, called -/
namespace Own
open PySem PySem.Spec PyProof.Rows L2
section
variable {P : Program} {w : World} {K : PySem.W.Frag} {mg : Str → Option Value} {base : Heap}
theorem FnG.mono {CX : CXT} {j k : Nat} {f : Addr} {fd : FuncData} {ps : List Str} {sp : Sp} (F : FnG P w K mg base CX j f fd ps sp) (h : j ≤ k) : FnG P w K mg base CX k f fd ps sp :=
  ⟨F.len, fun A outer s H args us vs Q E hg hr => F.run A outer s H args us vs Q E hg (hr.mono h)⟩
theorem Fun.okG {x qual : Str} {st : Stmt} {f : Addr} {fd : FuncData} {N ps : List Str} {k : Nat} {sp : Sp} (F : Fun K x qual st f fd) (S : FnScope N ps (defScope st)) (len : ∀ vs H Q E, sp vs H Q E → vs.length = ps.length)
    (hbody : ∀ (cdv : Value) (A : Around) (outer : List Env) (s : Shared) (H : Hp) (vs : List V) (Q : VK) (E : XK), A.guards = some [] → Room k (A.deeper (envOfC qual (defScope st) s.heap.objs.size f cdv)) → sp vs H Q E →
      ∃ t, PSs (cxOf CX0 P w K mg base N qual (defScope st) f cdv A outer s H E).nox (defBody st) t ∧ t { nx := fun _ H' => Q .non H', rt := Q } (L2.start N vs) H) : FnG P w K mg base CX0 (k + 1) f fd ps sp := by
  obtain ⟨oc, od, kV, doc, pm, an, cdv, ct, osl, rfl, lk, hcd⟩ := F.ex
  constructor
  · exact len
  intro A outer s H args us vs Q E hg hr e0 hb rv hsp
  -- what the world keeps of the text's own objects
  have up : ∀ b o, base.get? b = some o → s.heap.get? b = some o := fun b o e => (e0.bs b o e).1
  have kin := e0.mod.kin.keeps up
  have kinds : ∀ y ∈ ps.zip us, (defScope st).names.lookup y.1 = some .local ∨ ((defScope st).names.lookup y.1 = some .cell ∧ ((cellsFrom (s.heap.objs.size + 1) (defScope st).names []).lookup y.1).isSome = true) := by
    rintro ⟨n, v⟩ hy
    cases S.par n (List.of_mem_zip hy).1 with
    | inl q => exact .inl q
    | inr q => exact .inr ⟨q, PySem.W.cellsFrom_some _ _ _ (.inl q)⟩
  refine codeAny_call_function hr.depth (kin _ _ lk) rfl S.co S.gen rfl (PySem.W.codeRec_of kin hcd) (hb _ _ _ _ (wpAny_newFunctionEnv_cells S.kind kinds fun env he s1 x => ?_))
  cases he
  obtain ⟨t, pt, hq⟩ := hbody cdv A outer s H vs Q E hg (hr.deeper _) hsp
  have I0 := inv_start (CX := CX0) (E := E) S hr.hd e0 (len _ _ _ _ hsp) rv x
  refine ⟨(e0.mod.nolimit.keeps up).keeps x.toInCall.keep, codeAny_func (wpAny_mono (pt.nox.run [] s1 _ H _ I0 hq) ?_ fun _ _ z => z)⟩
  intro fl s' hs
  match fl, hs with
  | .ret u, ⟨v, _, H', J, r, q⟩ => exact ⟨v, H', J.os, J.bare, J.base, J.hok, r, q⟩
  | .next, ⟨_, H', J, q⟩ => exact ⟨V.non, H', J.os, J.bare, J.base, J.hok, rfl, q⟩
  | .brk, ⟨_, _, _, q⟩ => exact q.elim
  | .cont, ⟨_, _, _, q⟩ => exact q.elim
end
section
variable {X : Cx} {CX : CXT} {k : Nat} {f : Addr} {fd : FuncData} {ps : List Str} {sp : Sp} {E : XK} {x : Str} {p pos : Pos} {e : Expr} {es : List Expr} {t : TA} {ds : List Value} {dvs : List V}
theorem pe_callG (F : FnG X.prog X.w X.K X.mg X.base CX k f fd ps sp) (hgd : X.A.guards = some []) (hr : Room k X.A) (hg : Gl X x) (hm : X.mg x = some (.ref f)) (hk : PySem.W.keepIn X.K (.ref f) = true) (hb : L2.Binds X.K fd ps ds) (hd : Vals dvs ds) (hx : Passes CX X E)
    (ha : PA X (e :: es) t) (hdb : (x == ("__debug__" : Str)) = false := by decide) (he : starEach (e :: es) X.env = (false, eval e X.env) :: starEach es X.env := by rfl) (hpl : (backTo pos (starEach es X.env)).any (·.1) = false := by rfl) :
    PE X (.Call (.Name x p) (e :: es) [] pos) (tCall sp dvs E t) := by
  constructor
  intro pins s σ H Q I h
  refine wpAny_Call_Name_kw (ld_glob I hg hm ?_ hdb)
  refine PySem.W.callWith_K (h₀ := X.base) I.ok.mod.kin hk (thn (ha.run pos pins s σ H _ I h) ?_) he hpl
  rintro us s1 ⟨vs, H1, I1, r, q⟩
  refine ⟨I1.kIn, ?_⟩
  have r2 : Vals (vs ++ dvs) (us ++ ds) := r.append hd
  have hl : (us ++ ds).length = ps.length := r2.length.symm.trans (F.len _ _ _ _ q)
  refine wpAny_call (codeAny_mono (F.run X.A X.stack s1 H1 ⟨us, []⟩ (us ++ ds) (vs ++ dvs) Q E hgd hr I1.env0 (hb s1 us I1.kIn hl) r2 q) ?_)
  intro fl s' hq
  match fl, hq with
  | .error er, hq => exact hx pins σ H1 s1 er s' I1 hq
  | .ok (.ret u), hq => exact I1.after hq
  | .ok .next, hq => exact False.elim hq
  | .ok .brk, hq => exact False.elim hq
  | .ok .cont, hq => exact False.elim hq
end
theorem guards_deeper {A : Around} {env : Env} (h : A.guards = some []) : (A.deeper env).guards = some [] := by
  first | exact h | (simp [Around.deeper, h])
end Own

set_option Elab.async false
set_option linter.all false
set_option maxRecDepth 100000
set_option maxHeartbeats 4000000
namespace K05
open PySem PySem.Spec PyProof.Rows L2 Own
/-! _law_later_right -/
theorem kb_later {K : PySem.W.Frag} {f : Addr} {fd : FuncData} (F : Fun K "later" "later" s_later f fd) : KBn K fd ["steps", "turns"] 0 ["turns", "steps"] (fun _ ws => ws.reverse) (fun _ ws => ws.reverse) := by
  obtain ⟨oc, od, kV, doc, pm, an, cdv, ct, osl, rfl, lk, hcd⟩ := F.ex
  refine ⟨fun s us ws X l1 l2 => BindsTo.of_looks fun M => ?_, fun {vs us zs ws} r1 r2 => vals_rev r2⟩
  match us, ws, l1, l2 with
  | [], [x0, x1], _, _ => exact .of_pure rfl
theorem kb_tog {K : PySem.W.Frag} {f : Addr} {fd : FuncData} (F : Fun K "together" "together" s_together f fd) : KBn K fd ["lists"] 0 ["lists"] (fun _ ws => ws.reverse) (fun _ ws => ws.reverse) := by
  obtain ⟨oc, od, kV, doc, pm, an, cdv, ct, osl, rfl, lk, hcd⟩ := F.ex
  refine ⟨fun s us ws X l1 l2 => BindsTo.of_looks fun M => ?_, fun {vs us zs ws} r1 r2 => vals_rev r2⟩
  match us, ws, l1, l2 with
  | [], [x0], _, _ => exact .of_pure rfl
/-- two lists of the same rows -/
theorem rows_eqt {K : PySem.W.Frag} {C : Addr} {n : Nat} {H : Hp} {G1 G2 : Hp} : ∀ {xs ys : List V} {L : List (Int × Int)}, Rows G1 H xs L → Rows G2 H ys L → Paired (Eqt K C (n + 1) H) xs ys
  | _, _, _, .nil, .nil => .nil
  | _, _, _, .cons h t, .cons h' t' => by
    obtain ⟨q, rfl, _, e⟩ := h
    obtain ⟨q', rfl, _, e'⟩ := h'
    exact .cons (eqt_u e e' (.cons (eqt_leaf (.inl rfl)) (.cons (eqt_leaf (.inl rfl)) .nil)) (by show 2 ≤ 1000; decide)) (rows_eqt t t')
theorem row_eqt {K : PySem.W.Frag} {C : Addr} {n : Nat} {H G1 G2 : Hp} {p q : Addr} {xs ys : List V} {L : List (Int × Int)} (h : H p = some (.lst xs)) (g : H q = some (.lst ys)) (r : Rows G1 H xs L) (r' : Rows G2 H ys L) (hl : L.length ≤ 1000000) : Eqt K C (n + 2) H (.ref p) (.ref q) :=
  eqt_l h g (rows_eqt r r') (by rw [r.len]; exact hl)
theorem len_shL {k : Int} {L : List (Int × Int)} : (shL k L).length = L.length := List.length_map _
def spLR (K : PySem.W.Frag) (C : Addr) : Sp := fun vs H Q _ => ∃ (a l : Addr) (N : Int) (S : Addr → Prop) (v : V) (k : Int) (L : List (Int × Int)), vs = [.ref a, v, .int k] ∧ Strm N H a l ∧ 0 ≤ N ∧ N + 1000 ≤ 1000000000 ∧ S a ∧ S l ∧ (∀ b, S b → H b ≠ none) ∧ StR K C S H v L ∧ L.length ≤ 200 ∧ 0 ≤ k ∧
  ∀ H', But2 a l H H' → Strm (N + 1000) H' a l → Q (.bl true) H'
abbrev NLR : List Str := ["_law_stream_here", "_law_steps", "_law_turns", "_law_given", "_law_other", "_law_was", "_law_due_here", "_law_told"]
theorem scLR : FnScope NLR ["_law_stream_here", "_law_steps", "_law_turns"] (defScope s_l_later_right) := ⟨rfl, rfl, rfl, by decide +kernel, rfl, by decide +kernel, by decide +kernel⟩
section
variable {P : Program} {w : World} {K : PySem.W.Frag} {mg : Str → Option Value} {base : Heap} {C : Addr}
theorem ok_LR {f fLo fD fSh fLt fSm Cs Cu : Addr} {fd fdLo fdD fdSh fdLt fdSm : FuncData} (F : Fun K "_law_later_right" "_law_later_right" s_l_later_right f fd) (T : Bt mg) (zRp : mg "repr" = none)
    (FD : Fun K "_law_draw" "_law_draw" sDraw fD fdD) (gD : mg "_law_draw" = some (.ref fD)) (bD : Binds K fdD ["_law_stream_here", "_law_many"] [])
    (FLo : Fun K "_law_loose" "_law_loose" sLoose fLo fdLo) (gLo : mg "_law_loose" = some (.ref fLo)) (bLo : Binds K fdLo ["_law_stream_here", "_law_thing"] []) (GLo : FnOk P w K mg base CX0 50 fLo fdLo ["_law_stream_here", "_law_thing"] (spLo K C 48))
    (FSh : Fun K "_law_p_shifted" "_law_p_shifted" s_l_p_shifted fSh fdSh) (gSh : mg "_law_p_shifted" = some (.ref fSh)) (bSh : Binds K fdSh ["_law_steps", "_law_turns"] []) (GSh : FnOk P w K mg base CX0 1 fSh fdSh ["_law_steps", "_law_turns"] (spShf K C))
    (FLt : Fun K "later" "later" s_later fLt fdLt) (gLt : mg "later" = some (.ref fLt)) (bLt : Binds K fdLt ["steps", "turns"] []) (GLt : FnOk P w K mg base (L2.CX P w) 5 fLt fdLt ["steps", "turns"] (spLater K C Cs Cu))
    (FSm : Fun K "_law_same" "_law_same" sSame fSm fdSm) (gSm : mg "_law_same" = some (.ref fSm)) (bSm : Binds K fdSm ["_law_found", "_law_due_here"] []) (GSm : FnOk P w K mg base CX0 52 fSm fdSm ["_law_found", "_law_due_here"] (spSame K C 50)) :
    FnG P w K mg base CX0 54 f fd ["_law_stream_here", "_law_steps", "_law_turns"] (spLR K C) := by
  have GD : FnOk P w K mg base CX0 1 fD fdD ["_law_stream_here", "_law_many"] spDraw := ok_draw FD T
  have kLt := kb_later FLt
  refine Fun.okG F scLR (fun vs H Q E h => ?_) (fun cdv A outer s H vs Q E hG hr h => ?_)
  · obtain ⟨a, l, N, S, v, k, L, rfl, _⟩ := h
    rfl
  · obtain ⟨a, l, N, S, v, k, L, rfl, S0, hN0, hN1, sa, sl, sd, hv, hlen, hk0, fin⟩ := h
    refine ⟨_, (Evl.pss_cut (ps_par (i := 3) (j := 4) (by rfl) scLR.nd rfl rfl (by decide) rfl rfl (pa_cons (pe_call GLo (hr.mono (by decide)) (by rfl) gLo FLo.kp bLo .nil pass0 (pa_cons (pv 0) (pa_cons (pv 1) pa_nil))) (pa_cons (pe_op op_add (pe_op op_add (pv 2) pe_int) (pe_call GD (hr.mono (by decide)) (by rfl) gD FD.kp bD .nil pass0 (pa_cons (pv 0) (pa_cons pe_int pa_nil)))) pa_nil)) (by rfl))
  (Evl.pss_cut (ps_par (i := 5) (j := 6) (by rfl) scLR.nd rfl rfl (by decide) rfl rfl (pa_cons (pe_callB (call_repr (guards_deeper hG) hr.units) (by rfl) zRp (by decide +kernel) (pa_cons (pv 3) pa_nil)) (pa_cons (pe_call GSh (hr.mono (by decide)) (by rfl) gSh FSh.kp bSh .nil pass0 (pa_cons (pv 1) (pa_cons (pv 2) pa_nil))) pa_nil)) (by rfl))
  (Evl.pss_cut (ps_set (i := 7) scLR.nd rfl (Or.inl rfl) (pe_call (E := fun _ _ _ => False) GLt (hr.mono (by decide)) (by rfl) gLt FLt.kp bLt .nil (passes_call L2.takes0 (fun _ _ _ _ h => h)) (pa_cons (pv 3) (pa_cons (pv 2) pa_nil))))
  (Evl.pss_cut (ps_if (pt_not (pt_val (pe_call GSm (hr.mono (by decide)) (by rfl) gSm FSm.kp bSm .nil pass0 (pa_cons (pe_lst (pa_cons (pv 7) (pa_cons (pe_call (E := fun _ _ _ => False) GLt (hr.mono (by decide)) (by rfl) gLt FLt.kp bLt .nil (passes_call L2.takes0 (fun _ _ _ _ h => h)) (pa_cons (pv 3) (pa_cons (pv 4) pa_nil))) pa_nil))) (pa_cons (pe_lst (pa_cons (pv 6) (pa_cons (pe_call GSh (hr.mono (by decide)) (by rfl) gSh FSh.kp bSh .nil pass0 (pa_cons (pv 1) (pa_cons (pv 4) pa_nil))) pa_nil))) pa_nil))))) (pss_one (ps_ret pe_bl)) pss_nil)
  (Evl.pss_cut (ps_expr (pe_bm PySem.F.plainAttrs_list PySem.F.slot_list_append PySem.F.type_list_append mt_append (pv 7) (pa_cons pe_str pa_nil)))
  (pss_one (ps_ret (pe_and (pe_call GSm (hr.mono (by decide)) (by rfl) gSm FSm.kp bSm .nil pass0 (pa_cons (pe_callK0 (E := fun _ _ _ => False) GLt (hr.mono (by decide)) (by rfl) gLt FLt.kp kLt (passes_call L2.takes0 (fun _ _ _ _ h => h)) (pk_cons (pv 2) (pk_cons (pv 3) pk_nil))) (pa_cons (pv 6) pa_nil))) (pe_one (pe_cmpR op_eq (pe_callB (call_repr (guards_deeper hG) hr.units) (by rfl) zRp (by decide +kernel) (pa_cons (pv 3) pa_nil)) (pv 5) (nomark _))))))))))), ?_⟩
    obtain ⟨q1, q2, q3⟩ := rk_stT L
    have kb : ∀ {H1 H2 : Hp}, But2 a l H1 H2 → Kp S H1 H2 := fun b => .but sa sl b
    have hal := S0.some
    refine ⟨fun σ' H' => ∃ (g : V) (j : Int), σ' = [some (.ref a), some v, some (.int k), some g, some (.int j), none, none, none] ∧ But2 a l H H' ∧ Strm (N + 1000) H' a l ∧ StR K C S H' g L ∧ StR K C S H' v L ∧ 0 ≤ j, ?_, ?_⟩
    · refine ⟨_, rfl, _, rfl, a, l, N, S, v, stT L, rfl, S0, hN0, by omega, sa, sl, sd, hv.re, by omega, fun H1 g b1 r1 S1 => ?_⟩
      refine ⟨_, rfl, _, _, rfl, rfl, _, rfl, a, l, _, 9, rfl, S1, by omega, by omega, by decide, by decide, fun H2 d d0 d1 b2 S2 => ?_⟩
      refine ⟨_, _, rfl, rfl, _, _, rfl, g, k + 1 + d, rfl, b1.trans b2, S2.mono (by omega), ⟨Re.keep (kb b2) _ _ r1, hv.ok, hv.bd⟩, hv.keep (kb (b1.trans b2)), by omega⟩
    rintro σ' H1 ⟨g, j, rfl, b1, S1, hg1, hv1, j0⟩
    obtain ⟨pg, dg, rfl, rok, hdp⟩ := hg1.data hlen
    refine ⟨fun σ' H' => ∃ (p : Addr) (xs : List V), σ' = [some (.ref a), some v, some (.int k), some (.ref pg), some (.int j), some (.str dg.shown), some (.ref p), none] ∧ Same H1 H' ∧ H1 p = none ∧ H' p = some (.lst xs) ∧ Rows H1 H' xs (shL k L), ?_, ?_⟩
    · refine ⟨_, rfl, pg, dg, rfl, hdp _ Kp.refl, rok.s, rok.n, rok.d, rok.l, _, rfl, _, rfl, v, L, k, rfl, hv1.stl, by omega, fun H2 p xs s2 np hp r2 => ?_⟩
      exact ⟨_, _, rfl, p, xs, rfl, s2, np, hp, r2⟩
    rintro σ' H2 ⟨p, xs, rfl, s2, np, hp, r2⟩
    have lat : ∀ {H' : Hp} {i : Int} {Q' : VK}, Same H1 H' → 0 ≤ i → (∀ H2 p xs, Same H' H2 → H' p = none → H2 p = some (.lst xs) → Rows H' H2 xs (shL i L) → Q' (.ref p) H2) → spLater K C Cs Cu [.ref pg, .int i] H' Q' (fun _ _ _ => False) := fun {H' i Q'} e i0 q =>
      ⟨.ref pg, .int i, some (L.map itP), none, rfl, (hg1.stl.same e).cd, .inl ⟨.inl rfl, rfl⟩, (fun z => by
        rw [show stp (some (L.map itP)) = true from okL_stp hv.ok] at z
        cases z), (fun _ z => by
        rw [show isN (V.int i) = true from decide_eq_true i0] at z
        cases z), fun _ _ => ⟨L, i, rfl, hg1.stl.same e, by omega, q⟩⟩
    refine ⟨fun σ' H' => ∃ (t : Addr) (ys : List V), σ' = [some (.ref a), some v, some (.int k), some (.ref pg), some (.int j), some (.str dg.shown), some (.ref p), some (.ref t)] ∧ Same H2 H' ∧ H2 t = none ∧ H' t = some (.lst ys) ∧ Rows H2 H' ys (shL k L), ?_, ?_⟩
    · refine ⟨_, rfl, _, rfl, ?_⟩
      dsimp only [tNil, List.cons_append, List.nil_append]
      refine (show spLater K C Cs Cu [.ref pg, .int k] H2 _ _ from ?_)
      refine lat s2 hk0 fun H3 t ys s3 nt ht r3 => ?_
      exact ⟨t, ys, rfl, s3, nt, ht, r3⟩
    rintro σ' H3 ⟨t, ys, rfl, s3, nt, ht, r3⟩
    have s13 := s2.trans s3
    refine ⟨fun σ' H' => σ' = [some (.ref a), some v, some (.int k), some (.ref pg), some (.int j), some (.str dg.shown), some (.ref p), some (.ref t)] ∧ Same H3 H', ?_, ?_⟩
    · refine ⟨_, rfl, _, rfl, _, rfl, ?_⟩
      dsimp only [tNil, List.cons_append, List.nil_append]
      refine (show spLater K C Cs Cu [.ref pg, .int j] H3 _ _ from ?_)
      refine lat s13 j0 fun H4 u us s4 nu hu r4 => ⟨two_fit, fun A1 hA1 => ?_⟩
      have s5 := same_new (o := HO.lst [V.ref t, V.ref u]) hA1
      have s15 := (s13.trans s4).trans s5
      refine ⟨_, rfl, _, rfl, _, rfl, v, L, j, rfl, hv1.stl.same s15, by omega, fun H6 y zs s6 ny hy r6 => ⟨two_fit, fun A2 hA2 => ?_⟩⟩
      have s7 := same_new (o := HO.lst [V.ref p, V.ref y]) hA2
      have s37 := ((s4.trans s5).trans s6).trans s7
      have s57 := (s5.trans s6).trans s7
      have s67 := s6.trans s7
      refine ⟨_, _, rfl, eqt_l (s67 _ _ upd_same) upd_same (.cons (row_eqt (n := 47) (L := shL k L) (s37 _ _ ht) ((s3.trans s37) _ _ hp) (r3.keep fun _ _ _ e => s37 _ _ e) (r2.keep fun _ _ _ e => (s3.trans s37) _ _ e) (by rw [len_shL]; omega)) (.cons (row_eqt (n := 47) (L := shL j L) (s57 _ _ hu) (s7 _ _ hy) (r4.keep fun _ _ _ e => s57 _ _ e) (r6.keep fun _ _ _ e => s7 _ _ e) (by rw [len_shL]; omega)) .nil)) (by show 2 ≤ 1000000; decide), fun H8 s8 => ⟨_, rfl, iteF ⟨rfl, s37.trans s8⟩⟩⟩
    rintro σ' H4 ⟨rfl, s4⟩
    have ht4 := s4 _ _ ht
    have npt : p ≠ t := fun z => by rw [z, nt] at hp; cases hp
    have nt1 : H1 t = none := none_back s2 nt
    have lys : ys.length = (shL k L).length := r3.len
    have lsh : (shL k L).length = L.length := len_shL
    refine ⟨fun σ' H' => σ' = [some (.ref a), some v, some (.int k), some (.ref pg), some (.int j), some (.str dg.shown), some (.ref p), some (.ref t)] ∧ Same H1 H' ∧ H' p = some (.lst xs) ∧ Rows H1 H' xs (shL k L), ?_, ?_⟩
    · refine ⟨_, rfl, .inl ⟨rfl, _, SqL.of ht4⟩, t, ys, .str "late", rfl, rfl, ht4, Nat.lt_of_le_of_lt (show ys.length ≤ 1000000 by omega) (by decide), rfl, fun b o e => ?_, ?_, ?_⟩
      · rw [upd_ne (ne_of_none e nt1)]
        exact s4 _ _ (s13 _ _ e)
      · rw [upd_ne npt]
        exact s4 _ _ (s3 _ _ hp)
      · exact r2.keep fun q u _ e => by
          rw [upd_ne (fun z => by rw [z, nt] at e; cases e)]
          exact s4 _ _ (s3 _ _ e)
    rintro σ' H5 ⟨rfl, s5, hp5, r5⟩
    refine ⟨_, rfl, _, rfl, rfl, ?_⟩
    show spLater K C Cs Cu [.ref pg, .int k] H5 _ _
    refine lat s5 hk0 fun H6 y zs s6 ny hy r6 => ?_
    refine ⟨_, rfl, _, _, rfl, row_eqt (n := 48) (L := shL k L) hy (s6 _ _ hp5) r6 (r5.keep fun _ _ _ e => s6 _ _ e) (by omega), fun H7 s7 => ?_⟩
    have s17 := (s5.trans s6).trans s7
    refine ⟨_, rfl, iteT ⟨_, rfl, pg, dg, rfl, hdp _ (.same s17), rok.s, rok.n, rok.d, rok.l, _, rfl, rfl, ?_⟩⟩
    rw [decide_eq_true rfl]
    exact fin H7 (fun b o x y z => s17 _ _ (b1 _ _ x y z)) (S1.but s17)
end
end K05

set_option Elab.async false
set_option linter.all false
set_option maxRecDepth 100000
set_option maxHeartbeats 8000000
namespace K05
open PySem PySem.Spec PyProof.Rows L2 Own
/-! _law_changed_right -/
theorem addF_same {Ls : List (List (Int × Int))} {ns ms : List Int} (h : ∀ L ∈ Ls, okL (-1) 0 L) (i1 : Inc (-1) ns) (a1 : allT Ls ns) (i2 : Inc (-1) ms) (a2 : allT Ls ms) : addF (sumR Ls) 0 ns = addF (sumR Ls) 0 ms :=
  added_uniq h i1 a1 (added h i2 a2).1 fun t _ => (added h i2 a2).2 t
def bump : Int → List (Int × Int) → List (Int × Int)
  | _, [] => []
  | i, p :: r => (p.1 + 5 + i, p.2) :: bump (i + 1) r
theorem bump_ok : ∀ {L : List (Int × Int)} {l l' b i : Int}, okL l b L → 0 ≤ i → l' ≤ l + 4 + i → okL l' b (bump i L)
  | [], _, _, _, _, h, _, _ => h
  | p :: r, l, l', b, i, h, hi, hl => by
    obtain ⟨h1, h2, h3, h4, h5⟩ := h
    exact ⟨by show 0 ≤ p.1 + 5 + i; omega, h2, by show l' < p.1 + 5 + i; omega, h4, bump_ok h5 (by omega) (by show p.1 + 5 + i ≤ _; omega)⟩
theorem bump_len : ∀ {L : List (Int × Int)} {i : Int}, (bump i L).length = L.length
  | [], _ => rfl
  | _ :: r, i => congrArg (· + 1) (bump_len (L := r) (i := i + 1))
theorem bump_mem : ∀ {L : List (Int × Int)} {i : Int}, ∀ d ∈ bump i L, ∃ q ∈ L, d.2 = q.2 ∧ q.1 + 5 + i ≤ d.1 ∧ d.1 ≤ q.1 + 5 + i + L.length
  | [], _, d, hd => by cases hd
  | p :: r, i, d, hd => by
    rcases List.mem_cons.mp hd with rfl | hd
    · exact ⟨p, List.mem_cons_self, rfl, Int.le_refl _, by show p.1 + 5 + i ≤ p.1 + 5 + i + ((r.length + 1 : Nat) : Int); omega⟩
    · obtain ⟨q, hq, e1, e2, e3⟩ := bump_mem d hd
      exact ⟨q, List.mem_cons_of_mem _ hq, e1, by omega, by show d.1 ≤ q.1 + 5 + i + ((r.length + 1 : Nat) : Int); omega⟩
theorem bump_take : ∀ {L : List (Int × Int)} {i : Int} {j : Nat} {d : Int × Int}, L[j]? = some d → bump i (L.take (j + 1)) = bump i (L.take j) ++ [(d.1 + 5 + (i + j), d.2)]
  | [], _, _, _, h => by cases h
  | p :: r, i, 0, d, h => by
    cases h
    show [(p.1 + 5 + i, p.2)] = [(p.1 + 5 + (i + 0), p.2)]
    rw [Int.add_zero]
  | p :: r, i, j + 1, d, h => by
    show (p.1 + 5 + i, p.2) :: bump (i + 1) (r.take (j + 1)) = ((p.1 + 5 + i, p.2) :: bump (i + 1) (r.take j)) ++ _
    rw [bump_take (i := i + 1) (j := j) (d := d) h, show i + 1 + (j : Int) = i + ((j + 1 : Nat) : Int) by omega]
    rfl
/-- while the turns are changed -/
def midL (j : Nat) (L : List (Int × Int)) : List (Int × Int) := bump 0 (L.take j) ++ L.drop j
theorem midL_set {L : List (Int × Int)} {j : Nat} {d : Int × Int} (h : L[j]? = some d) : (midL j L).set j (d.1 + 5 + j, d.2) = midL (j + 1) L := by
  unfold midL
  have hj : j < L.length := (List.getElem?_eq_some_iff.mp h).1
  have lb : (bump 0 (L.take j)).length = j := by rw [bump_len, List.length_take]; omega
  rw [drop_at h, bump_take h, List.set_append, if_neg (by omega), lb, Nat.sub_self, List.append_assoc, Int.zero_add]
  rfl
theorem midL_at {L : List (Int × Int)} {j : Nat} {d : Int × Int} (h : L[j]? = some d) : (midL j L)[j]? = some d := by
  unfold midL
  have hj : j < L.length := (List.getElem?_eq_some_iff.mp h).1
  have lb : (bump 0 (L.take j)).length = j := by rw [bump_len, List.length_take]; omega
  rw [List.getElem?_append_right (by omega), lb, Nat.sub_self, drop_at h]
  rfl
theorem midL_len {L : List (Int × Int)} {j : Nat} (h : j ≤ L.length) : (midL j L).length = L.length := by
  unfold midL
  rw [List.length_append, bump_len, List.length_take, List.length_drop]
  omega
theorem tot_sub {Ms Ls : List (List (Int × Int))} (h : Ms.Sublist Ls) : tot Ms ≤ tot Ls := by
  induction h with
  | slnil => exact Nat.le_refl _
  | cons a _ ih =>
    show _ ≤ a.length + tot _
    omega
  | cons_cons a _ ih =>
    show a.length + tot _ ≤ a.length + tot _
    omega
theorem Paired.erase {α β : Type} {F : α → β → Prop} : ∀ {xs : List α} {ys : List β} (i : Nat), Paired F xs ys → Paired F (xs.eraseIdx i) (ys.eraseIdx i)
  | _, _, _, .nil => .nil
  | _, _, 0, .cons _ t => t
  | _, _, i + 1, .cons h t => .cons h (Paired.erase i t)
structure Good (L : List (Int × Int)) : Prop where
  ok : okL (-1) 0 L
  len : L.length ≤ 150
  bd : ∀ d ∈ L, 0 ≤ d.1 ∧ d.1 < 2 ^ 58 ∧ 0 ≤ d.2 ∧ d.2 < 2 ^ 59
theorem Good.sml {L : List (Int × Int)} (g : Good L) : ∀ d ∈ L, Sml d := fun d hd => by
  obtain ⟨h1, h2, h3, h4⟩ := g.bd d hd
  exact ⟨h1, by omega, h3, h4⟩
theorem LsA.str {K : PySem.W.Frag} {C : Addr} {S : Addr → Prop} {G H : Hp} (hS : ∀ b, S b → G b ≠ none) : ∀ {xs : List V} {Ls : List (List (Int × Int))}, LsA G H xs Ls → (∀ L ∈ Ls, Good L) → Paired (StR K C S H) xs Ls
  | _, _, .nil, _ => .nil
  | _, _, .cons h t, g => by
    obtain ⟨q, zs, rfl, n, e, r⟩ := h
    have g0 := g _ List.mem_cons_self
    exact .cons (Rows.str hS n e r (by have := g0.len; omega) g0.ok g0.sml) (LsA.str hS t fun L hL => g L (List.mem_cons_of_mem _ hL))
theorem LsA.keep {G G' H H' : Hp} {xs : List V} {Ls : List (List (Int × Int))} (h : LsA G H xs Ls) (k : ∀ b o, G b = none → H b = some o → G' b = none ∧ H' b = some o) : LsA G' H' xs Ls := by
  induction h with
  | nil => exact .nil
  | cons hx _ ih =>
    obtain ⟨q, zs, rfl, n, e, r⟩ := hx
    refine .cons ⟨q, zs, rfl, (k _ _ n e).1, (k _ _ n e).2, ?_⟩ ih
    exact imp5 r fun x d ⟨u, e1, n1, e2⟩ => ⟨u, e1, (k _ _ n1 e2).1, (k _ _ n1 e2).2⟩
def spChg (K : PySem.W.Frag) (C : Addr) : Sp := fun vs H Q _ => ∃ (a l p : Addr) (N : Int) (G : Hp) (xs : List V) (Ls : List (List (Int × Int))), vs = [.ref a, .ref p] ∧ Strm N H a l ∧ 0 ≤ N ∧ N + 10000 ≤ 1000000000 ∧ G a ≠ none ∧ G l ≠ none ∧ (∀ b, H b = none → G b = none) ∧ G p = none ∧ H p = some (.lst xs) ∧ LsA G H xs Ls ∧ (∀ L ∈ Ls, Good L) ∧ Ls ≠ [] ∧ Ls.length ≤ 30 ∧ tot Ls ≤ 900 ∧
  ∀ H', But2 a l H H' → Strm (N + 10000) H' a l → Q (.bl true) H'
abbrev NChg : List Str := ["_law_stream_here", "_law_some", "_law_moving", "_law_given", "_law_steps", "_law_first", "_law_at", "_law_pair"]
theorem scChg : FnScope NChg ["_law_stream_here", "_law_some"] (defScope s_l_changed_right) := ⟨rfl, rfl, rfl, by decide +kernel, rfl, by decide +kernel, by decide +kernel⟩
section
variable {P : Program} {w : World} {K : PySem.W.Frag} {mg : Str → Option Value} {base : Heap} {C : Addr}
theorem ok_chg {f fLo fD fSh fLt fSm fTg fAd Cs Cu : Addr} {fd fdLo fdD fdSh fdLt fdSm fdTg fdAd : FuncData} (F : Fun K "_law_changed_right" "_law_changed_right" s_l_changed_right f fd) (T : Bt mg)
    (FD : Fun K "_law_draw" "_law_draw" sDraw fD fdD) (gD : mg "_law_draw" = some (.ref fD)) (bD : Binds K fdD ["_law_stream_here", "_law_many"] [])
    (FLo : Fun K "_law_loose" "_law_loose" sLoose fLo fdLo) (gLo : mg "_law_loose" = some (.ref fLo)) (bLo : Binds K fdLo ["_law_stream_here", "_law_thing"] []) (GLo : FnOk P w K mg base CX0 50 fLo fdLo ["_law_stream_here", "_law_thing"] (spLo K C 48))
    (FSh : Fun K "_law_p_shifted" "_law_p_shifted" s_l_p_shifted fSh fdSh) (gSh : mg "_law_p_shifted" = some (.ref fSh)) (bSh : Binds K fdSh ["_law_steps", "_law_turns"] []) (GSh : FnOk P w K mg base CX0 1 fSh fdSh ["_law_steps", "_law_turns"] (spShf K C))
    (FAd : Fun K "_law_p_added" "_law_p_added" s_l_p_added fAd fdAd) (gAd : mg "_law_p_added" = some (.ref fAd)) (bAd : Binds K fdAd ["_law_lists"] []) (GAd : FnOk P w K mg base CX0 2 fAd fdAd ["_law_lists"] (spAdd K C))
    (FLt : Fun K "later" "later" s_later fLt fdLt) (gLt : mg "later" = some (.ref fLt)) (bLt : Binds K fdLt ["steps", "turns"] []) (GLt : FnOk P w K mg base (L2.CX P w) 5 fLt fdLt ["steps", "turns"] (spLater K C Cs Cu))
    (FTg : Fun K "together" "together" s_together fTg fdTg) (gTg : mg "together" = some (.ref fTg)) (bTg : Binds K fdTg ["lists"] []) (GTg : FnOk P w K mg base (L2.CX P w) 5 fTg fdTg ["lists"] (spTog K C Cs))
    (FSm : Fun K "_law_same" "_law_same" sSame fSm fdSm) (gSm : mg "_law_same" = some (.ref fSm)) (bSm : Binds K fdSm ["_law_found", "_law_due_here"] []) (GSm : FnOk P w K mg base CX0 52 fSm fdSm ["_law_found", "_law_due_here"] (spSame K C 50)) :
    FnOk P w K mg base CX0 54 f fd ["_law_stream_here", "_law_some"] (spChg K C) := by
  have GD : FnOk P w K mg base CX0 1 fD fdD ["_law_stream_here", "_law_many"] spDraw := ok_draw FD T
  refine F.ok scChg (fun vs H Q E h => ?_) (fun cdv A outer s H vs Q E hr h => ?_)
  · obtain ⟨a, l, p, N, G, xs, Ls, rfl, _⟩ := h
    rfl
  · obtain ⟨a, l, p, N, G, xs, Ls, rfl, S0, hN0, hN1, ga, gl, gb, gp, hp, hx, good, neL, lenL, htot, fin⟩ := h
    refine ⟨_, (Evl.pss_cut (ps_par (i := 2) (j := 3) (by rfl) scChg.nd rfl rfl (by decide) rfl rfl (pa_cons (pe_lst pa_nil) (pa_cons (pe_lc (own := [("_law_pair", 7)]) (g := gName 7) (tt := tYes) rfl scChg.nd (pi_list (pe_ix ix_list (pv 1) pe_int (fun _ _ => rfl))) (blkOk_by (N := ["_law_stream_here", "_law_some", "_law_moving", "_law_given", "_law_steps", "_law_first", "_law_at", "_law_pair"]) (sc := defScope s_l_changed_right) (by decide +kernel)) (fun _ _ _ _ _ => (pg_name (i := 7) (x := "_law_pair") scChg.nd rfl (Or.inl rfl))) (fun _ _ _ _ _ => pts_nil) (fun _ _ _ _ _ => (pe_callTy (call_listK (K := K) rfl) (by rfl) T.list (by decide +kernel) (pa_cons (pv 7) pa_nil)))) pa_nil)) (by rfl))
  (Evl.pss_cut (ps_for PassesOwn.never rfl (pi_list (pv 1)) (pg_name (i := 4) (x := "_law_steps") scChg.nd rfl (Or.inl rfl)) (Evl.pss_cut (ps_if (pt_not (pt_val (pe_call GSm (hr.mono (by decide)) (by rfl) gSm FSm.kp bSm .nil pass0 (pa_cons (pe_call (E := fun _ _ _ => False) GTg (hr.mono (by decide)) (by rfl) gTg FTg.kp bTg .nil (passes_call L2.takes0 (fun _ _ _ _ h => h)) (pa_cons (pv 2) pa_nil)) (pa_cons (pe_call GAd (hr.mono (by decide)) (by rfl) gAd FAd.kp bAd .nil pass0 (pa_cons (pv 2) pa_nil)) pa_nil))))) (pss_one (ps_ret pe_bl)) pss_nil)
  (pss_one (ps_expr (pe_bm PySem.F.plainAttrs_list PySem.F.slot_list_append PySem.F.type_list_append mt_append (pv 2) (pa_cons (pe_call GLo (hr.mono (by decide)) (by rfl) gLo FLo.kp bLo .nil pass0 (pa_cons (pv 0) (pa_cons (pv 4) pa_nil))) pa_nil))))))
  (Evl.pss_cut (ps_if (pt_not (pt_val (pe_call GSm (hr.mono (by decide)) (by rfl) gSm FSm.kp bSm .nil pass0 (pa_cons (pe_call (E := fun _ _ _ => False) GTg (hr.mono (by decide)) (by rfl) gTg FTg.kp bTg .nil (passes_call L2.takes0 (fun _ _ _ _ h => h)) (pa_cons (pv 2) pa_nil)) (pa_cons (pe_call GAd (hr.mono (by decide)) (by rfl) gAd FAd.kp bAd .nil pass0 (pa_cons (pv 1) pa_nil)) pa_nil))))) (pss_one (ps_ret pe_bl)) pss_nil)
  (Evl.pss_cut (ps_expr (pe_bm PySem.F.plainAttrs_list PySem.F.slot_list_pop PySem.F.type_list_pop mt_popAt (pv 2) (pa_cons (pe_call GD (hr.mono (by decide)) (by rfl) gD FD.kp bD .nil pass0 (pa_cons (pv 0) (pa_cons (pe_callB call_len_seq (by rfl) T.len (by decide +kernel) (pa_cons (pv 2) pa_nil)) pa_nil))) pa_nil)))
  (Evl.pss_cut (ps_if (pt_not (pt_val (pe_call GSm (hr.mono (by decide)) (by rfl) gSm FSm.kp bSm .nil pass0 (pa_cons (pe_call (E := fun _ _ _ => False) GTg (hr.mono (by decide)) (by rfl) gTg FTg.kp bTg .nil (passes_call L2.takes0 (fun _ _ _ _ h => h)) (pa_cons (pv 2) pa_nil)) (pa_cons (pe_call GAd (hr.mono (by decide)) (by rfl) gAd FAd.kp bAd .nil pass0 (pa_cons (pv 2) pa_nil)) pa_nil))))) (pss_one (ps_ret pe_bl)) pss_nil)
  (Evl.pss_cut (ps_set (i := 5) scChg.nd rfl (Or.inl rfl) (pe_call (E := fun _ _ _ => False) GLt (hr.mono (by decide)) (by rfl) gLt FLt.kp bLt .nil (passes_call L2.takes0 (fun _ _ _ _ h => h)) (pa_cons (pv 3) (pa_cons pe_int pa_nil))))
  (Evl.pss_cut (ps_for PassesOwn.never rfl (pi_range1 (by rfl) T.range (pa_cons (pe_callB call_len_seq (by rfl) T.len (by decide +kernel) (pa_cons (pv 3) pa_nil)) pa_nil)) (pg_name (i := 6) (x := "_law_at") scChg.nd rfl (Or.inl rfl)) (pss_one (ps_asg (pe_lst (pa_cons (pe_op op_add (pe_op op_add (pe_ix ix_list (pe_ix ix_list (pv 3) (pv 6) (fun _ _ => rfl)) pe_int (fun _ _ => rfl)) pe_int) (pv 6)) (pa_cons (pe_ix ix_list (pe_ix ix_list (pv 3) (pv 6) (fun _ _ => rfl)) pe_int (fun _ _ => rfl)) pa_nil))) (pg_sub (pv 3) (pv 6) set_list))))
  (pss_one (ps_ret (pe_call GSm (hr.mono (by decide)) (by rfl) gSm FSm.kp bSm .nil pass0 (pa_cons (pe_lst (pa_cons (pv 5) (pa_cons (pe_call (E := fun _ _ _ => False) GLt (hr.mono (by decide)) (by rfl) gLt FLt.kp bLt .nil (passes_call L2.takes0 (fun _ _ _ _ h => h)) (pa_cons (pv 3) (pa_cons pe_int pa_nil))) pa_nil))) (pa_cons (pe_lst (pa_cons (pe_call GSh (hr.mono (by decide)) (by rfl) gSh FSh.kp bSh .nil pass0 (pa_cons (pe_ix ix_list (pv 1) pe_int (fun _ _ => rfl)) (pa_cons pe_int pa_nil))) (pa_cons (pe_call GSh (hr.mono (by decide)) (by rfl) gSh FSh.kp bSh .nil pass0 (pa_cons (pv 3) (pa_cons pe_int pa_nil))) pa_nil))) pa_nil)))))))))))), ?_⟩
    have hlx : xs.length = Ls.length := Paired.length hx
    obtain ⟨x0, xt, L0, Lt, exs, eLs, q0, z0, eq0, nq0, hq0, rq0⟩ : ∃ x0 xt L0 Lt, xs = x0 :: xt ∧ Ls = L0 :: Lt ∧ ∃ q0 z0, x0 = V.ref q0 ∧ G q0 = none ∧ H q0 = some (.lst z0) ∧ Rows G H z0 L0 := by
      cases hx with
      | nil => exact absurd rfl neL
      | cons h t => exact ⟨_, _, _, _, rfl, rfl, h⟩
    have g0 : Good L0 := good L0 (by rw [eLs]; exact List.mem_cons_self)
    have hal := S0.some
    have nG : ∀ {b}, G b = none → b ≠ a ∧ b ≠ l := fun {b} z => ⟨fun y => ga (by rw [← y]; exact z), fun y => gl (by rw [← y]; exact z)⟩
    refine ⟨fun σ' H' => ∃ (D D2 : Addr) (gs : List V), σ' = [some (.ref a), some (.ref p), some (.ref D), some (.ref D2), none, none, none, none] ∧ H D = none ∧ Same (upd H D (.lst [])) H' ∧ H' D = some (.lst []) ∧ (upd H D (.lst [])) D2 = none ∧ H' D2 = some (.lst gs) ∧ RowsL (upd H D (.lst [])) H' gs L0, ?_, ?_⟩
    · refine ⟨Nat.zero_le _, fun D hD => ?_⟩
      have sD := same_new (o := HO.lst ([] : List V)) hD
      rw [exs, eq0] at hp
      refine ⟨_, rfl, p, _, 0, .ref q0, rfl, rfl, SqL.of (sD _ _ hp), at_zero5, q0, rfl, ⟨_, SqL.of (sD _ _ hq0)⟩, fun D2 hD2 => ?_⟩
      refine lc_it (walk_list (xs := z0)) (fun i H' => Same (upd H D (.lst [])) H' ∧ ∃ acc, H' D2 = some (.lst acc) ∧ RowsL (upd H D (.lst [])) H' acc (L0.take i) ∧ acc.length = i ∧ V.ref D2 ∉ acc) ⟨same_new hD2, [], upd_same, by rw [List.take_zero]; exact .nil, rfl, List.not_mem_nil⟩ (fun i H' _ q => SqL.of (q.1 _ _ (sD _ _ hq0))) ?_ ?_
      · rintro i x H3 H4 hi ⟨s4, acc, a3, r3, l3, nm⟩ ⟨rfl, hxi⟩
        obtain ⟨d, hd, q, rfl, _, hq⟩ := prs_at rq0 hxi
        dsimp only [tYes]
        refine ⟨rfl, iteT ⟨_, rfl, q, _, rfl, .inr (SqT.of (s4 _ _ (sD _ _ hq))), fun u hu => ?_⟩⟩
        have su := same_new (o := HO.lst [.int d.1, .int d.2]) hu
        have nu := none_back s4 hu
        have nuD : u ≠ D2 := fun z => by
          rw [z, a3] at hu
          cases hu
        have hi2 : i < L0.length := (List.getElem?_eq_some_iff.mp hd).1
        have := g0.len
        refine ⟨acc, su _ _ a3, by rw [l3]; exact small1000 (by omega), fun b o z => ?_, _, upd_same, ?_, by rw [List.length_append, l3]; rfl, fun z => ?_⟩
        · rw [upd_ne (ne_of_none z hD2)]
          exact su _ _ (s4 _ _ z)
        · rw [List.take_add_one, hd]
          refine paired_snoc ⟨u, rfl, nu, ?_⟩ (r3.keep fun q t n e m => ?_)
          · rw [upd_ne (fun z => nm (by rw [← z]; exact m))]
            exact su _ _ e
          · rw [upd_ne nuD]
            exact upd_same
        · rcases List.mem_append.mp z with z | z
          · exact nm z
          · exact nuD (V.ref.inj (List.mem_singleton.mp z)).symm
      · rintro H3 ⟨s4, acc, a3, r3, l3, nm⟩
        rw [rq0.len, List.take_length] at r3
        exact ⟨_, _, rfl, D, D2, acc, rfl, hD, s4, s4 _ _ upd_same, hD2, a3, r3⟩
    rintro σ' H1 ⟨D, D2, gs, rfl, hD, s1, hD1, nD2, hg1, rg1⟩
    have sD := same_new (o := HO.lst ([] : List V)) hD
    have nDal := S0.ne_new hD
    have gD : G D = none := gb _ hD
    have npD : p ≠ D := ne_of_none hp hD
    have nD2D : D2 ≠ D := fun z => by rw [z, upd_same] at nD2; cases nD2
    have hDa : ∀ {c}, (upd H D (.lst [])) c = none → c ≠ a ∧ c ≠ l ∧ c ≠ D := fun {c} z => by
      have n3 : c ≠ D := fun y => by rw [y, upd_same] at z; cases z
      rw [upd_ne n3] at z
      exact ⟨(S0.ne_new z).1, (S0.ne_new z).2, n3⟩
    have back : ∀ {c}, (upd H D (.lst [])) c = none → H c = none := fun {c} z => none_back sD z
    let S : Addr → Prop := fun b => b = a ∨ b = l ∨ b = D
    have hS : ∀ b, S b → (upd G D (.lst [])) b ≠ none := fun b z => by
      by_cases y : b = D
      · rw [y, upd_same]
        exact fun w => by cases w
      · rw [upd_ne y]
        rcases z with rfl | rfl | z
        · exact ga
        · exact gl
        · exact absurd z y
    let Fr : Hp → Prop := fun H' => ∀ b o, b ≠ a → b ≠ l → b ≠ D → H1 b = some o → H' b = some o
    have lsx : ∀ {H'}, Fr H' → LsA (upd G D (.lst [])) H' xs Ls := fun f => hx.keep fun b o z e => by
      have nb : b ≠ D := ne_of_none e hD
      exact ⟨by rw [upd_ne nb]; exact z, f _ _ (nG z).1 (nG z).2 nb (s1 _ _ (sD _ _ e))⟩
    have strx : ∀ {H'}, Fr H' → Paired (StR K C S H') xs Ls := fun f => LsA.str hS (lsx f) good
    have px : ∀ {H'}, Fr H' → H' p = some (.lst xs) := fun f => f _ _ (nG gp).1 (nG gp).2 npD (s1 _ _ (sD _ _ hp))
    have gx : ∀ {H'}, Fr H' → H' D2 = some (.lst gs) := fun f => f _ _ (hDa nD2).1 (hDa nD2).2.1 (hDa nD2).2.2 hg1
    have rgx : ∀ {H'}, Fr H' → RowsL (upd H D (.lst [])) H' gs L0 := fun f => rg1.keep fun q t n e _ => f _ _ (hDa n).1 (hDa n).2.1 (hDa n).2.2 e
    have okLs : ∀ L ∈ Ls, okL (-1) 0 L := fun L hL => (good L hL).ok
    have tg : ∀ {H' : Hp} {m : Addr} {ms : List V} {Ms : List (List (Int × Int))} {Q' : VK}, H' m = some (.lst ms) → Paired (StL K C H') ms Ms → Ms.length ≤ 30 → tot Ms ≤ 900 → (∀ H2 q ys ns, Same H' H2 → H' q = none → H2 q = some (.lst ys) → Inc (-1) ns → allT Ms ns → Rows H' H2 ys (addF (sumR Ms) 0 ns) → ys.length ≤ tot Ms → Q' (.ref q) H2) → spTog K C Cs [.ref m] H' Q' (fun _ _ _ => False) :=
      fun {H' m ms Ms Q'} h1 h2 h3 h4 q => ⟨.ref m, rfl, .inr (.inr ⟨m, ms, Ms, rfl, .inl h1, by rw [Paired.length h2]; omega, h2, by omega, q⟩)⟩
    refine ⟨fun σ' H' => (∃ x4, σ' = [some (.ref a), some (.ref p), some (.ref D), some (.ref D2), x4, none, none, none]) ∧ Fr H' ∧ Strm (N + 9300) H' a l ∧ ∃ ms, H' D = some (.lst ms) ∧ Paired (StR K C S H') ms Ls, ?_, ?_⟩
    · refine ⟨_, rfl, p, rfl, ⟨_, SqL.of (px fun b o _ _ _ e => e)⟩, ?_⟩
      refine for_it (g := gName 4) (walk_list (xs := xs)) (fun j σ H' => (∃ x4, σ = [some (.ref a), some (.ref p), some (.ref D), some (.ref D2), x4, none, none, none]) ∧ Fr H' ∧ Strm (N + 300 * j) H' a l ∧ ∃ ms, H' D = some (.lst ms) ∧ Paired (StR K C S H') ms (Ls.take j)) ⟨⟨none, rfl⟩, fun b o _ _ _ e => e, (S0.but (sD.trans s1)).mono (by omega), [], hD1, by rw [List.take_zero]; exact .nil⟩ (fun i σ H' _ z => SqL.of (px z.2.1)) ?_ ?_
      · rintro j x σ H4 H5 hj ⟨⟨x4, rfl⟩, f5, S5, ms, hD5, m5⟩ ⟨rfl, hxj⟩
        obtain ⟨L, hL, hstr⟩ := prs_at (strx f5) hxj
        have gL := good L (List.mem_of_getElem? hL)
        have hj2 : j < Ls.length := (List.getElem?_eq_some_iff.mp hL).1
        have tk : tot (Ls.take j) ≤ 900 := Nat.le_trans (tot_sub (List.take_sublist j Ls)) htot
        have lk : (Ls.take j).length ≤ 30 := by rw [List.length_take]; omega
        have okk : ∀ L ∈ Ls.take j, okL (-1) 0 L := fun L hL => okLs L (List.mem_of_mem_take hL)
        have m5' : Paired (StL K C H5) ms (Ls.take j) := imp5 m5 fun _ _ q => q.stl
        refine ⟨fun σ' H' => σ' = [some (.ref a), some (.ref p), some (.ref D), some (.ref D2), some x, none, none, none] ∧ Same H5 H', ?_, ?_⟩
        · refine ⟨_, rfl, ?_⟩
          dsimp only [tNil, List.cons_append, List.nil_append]
          refine (show spTog K C Cs [.ref D] H5 _ _ from ?_)
          refine tg hD5 m5' lk tk fun H6 q ys ns s6 nq hq inc all r6 l6 => ?_
          refine ⟨_, rfl, D, ms, (Ls.take j), rfl, .inl (s6 _ _ hD5), by rw [Paired.length m5']; omega, imp5 m5' fun _ _ z => z.same s6, by omega, fun H7 q2 zs ns2 s7 nq2 hq2 inc2 all2 r7 l7 => ?_⟩
          rw [addF_same okk inc2 all2 inc all] at r7
          have ly6 : ys.length = (addF (sumR (Ls.take j)) 0 ns).length := r6.len
          refine ⟨_, _, rfl, row_eqt (n := 48) (s7 _ _ hq) hq2 (r6.keep fun _ _ _ e => s7 _ _ e) r7 (by omega), fun H8 s8 => ⟨_, rfl, iteF ⟨rfl, (s6.trans s7).trans s8⟩⟩⟩
        rintro σ' H6 ⟨rfl, s6⟩
        have f6 : Fr H6 := fun b o x y z e => s6 _ _ (f5 b o x y z e)
        have hD6 := s6 _ _ hD5
        obtain ⟨q1, q2, q3⟩ := rk_stT L
        have lL := gL.len
        have hS6 : ∀ b, S b → H6 b ≠ none := fun b z => by
          rcases z with rfl | rfl | rfl
          · exact (S5.but s6).some.1
          · exact (S5.but s6).some.2
          · rw [hD6]
            exact fun w => by cases w
        refine ⟨_, rfl, .inl ⟨rfl, _, SqL.of hD6⟩, _, rfl, _, rfl, a, l, _, S, x, stT L, rfl, S5.but s6, by omega, by omega, .inl rfl, .inr (.inl rfl), hS6, Re.keep (.same s6) _ _ hstr.re, by omega, fun H7 v' b7 r7 S7 => ?_⟩
        have hD7 := b7 _ _ nDal.1 nDal.2 hD6
        have lms : ms.length = (Ls.take j).length := Paired.length m5
        refine ⟨D, ms, v', rfl, rfl, hD7, small1000 (by omega), ⟨_, rfl⟩, fun b o x y z e => ?_, (S7.upd nDal.1 nDal.2).mono (by omega), ms ++ [v'], upd_same, ?_⟩
        · rw [upd_ne z]
          exact b7 _ _ x y (f6 b o x y z e)
        · have kp : Kp S H7 (upd H7 D (.lst (ms ++ [v']))) := fun b o n _ e => by
            rw [upd_ne (fun z => n (.inr (.inr z)))]
            exact e
          rw [List.take_add_one, hL]
          refine paired_snoc (StR.keep ⟨r7, gL.ok, hstr.bd⟩ kp) (imp5 m5 fun y M hy => (hy.keep (.same s6)).keep (Kp.trans (.but (.inl rfl) (.inr (.inl rfl)) b7) kp))
      · rintro σ H5 ⟨⟨x4, rfl⟩, f5, S5, ms, hD5, m5⟩
        rw [hlx, List.take_length] at m5
        exact ⟨⟨x4, rfl⟩, f5, S5.mono (by omega), ms, hD5, m5⟩
    rintro σ' H4 ⟨⟨x4, rfl⟩, f4, S4, ms, hD4, m4⟩
    have m4' : Paired (StL K C H4) ms Ls := imp5 m4 fun _ _ q => q.stl
    have x4' : Paired (StL K C H4) xs Ls := imp5 (strx f4) fun _ _ q => q.stl
    refine ⟨fun σ' H' => σ' = [some (.ref a), some (.ref p), some (.ref D), some (.ref D2), x4, none, none, none] ∧ Same H4 H', ?_, ?_⟩
    · refine ⟨_, rfl, ?_⟩
      dsimp only [tNil, List.cons_append, List.nil_append]
      refine (show spTog K C Cs [.ref D] H4 _ _ from ?_)
      refine tg hD4 m4' lenL htot fun H6 q ys ns s6 nq hq inc all r6 l6 => ?_
      refine ⟨_, rfl, p, xs, Ls, rfl, .inl (s6 _ _ (px f4)), by rw [Paired.length x4']; omega, imp5 x4' fun _ _ z => z.same s6, by omega, fun H7 q2 zs ns2 s7 nq2 hq2 inc2 all2 r7 l7 => ?_⟩
      rw [addF_same okLs inc2 all2 inc all] at r7
      have ly6 : ys.length = (addF (sumR Ls) 0 ns).length := r6.len
      refine ⟨_, _, rfl, row_eqt (n := 48) (s7 _ _ hq) hq2 (r6.keep fun _ _ _ e => s7 _ _ e) r7 (by omega), fun H8 s8 => ⟨_, rfl, iteF ⟨rfl, (s6.trans s7).trans s8⟩⟩⟩
    rintro σ' H5 ⟨rfl, s5⟩
    have f5 : Fr H5 := fun b o x y z e => s5 _ _ (f4 b o x y z e)
    have hD5 := s5 _ _ hD4
    have S5 := S4.but s5
    have lms : ms.length = Ls.length := Paired.length m4
    have lpos : 0 < Ls.length := List.length_pos_iff.mpr neL
    refine ⟨fun σ' H' => σ' = [some (.ref a), some (.ref p), some (.ref D), some (.ref D2), x4, none, none, none] ∧ Fr H' ∧ Strm (N + 9301) H' a l ∧ ∃ r : Nat, H' D = some (.lst (ms.eraseIdx r)) ∧ Paired (StR K C S H') (ms.eraseIdx r) (Ls.eraseIdx r), ?_, ?_⟩
    · refine ⟨_, rfl, .inl ⟨rfl, _, SqL.of hD5⟩, _, rfl, _, rfl, D, _, rfl, .inl (SqL.of hD5), a, l, _, _, rfl, S5, by omega, by omega, by omega, by omega, fun H6 r r0 r1 b6 S6 => ?_⟩
      have hD6 := b6 _ _ nDal.1 nDal.2 hD5
      have hr2 : r.toNat < ms.length := by omega
      refine ⟨D, ms, r, r.toNat, ms[r.toNat], rfl, rfl, hD6, by omega, by omega, (ixN_seq (n := ms.length) (i := r) (j := r.toNat) ?_).1, List.getElem?_eq_getElem hr2, ?_⟩
      · unfold ixN
        rw [if_pos r0, if_pos r1]
      have kp : Kp S H6 (upd H6 D (.lst (ms.eraseIdx r.toNat))) := fun b o n _ e => by
        rw [upd_ne (fun z => n (.inr (.inr z)))]
        exact e
      refine ⟨rfl, fun b o x y z e => ?_, (S6.upd nDal.1 nDal.2).mono (by omega), r.toNat, upd_same, Paired.erase _ (imp5 m4 fun y M hy => (hy.keep (.same s5)).keep (Kp.trans (.but (.inl rfl) (.inr (.inl rfl)) b6) kp))⟩
      rw [upd_ne z]
      exact b6 _ _ x y (f5 b o x y z e)
    rintro σ' H6 ⟨rfl, f6, S6, r, hD6, m6⟩
    have m6' : Paired (StL K C H6) (ms.eraseIdx r) (Ls.eraseIdx r) := imp5 m6 fun _ _ q => q.stl
    have tr : tot (Ls.eraseIdx r) ≤ 900 := Nat.le_trans (tot_sub (List.eraseIdx_sublist Ls r)) htot
    have lr : (Ls.eraseIdx r).length ≤ 30 := Nat.le_trans (List.Sublist.length_le (List.eraseIdx_sublist Ls r)) lenL
    have okr : ∀ L ∈ Ls.eraseIdx r, okL (-1) 0 L := fun L hL => okLs L ((List.eraseIdx_sublist Ls r).subset hL)
    refine ⟨fun σ' H' => σ' = [some (.ref a), some (.ref p), some (.ref D), some (.ref D2), x4, none, none, none] ∧ Same H6 H', ?_, ?_⟩
    · refine ⟨_, rfl, ?_⟩
      dsimp only [tNil, List.cons_append, List.nil_append]
      refine (show spTog K C Cs [.ref D] H6 _ _ from ?_)
      refine tg hD6 m6' lr tr fun H6a q ys ns s6a nq hq inc all r6 l6 => ?_
      refine ⟨_, rfl, D, (ms.eraseIdx r), (Ls.eraseIdx r), rfl, .inl (s6a _ _ hD6), by rw [Paired.length m6']; omega, imp5 m6' fun _ _ z => z.same s6a, by omega, fun H7a q2 zs ns2 s7a nq2 hq2 inc2 all2 r7 l7 => ?_⟩
      rw [addF_same okr inc2 all2 inc all] at r7
      have ly6 : ys.length = (addF (sumR (Ls.eraseIdx r)) 0 ns).length := r6.len
      refine ⟨_, _, rfl, row_eqt (n := 48) (s7a _ _ hq) hq2 (r6.keep fun _ _ _ e => s7a _ _ e) r7 (by omega), fun H8a s8a => ⟨_, rfl, iteF ⟨rfl, (s6a.trans s7a).trans s8a⟩⟩⟩
    rintro σ' H7 ⟨rfl, s7⟩
    have f7 : Fr H7 := fun b o x y z e => s7 _ _ (f6 b o x y z e)
    have S7 := S6.but s7
    have lat : ∀ {H' : Hp} {m : Addr} {L : List (Int × Int)} {Q' : VK}, StL K C H' (.ref m) L → L.length ≤ 1000 → (∀ H2 p xs, Same H' H2 → H' p = none → H2 p = some (.lst xs) → Rows H' H2 xs (shL 3 L) → Q' (.ref p) H2) → spLater K C Cs Cu [.ref m, .int 3] H' Q' (fun _ _ _ => False) := fun {H' m L Q'} h hl q =>
      ⟨.ref m, .int 3, some (L.map itP), none, rfl, h.cd, .inl ⟨.inl rfl, rfl⟩, (fun z => by
        rw [show stp (some (L.map itP)) = true from okL_stp h.ok] at z
        cases z), (fun _ z => by cases z), fun _ _ => ⟨L, 3, rfl, h, hl, q⟩⟩
    have l0 := g0.len
    have stl0 : StL K C H7 (.ref D2) L0 := (RowsL.str (S := fun _ => False) (fun _ h => h.elim) nD2 (gx f7) (rgx f7) (by omega) g0.ok g0.sml).stl
    refine ⟨fun σ' H' => ∃ F fs, σ' = [some (.ref a), some (.ref p), some (.ref D), some (.ref D2), x4, some (.ref F), none, none] ∧ Same H7 H' ∧ H7 F = none ∧ H' F = some (.lst fs) ∧ Rows H7 H' fs (shL 3 L0), ?_, ?_⟩
    · refine ⟨_, rfl, ?_⟩
      dsimp only [tCons, tNil, tC, List.cons_append, List.nil_append]
      refine (show spLater K C Cs Cu [.ref D2, .int 3] H7 _ _ from ?_)
      refine lat stl0 (by omega) fun H8 F fs s8 nF hF r8 => ⟨F, fs, rfl, s8, nF, hF, r8⟩
    rintro σ' H8 ⟨F, fs, rfl, s8, nF, hF, rF⟩
    have f8 : Fr H8 := fun b o x y z e => s8 _ _ (f7 b o x y z e)
    have S8 := S7.but s8
    have hg8 := gx f8
    have rg8 := rgx f8
    have lgs : gs.length = L0.length := rg8.len
    have b8 : But2 a l H H8 := fun b o x y e => f8 _ _ x y (ne_of_none e hD) (s1 _ _ (sD _ _ e))
    have nF2 : F ≠ D2 := fun z => by rw [z, gx f7] at nF; cases nF
    refine ⟨fun σ' H' => (∃ x6, σ' = [some (.ref a), some (.ref p), some (.ref D), some (.ref D2), x4, some (.ref F), x6, none]) ∧ Strm (N + 9301) H' a l ∧ (∀ b o, b ≠ D2 → H8 b = some o → H' b = some o) ∧ ∃ zs, H' D2 = some (.lst zs) ∧ RowsL (upd H D (.lst [])) H' zs (bump 0 L0), ?_, ?_⟩
    · refine ⟨_, rfl, D2, _, rfl, .inl (SqL.of hg8), gs.length, rfl, by omega, by omega, ?_⟩
      refine for_it (g := gName 6) (walk_range (lo := 0) (n := gs.length)) (fun j σ H' => (∃ x6, σ = [some (.ref a), some (.ref p), some (.ref D), some (.ref D2), x4, some (.ref F), x6, none]) ∧ Strm (N + 9301) H' a l ∧ (∀ b o, b ≠ D2 → H8 b = some o → H' b = some o) ∧ ∃ zs, H' D2 = some (.lst zs) ∧ RowsL (upd H D (.lst [])) H' zs (midL j L0)) ⟨⟨none, rfl⟩, S8.mono (by omega), fun _ _ _ e => e, gs, hg8, rg8⟩ (fun _ _ _ _ _ => trivial) ?_ ?_
      · rintro j x σ H9 H10 hj ⟨⟨x6, rfl⟩, S10, f10, zs, hz, rz⟩ ⟨rfl, rfl⟩
        obtain ⟨d, hd⟩ : ∃ d, L0[j]? = some d := ⟨_, List.getElem?_eq_getElem (by omega)⟩
        obtain ⟨q, hq, hq0', hqv⟩ := rz.at (midL_at hd)
        have lz := rz.len
        have lm := midL_len (L := L0) (j := j) (by omega)
        have atj : atI zs (0 + (j : Int)) = some (.ref q) := at_of (j := j) (by omega) hq
        refine ⟨_, rfl, _, rfl, D2, zs, _, .ref q, rfl, rfl, SqL.of hz, atj, q, _, 0, .int d.1, rfl, rfl, SqL.of hqv, rfl, _, _, rfl, rfl, _, rfl, _, _, rfl, rfl, ?_⟩
        refine ⟨_, rfl, _, rfl, D2, zs, _, .ref q, rfl, rfl, SqL.of hz, atj, q, _, 1, .int d.2, rfl, rfl, SqL.of hqv, rfl, two_fit, fun c hc => ?_⟩
        have s9 := same_new (o := HO.lst [V.int (d.1 + 5 + (0 + (j : Int))), V.int d.2]) hc
        have nc2 : c ≠ D2 := fun z => by rw [z, hz] at hc; cases hc
        have nca := S10.ne_new hc
        have hc8 : H8 c = none := by
          cases e : H8 c with
          | none => rfl
          | some o =>
            rw [f10 c o nc2 e] at hc
            cases hc
        have hcd : (upd H D (.lst [])) c = none := by
          have hcD : c ≠ D := fun z => by
            have := f10 D _ nD2D.symm (s8 _ _ (s7 _ _ hD6))
            rw [z, this] at hc
            cases hc
          rw [upd_ne hcD]
          exact b8.fresh S8 hc8
        have nrow : ∀ {u x y}, V.ref u ∈ zs → H10 u = some (.lst [.int x, .int y]) → u ≠ D2 := fun {u x y} m e z => by
          rw [z, hz] at e
          cases e
          simp at m
        have n2 := hDa nD2
        refine ⟨_, rfl, _, rfl, D2, zs, _, j, rfl, rfl, s9 _ _ hz, by rw [Int.zero_add]; exact Evl.ixN_nat (by omega), ?_⟩
        refine ⟨⟨_, rfl⟩, (S10.but s9).upd n2.1 n2.2.1, fun b o n e => ?_, zs.set j (.ref c), upd_same, ?_⟩
        · rw [upd_ne n]
          exact s9 _ _ (f10 _ _ n e)
        · rw [← midL_set hd]
          refine RowsL.set hcd ?_ j (rz.keep fun q' t n e m => ?_)
          · rw [upd_ne nc2, upd_same]
            show some (HO.lst [V.int (d.1 + 5 + (0 + (j : Int))), V.int d.2]) = some (HO.lst [V.int (d.1 + 5 + (j : Int)), V.int d.2])
            rw [Int.zero_add]
          · by_cases z : q' = D2
            · exfalso
              obtain ⟨i, hi⟩ := List.getElem?_of_mem m
              obtain ⟨d', _, u, e1, _, e2⟩ := prs_at rz hi
              cases e1
              exact nrow m e2 z
            · rw [upd_ne z]
              exact s9 _ _ e
      · rintro σ H9 ⟨⟨x6, rfl⟩, S9, f9, zs, hz, rz⟩
        refine ⟨⟨x6, rfl⟩, S9, f9, zs, hz, ?_⟩
        have e : midL gs.length L0 = bump 0 L0 := by
          unfold midL
          rw [lgs, List.take_length, List.drop_length, List.append_nil]
        rw [← e]
        exact rz
    rintro σ' H9 ⟨⟨x6, rfl⟩, S9, f9, zs, hz, rz⟩
    have okB : okL (-1) 0 (bump 0 L0) := bump_ok g0.ok (Int.le_refl _) (by decide)
    have lB : (bump 0 L0).length = L0.length := bump_len
    have smB : ∀ d ∈ bump 0 L0, Sml d := fun d hd => by
      obtain ⟨q, hq, e1, e2, e3⟩ := bump_mem d hd
      obtain ⟨h1, h2, h3, h4⟩ := g0.bd q hq
      exact ⟨by omega, by omega, by omega, by omega⟩
    have stB : StL K C H9 (.ref D2) (bump 0 L0) := (RowsL.str (S := fun _ => False) (fun _ h => h.elim) nD2 hz rz (by omega) okB smB).stl
    have hD2H : H D2 = none := back nD2
    have b9 : But2 a l H H9 := fun b o x y e => f9 _ _ (ne_of_none e hD2H) (b8 _ _ x y e)
    have hp9 : H9 p = some (.lst xs) := b9 _ _ (nG gp).1 (nG gp).2 hp
    have st0 : StL K C H9 (.ref q0) L0 := (Rows.str (K := K) (C := C) (S := fun b => b = a ∨ b = l) (fun b z => by
      rcases z with rfl | rfl
      · exact ga
      · exact gl) nq0 (b9 _ _ (nG nq0).1 (nG nq0).2 hq0) (rq0.keep fun q t n e => b9 _ _ (nG n).1 (nG n).2 e) (by omega) g0.ok g0.sml).stl
    have hF9 := f9 _ _ nF2 hF
    have rF9 : Rows H7 H9 fs (shL 3 L0) := rF.keep fun q t n e => f9 _ _ (fun z => by rw [z, gx f7] at n; cases n) e
    refine ⟨_, rfl, _, rfl, ?_⟩
    dsimp only [tCons, tNil, tC, List.cons_append, List.nil_append]
    refine (show spLater K C Cs Cu [.ref D2, .int 3] H9 _ _ from ?_)
    refine lat stB (by omega) fun H10 u us s10 nu hu r10 => ⟨two_fit, fun A1 hA1 => ?_⟩
    have s11 := same_new (o := HO.lst [V.ref F, V.ref u]) hA1
    have s911 := s10.trans s11
    have hp11 := s911 _ _ hp9
    rw [exs, eq0] at hp11
    refine ⟨_, rfl, p, _, 0, .ref q0, rfl, rfl, SqL.of hp11, at_zero5, .ref q0, L0, 3, rfl, st0.same s911, by omega, fun H12 y ys s12 ny hy r12 => ⟨_, rfl, .ref D2, bump 0 L0, 3, rfl, stB.same (s911.trans s12), by omega, fun H13 v vs s13 nv hv r13 => ⟨two_fit, fun A2 hA2 => ?_⟩⟩⟩
    have s14 := same_new (o := HO.lst [V.ref y, V.ref v]) hA2
    have t1 := ((s911.trans s12).trans s13).trans s14
    have t2 := ((s11.trans s12).trans s13).trans s14
    have t3 := (s12.trans s13).trans s14
    have t4 := s13.trans s14
    refine ⟨_, _, rfl, eqt_l (t3 _ _ upd_same) upd_same (.cons (row_eqt (n := 47) (L := shL 3 L0) (t1 _ _ hF9) (t4 _ _ hy) (rF9.keep fun _ _ _ e => t1 _ _ e) (r12.keep fun _ _ _ e => t4 _ _ e) (by rw [len_shL]; omega)) (.cons (row_eqt (n := 47) (L := shL 3 (bump 0 L0)) (t2 _ _ hu) (s14 _ _ hv) (r10.keep fun _ _ _ e => t2 _ _ e) (r13.keep fun _ _ _ e => s14 _ _ e) (by rw [len_shL]; omega)) .nil)) (by show 2 ≤ 1000000; decide), fun H15 s15 => ?_⟩
    have t5 := t1.trans s15
    exact fin H15 (fun b o x y e => t5 _ _ (b9 _ _ x y e)) ((S9.but t5).mono (by omega))
end
end K05

set_option Elab.async false
set_option linter.all false
set_option maxRecDepth 100000
set_option maxHeartbeats 8000000
namespace K05
open PySem PySem.Spec PyProof.Rows L2 Own LamX
/-! _law_p_tried(lambda: ..) -/
/-- a def of the text whose code object stands at c -/
structure FunC (K : PySem.W.Frag) (x qual : Str) (st : Stmt) (f : Addr) (fd : FuncData) (c : Addr) : Prop where
  ex : ∃ (oc : Value) (od : Option Addr) (kV doc pm : Value) (an : Option Addr) (ct : Value) (osl : Array (Option Value)),
    fd = PySem.W.fnOf x qual (defArgs st) (defBody st) (defScope st) .none kV doc pm an (.ref c) ct ∧ K.lookup f = some ⟨oc, od, .func fd, osl⟩ ∧ PySem.W.codeIn K (.ref c) qual = true
  kp : PySem.W.keepIn K (.ref f) = true
theorem FunC.ok {P : Program} {w : World} {K : PySem.W.Frag} {mg : Str → Option Value} {base : Heap} {x qual : Str} {st : Stmt} {f c : Addr} {fd : FuncData} {N ps : List Str} {k : Nat} {sp : Sp} (F : FunC K x qual st f fd c) (S : FnScope N ps (defScope st)) (len : ∀ vs H Q E, sp vs H Q E → vs.length = ps.length)
    (hbody : ∀ (A : Around) (outer : List Env) (s : Shared) (H : Hp) (vs : List V) (Q : VK) (E : XK), Room k (A.deeper (envOfC qual (defScope st) s.heap.objs.size f (.ref c))) → sp vs H Q E →
      ∃ t, PSs (cxOf CX0 P w K mg base N qual (defScope st) f (.ref c) A outer s H E).nox (defBody st) t ∧ t { nx := fun _ H' => Q .non H', rt := Q } (L2.start N vs) H) : FnOk P w K mg base CX0 (k + 1) f fd ps sp := by
  obtain ⟨oc, od, kV, doc, pm, an, ct, osl, rfl, lk, hcd⟩ := F.ex
  refine fn_of lk hcd S len fun A outer s H vs Q E hr hsp => ?_
  obtain ⟨t, h, q⟩ := hbody A outer s H vs Q E hr hsp
  exact ⟨t, h.nox, q⟩
theorem FunC.binds {K : PySem.W.Frag} {x qual : Str} {st : Stmt} {f c : Addr} {fd : FuncData} {ps : List Str} (F : FunC K x qual st f fd c)
    (h : ∀ (kV doc pm : Value) (an : Option Addr) (cdv ct : Value) (us : List Value), us.length = ps.length → bindArgs (PySem.W.fnOf x qual (defArgs st) (defBody st) (defScope st) .none kV doc pm an cdv ct) ⟨us, []⟩ = pure (ps.zip us)) : Binds K fd ps [] := by
  obtain ⟨oc, od, kV, doc, pm, an, ct, osl, rfl, lk, hcd⟩ := F.ex
  exact .all (h kV doc pm an (.ref c) ct)
/-- the error classes, as the law's clauses ask for them; only two ever come -/
structure Cau (K : PySem.W.Frag) (mg : Str → Option Value) (Ch Cs Ct Cu Cp : Addr) : Prop where
  gh : mg "BadHouse" = some (.ref Ch)
  gs : mg "BadSteps" = some (.ref Cs)
  gt : mg "BadTurn" = some (.ref Ct)
  gu : mg "BadTurns" = some (.ref Cu)
  gp : mg "BadPlan" = some (.ref Cp)
  xs : XfC K Cs
  xu : XfC K Cu
  ns : PySem.W.findIn K (.ref Cs) "steps" = some none
  nu : PySem.W.findIn K (.ref Cu) "turns" = some none
  sh : PySem.W.exmOne K (.ref Cs) (.ref Ch) = some false
  ss : PySem.W.exmOne K (.ref Cs) (.ref Cs) = some true
  uh : PySem.W.exmOne K (.ref Cu) (.ref Ch) = some false
  us : PySem.W.exmOne K (.ref Cu) (.ref Cs) = some false
  ut : PySem.W.exmOne K (.ref Cu) (.ref Ct) = some false
  uu : PySem.W.exmOne K (.ref Cu) (.ref Cu) = some true
/-- a new pair is told -/
def PrT (Q : VK) (H : Hp) (s : Str) (v : V) : Prop := [V.str s, v].length ≤ sizeLine ∧ ∀ t, H t = none → Q (.ref t) (upd H t (.tup [.str s, v]))
def ETrd (Cs Cu : Addr) (Q : VK) : XK := fun cls d H =>
  (cls = .ref Cs ∧ ∃ x v, d = some x ∧ H x = some (.xd [("steps", v)]) ∧ PrT Q H "steps" v) ∨ (cls = .ref Cu ∧ ∃ x v, d = some x ∧ H x = some (.xd [("turns", v)]) ∧ PrT Q H "turns" v)
def TTrd (Cs Cu : Addr) : (XK → Hp → VK → Prop) → Hp → VK → Prop := fun tl H Q => tl (ETrd Cs Cu Q) H fun v H' => PrT Q H' "told" v
abbrev NTrd : List Str := ["_law_ask", "e"]
theorem scTrd : FnScope NTrd ["_law_ask"] (defScope s_l_p_tried) := ⟨rfl, rfl, rfl, by decide +kernel, rfl, by decide +kernel, by decide +kernel⟩
theorem trd_gives {X : Cx} {Ch Cs Ct Cu Cp g : Addr} {cdg : Value} {q : Str} (C : Cau X.K X.mg Ch Cs Ct Cu Cp) : GivesTo X NTrd "_law_p_tried" (defScope s_l_p_tried) g cdg (defBody s_l_p_tried) "_law_ask" q (TTrd Cs Cu) := by
  intro f c' s H Q tl act hc h
  refine ⟨_, pss_one (ps_tryAll (X := (cxOf C8.CX0 X.prog X.w X.K X.mg X.base NTrd "_law_p_tried" (defScope s_l_p_tried) g cdg X.A X.stack s H C8.E0).nox)
      (tb := fun W D σ H => ∃ Ech : XK, (∀ cls d σ' H', Ech cls d H' → W cls d σ' H') ∧ σ[0]? = some (some (.ref f)) ∧ H c' = some (CodeO c' q) ∧ tl Ech H fun v H' => PrT D.rt H' "told" v)
      rfl rfl scTrd.nd L2.takes0 (fun W pn xe tk _ => ?_)
      (.cons (i := 1) ⟨by rfl, by decide, .inl C.gh⟩ rfl rfl (fun a o k d pn hz hf => pss_one ps_never)
      (.cons (i := 1) ⟨by rfl, by decide, .inl C.gs⟩ rfl rfl (fun a o k d pn hz hf => pss_one (ps_ret (pe_tup (pa_cons pe_str (pa_cons (pe_xf C.xs C.ns hz hf (pv 1)) pa_nil)))))
      (.cons (i := 1) ⟨by rfl, by decide, .inl C.gt⟩ rfl rfl (fun a o k d pn hz hf => pss_one ps_never)
      (.cons (i := 1) ⟨by rfl, by decide, .inl C.gu⟩ rfl rfl (fun a o k d pn hz hf => pss_one (ps_ret (pe_tup (pa_cons pe_str (pa_cons (pe_xf C.xu C.nu hz hf (pv 1)) pa_nil)))))
      (.cons (i := 1) ⟨by rfl, by decide, .inl C.gp⟩ rfl rfl (fun a o k d pn hz hf => pss_one ps_never) .nil)))))), ?_⟩
  · refine ⟨fun pins s' σ H' D I h' => ?_⟩
    obtain ⟨Ech, hW, h1, h2, h3⟩ := h'
    have hp : ∀ p1 p2, PE ((cxOf C8.CX0 X.prog X.w X.K X.mg X.base NTrd "_law_p_tried" (defScope s_l_p_tried) g cdg X.A X.stack s H C8.E0).nox.tr pn xe) (.Call (.Name "_law_ask" p1) [] [] p2) (fun σZ HZ Q => σZ[0]? = some (some (.ref f)) ∧ HZ c' = some (CodeO c' q) ∧ tl Ech HZ Q) := fun p1 p2 => act W pn xe Ech p1 p2 tk hW
    exact PSs.run (pss_one (ps_ret (pe_tup (pa_cons pe_str (pa_cons (hp _ _) pa_nil))))) pins s' σ H' D I ⟨h1, h2, h3⟩
  · refine ⟨ETrd Cs Cu Q, fun cls d σ' H' he => ?_, rfl, hc, h⟩
    have lk : ∀ (n : Str) (v : V), List.lookup n [(n, v)] = some v := fun n v => by simp [List.lookup]
    intro hlen
    have hlen : σ'.length = 2 := hlen
    have hs : ∀ a, (σ'.set 1 (some (V.ref a)))[1]? = some (some (V.ref a)) := fun a => by
      match σ', hlen with
      | [_, _], _ => rfl
    rcases he with ⟨rfl, x, v, rfl, hx, k⟩ | ⟨rfl, x, v, rfl, hx, k⟩
    · refine ⟨false, C.sh, fun z => (by cases z), fun _ => ⟨true, C.ss, fun _ a ha => ?_, fun z => (by cases z)⟩⟩
      exact ⟨_, hs a, rfl, rfl, x, _, v, rfl, hx, lk _ v, k⟩
    · refine ⟨false, C.uh, fun z => (by cases z), fun _ => ⟨false, C.us, fun z => (by cases z), fun _ => ⟨false, C.ut, fun z => (by cases z), fun _ => ⟨true, C.uu, fun _ a ha => ?_, fun z => (by cases z)⟩⟩⟩⟩
      exact ⟨_, hs a, rfl, rfl, x, _, v, rfl, hx, lk _ v, k⟩
end K05

set_option Elab.async false
set_option linter.all false
set_option maxRecDepth 100000
set_option maxHeartbeats 8000000
namespace K05
open PySem PySem.Spec PyProof.Rows L2 Own LamX
/-! what comes of any thing as a list of steps: one is refused, or all are added -/
/-- one thing, its code, its steps, and that it is the same as itself -/
def It5 (K : PySem.W.Frag) (C : Addr) (S : Addr → Prop) (H : Hp) (D : Nat) (x : V) (c : Option (List (Option (List V)))) : Prop :=
  (∀ H', Kp S H H' → Cd K C H' x c) ∧ (stp c = true → ∃ L, StR K C S H x L) ∧ ∃ t, Re K C S H t x ∧ dpT t ≤ D
theorem ReL.cds {K : PySem.W.Frag} {C : Addr} {S : Addr → Prop} {H : Hp} {D : Nat} : ∀ {ts : List Tr} {xs : List V}, ReL K C S H ts xs → dpL ts ≤ D → ∃ cs, Paired (It5 K C S H D) xs cs
  | [], xs, h, _ => by
    unfold ReL at h
    subst h
    exact ⟨[], .nil⟩
  | t :: ts, xs, h, hd => by
    unfold ReL at h
    obtain ⟨x, r, rfl, h1, h2⟩ := h
    have hd : max (dpT t) (dpL ts) ≤ D := hd
    obtain ⟨c, hc1, hc2⟩ := h1.cdK
    obtain ⟨cs, hcs⟩ := ReL.cds h2 (show dpL ts ≤ D by omega)
    exact ⟨c :: cs, .cons ⟨hc1, hc2, t, h1, by omega⟩ hcs⟩
/-- no list, or a list of things each of which is steps or not -/
theorem Re.lists5 {K : PySem.W.Frag} {C : Addr} {S : Addr → Prop} {H : Hp} {t : Tr} {v : V} (h : Re K C S H t v) : (∀ H', Kp S H H' → SqR K C H' v none) ∨ ∃ (p : Addr) (xs : List V) (cs : List (Option (List (Option (List V))))), v = .ref p ∧ xs.length ≤ 1000 ∧ (∀ H', Kp S H H' → Sqs H' p xs) ∧ Paired (It5 K C S H (dpT t)) xs cs := by
  cases t with
  | leaf u =>
    refine .inl fun H' kp => ?_
    have h' := Re.keep kp _ _ h
    unfold Re at h'
    rcases h'.2 with h | h | ⟨x, dx, p, q, rfl, h1, h2, h3, _⟩ | ⟨p, kvs, rfl, h1, _⟩
    · exact .inl ⟨.inl h.1, rfl⟩
    · exact .inl ⟨.inr (.inl h), rfl⟩
    · exact .inl ⟨.inr (.inr ⟨x, rfl, dx, p, q, h1, h2, h3⟩), rfl⟩
    · exact .inr (.inl ⟨p, kvs, rfl, h1, rfl⟩)
  | seq ts =>
    unfold Re at h
    obtain ⟨p, xs, rfl, h1, n1, h2, h3⟩ := h
    obtain ⟨cs, hcs⟩ := h2.cds (D := dpT (.seq ts)) (Nat.le_succ _)
    exact .inr ⟨p, xs, cs, rfl, h3, fun H' kp => h1.imp (kp _ _ n1 nt_lst) (kp _ _ n1 nt_tup), hcs⟩
/-- the first that is no steps, or none is -/
theorem first5 {F : V → Option (List (Option (List V))) → Prop} : ∀ {xs : List V} {cs : List (Option (List (Option (List V))))}, Paired F xs cs → (∀ c ∈ cs, stp c = true) ∨ ∃ (i : Nat) (x : V), xs[i]? = some x ∧ cs[i]?.map stp = some false ∧ ∀ (j : Nat) (c : Option (List (Option (List V)))), j < i → cs[j]? = some c → stp c = true
  | _, _, .nil => .inl fun c h => by cases h
  | x :: xs, c :: cs, .cons _ t => by
    cases e : stp c with
    | false => exact .inr ⟨0, x, rfl, congrArg some e, fun j c z => absurd z (Nat.not_lt_zero j)⟩
    | true =>
      rcases first5 t with h | ⟨i, y, h1, h2, h3⟩
      · refine .inl fun d hd => ?_
        rcases List.mem_cons.mp hd with rfl | hd
        · exact e
        · exact h d hd
      · refine .inr ⟨i + 1, y, h1, h2, fun j d z hd => ?_⟩
        cases j with
        | zero =>
          cases hd
          exact e
        | succ j => exact h3 j d (Nat.lt_of_succ_lt_succ z) hd
theorem all5 {K : PySem.W.Frag} {C : Addr} {S : Addr → Prop} {H : Hp} {D : Nat} : ∀ {xs : List V} {cs : List (Option (List (Option (List V))))}, Paired (It5 K C S H D) xs cs → (∀ c ∈ cs, stp c = true) → ∃ Ls, Paired (StR K C S H) xs Ls
  | _, _, .nil, _ => ⟨[], .nil⟩
  | _, _, .cons h t, g => by
    obtain ⟨L, hL⟩ := h.2.1 (g _ List.mem_cons_self)
    obtain ⟨Ls, hLs⟩ := all5 t fun c hc => g c (List.mem_cons_of_mem _ hc)
    exact ⟨L :: Ls, .cons hL hLs⟩
theorem tot_str {K : PySem.W.Frag} {C : Addr} {S : Addr → Prop} {H : Hp} : ∀ {xs : List V} {Ls : List (List (Int × Int))}, Paired (StR K C S H) xs Ls → tot Ls ≤ 1000 * xs.length
  | _, _, .nil => Nat.le_refl _
  | x :: xs, L :: Ls, .cons h t => by
    obtain ⟨_, ys, _, _, _, h1, h2, _⟩ := h.rows
    have := tot_str t
    show L.length + tot Ls ≤ 1000 * (xs.length + 1)
    omega
/-- what comes of it -/
def Oc (K : PySem.W.Frag) (C : Addr) (S : Addr → Prop) (H : Hp) (D : Nat) (v : V) : V ⊕ List (List (Int × Int)) → Prop
  | .inl x => (∃ t, Re K C S H t x ∧ dpT t ≤ D) ∧ ((x = v ∧ ∀ H', Kp S H H' → SqR K C H' v none) ∨ ∃ (p : Addr) (xs : List V) (cs : List (Option (List (Option (List V))))) (i : Nat), v = .ref p ∧ xs.length ≤ 1000 ∧ (∀ H', Kp S H H' → Sqs H' p xs ∧ Paired (Cd K C H') xs cs) ∧ (∀ (j : Nat) (c : Option (List (Option (List V)))), j < i → cs[j]? = some c → stp c = true) ∧ cs[i]?.map stp = some false ∧ xs[i]? = some x)
  | .inr Ls => tot Ls ≤ 1000000 ∧ (∀ L ∈ Ls, okL (-1) 0 L) ∧ ∃ (p : Addr) (xs : List V), v = .ref p ∧ xs.length ≤ 1000 ∧ ∀ H', Kp S H H' → Sqs H' p xs ∧ Paired (StL K C H') xs Ls
theorem Re.oc {K : PySem.W.Frag} {C : Addr} {S : Addr → Prop} {H : Hp} {t : Tr} {v : V} (h : Re K C S H t v) : ∃ o, Oc K C S H (dpT t) v o := by
  rcases h.lists5 with g | ⟨p, xs, cs, rfl, hl, hs, hcs⟩
  · exact ⟨.inl v, ⟨t, h, Nat.le_refl _⟩, .inl ⟨rfl, g⟩⟩
  · rcases first5 hcs with g | ⟨i, x, h1, h2, h3⟩
    · obtain ⟨Ls, hLs⟩ := all5 hcs g
      refine ⟨.inr Ls, Nat.le_trans (tot_str hLs) (by omega), fun L hL => ?_, p, xs, rfl, hl, fun H' kp => ⟨hs H' kp, imp5 hLs fun _ _ q => (q.keep kp).stl⟩⟩
      obtain ⟨i, hi⟩ := List.getElem?_of_mem hL
      obtain ⟨x, _, q⟩ := prs_at' hLs hi
      exact q.ok
    · obtain ⟨c, _, q⟩ := prs_at hcs h1
      exact ⟨.inl x, q.2.2, .inr ⟨p, xs, cs, i, rfl, hl, fun H' kp => ⟨hs H' kp, imp5 hcs fun _ _ q => q.1 H' kp⟩, h3, h2, h1⟩⟩
section
variable {K : PySem.W.Frag} {C Cs : Addr} {S : Addr → Prop} {H H' : Hp} {D : Nat} {v x : V} {Ls : List (List (Int × Int))} {Q : VK} {E : XK}
theorem Oc.tog_no (h : Oc K C S H D v (.inl x)) (kp : Kp S H H') (out : Out H' E Cs "steps" x) : spTog K C Cs [v] H' Q E := by
  rcases h.2 with ⟨rfl, h⟩ | ⟨p, xs, cs, i, rfl, hl, hs, h1, h2, h3⟩
  · exact ⟨_, rfl, .inl ⟨h H' kp, out⟩⟩
  · exact ⟨_, rfl, .inr (.inl ⟨p, xs, cs, i, x, rfl, (hs H' kp).1, hl, (hs H' kp).2, h1, h2, h3, out⟩)⟩
theorem Oc.tog_ok (h : Oc K C S H D v (.inr Ls)) (kp : Kp S H H') (q : ∀ H2 p xs ns, Same H' H2 → H' p = none → H2 p = some (.lst xs) → Inc (-1) ns → allT Ls ns → Rows H' H2 xs (addF (sumR Ls) 0 ns) → xs.length ≤ tot Ls → Q (.ref p) H2) : spTog K C Cs [v] H' Q E := by
  obtain ⟨ht, _, p, xs, rfl, hl, hs⟩ := h
  exact ⟨_, rfl, .inr (.inr ⟨p, xs, Ls, rfl, (hs H' kp).1, hl, (hs H' kp).2, ht, q⟩)⟩
/-- a pair that tells what came of it -/
def OR (o : V ⊕ List (List (Int × Int))) (H : Hp) (t : Addr) : Prop := match o with
  | .inl x => H t = some (.tup [.str "steps", x])
  | .inr Ls => ∃ (p : Addr) (xs : List V) (ns : List Int) (G : Hp), H t = some (.tup [.str "told", .ref p]) ∧ H p = some (.lst xs) ∧ Inc (-1) ns ∧ allT Ls ns ∧ Rows G H xs (addF (sumR Ls) 0 ns) ∧ xs.length ≤ tot Ls
theorem OR.ext {o : V ⊕ List (List (Int × Int))} {t : Addr} (h : OR o H t) (e : Ext H H') : OR o H' t := by
  cases o with
  | inl x => exact e _ _ h nt_tup
  | inr Ls =>
    obtain ⟨p, xs, ns, G, h1, h2, h3, h4, h5, h6⟩ := h
    exact ⟨p, xs, ns, G, e _ _ h1 nt_tup, e _ _ h2 nt_lst, h3, h4, h5.keep fun q u _ z => e _ _ z nt_tup, h6⟩
theorem Oc.due (o : V ⊕ List (List (Int × Int))) (h : Oc K C S H D v o) (kp : Kp S H H') (q : ∀ H2 t, Same H' H2 → H' t = none → OR o H2 t → Q (.ref t) H2) : spDue K C [v] H' Q E := by
  cases o with
  | inl x =>
    rcases h.2 with ⟨rfl, h⟩ | ⟨p, xs, cs, i, rfl, hl, hs, h1, h2, h3⟩
    · exact ⟨_, rfl, .inl ⟨h H' kp, fun H2 t z => q H2 t z.1 z.2.1 z.2.2⟩⟩
    · exact ⟨_, rfl, .inr (.inl ⟨p, xs, cs, i, x, rfl, (hs H' kp).1, hl, (hs H' kp).2, h1, h2, h3, fun H2 t z => q H2 t z.1 z.2.1 z.2.2⟩)⟩
  | inr Ls =>
    obtain ⟨ht, _, p, xs, rfl, hl, hs⟩ := h
    exact ⟨_, rfl, .inr (.inr ⟨p, xs, Ls, rfl, (hs H' kp).1, hl, (hs H' kp).2, ht, fun H2 t p xs ns z n1 h1 h2 h3 h4 h5 => q H2 t z.1 z.2.1 ⟨p, xs, ns, H', z.2.2, h1, h2, h3, h4, h5⟩⟩)⟩
/-- two such pairs are the same -/
theorem OR.eqt {o : V ⊕ List (List (Int × Int))} {n : Nat} {t u : Addr} (hn : D ≤ n + 2) (h : Oc K C S H D v o) (kp : Kp S H H') (a : OR o H' t) (b : OR o H' u) : Eqt K C (n + 3) H' (.ref t) (.ref u) := by
  cases o with
  | inl x =>
    obtain ⟨⟨tx, hx, hd⟩, _⟩ := h
    exact eqt_u a b (.cons (eqt_atom rfl) (.cons (Re.eqt tx x _ (Nat.le_trans hd hn) (Re.keep kp _ _ hx)) .nil)) (by show 2 ≤ 1000; decide)
  | inr Ls =>
    obtain ⟨p, xs, ns, G, h1, h2, h3, h4, h5, h6⟩ := a
    obtain ⟨p', xs', ns', G', g1, g2, g3, g4, g5, g6⟩ := b
    obtain ⟨ht, okk, _⟩ := h
    rw [addF_same okk g3 g4 h3 h4] at g5
    have e : xs.length = (addF (sumR Ls) 0 ns).length := h5.len
    exact eqt_u h1 g1 (.cons (eqt_atom rfl) (.cons (row_eqt (n := n) h2 g2 h5 g5 (by omega)) .nil)) (by show 2 ≤ 1000; decide)
theorem ask_tog {T : List (Addr × Str)} {Cu : Addr} {σ : L2.St} {tb : XK → TE} (o : V ⊕ List (List (Int × Int))) (hT : Tabs T H') (h : Oc K C S H D v o) (kp : Kp S H H') (htb : ∀ (E : XK) (H1 : Hp) (Q' : VK), spTog K C Cs [v] H1 Q' E → tb E σ H1 Q')
    (k : ∀ H2 t, Ext H' H2 → Tabs T H2 → Nw H' t → OR o H2 t → Q (.ref t) H2) : tLam T (TTrd Cs Cu) tb σ H' Q := by
  cases o with
  | inl x =>
    refine ⟨hT, fun H1 e1 T1 => htb _ H1 _ (Oc.tog_no h (kp.trans (.ext e1)) fun d H2 nd sm hd => .inl ⟨rfl, d, x, rfl, hd, two_fit, fun t ht => ?_⟩)⟩
    have s3 := sm.trans (same_new (o := HO.tup [V.str "steps", x]) ht)
    exact k _ t (e1.trans (.of s3)) (T1.ext s3) ((nw ht).back (e1.trans (.of sm))) upd_same
  | inr Ls =>
    refine ⟨hT, fun H1 e1 T1 => htb _ H1 _ (Oc.tog_ok h (kp.trans (.ext e1)) fun H2 p xs ns s2 np hp i1 a1 r1 l1 => ⟨two_fit, fun t ht => ?_⟩)⟩
    have st := same_new (o := HO.tup [V.str "told", V.ref p]) ht
    have s3 := s2.trans st
    exact k _ t (e1.trans (.of s3)) (T1.ext s3) ((nw ht).back (e1.trans (.of s2))) ⟨p, xs, ns, H1, upd_same, st _ _ hp, i1, a1, r1.keep fun q u _ z => st _ _ z, l1⟩
end
/-- what comes of a thing as steps, later by another -/
inductive Lo where
  | st
  | tu
  | ok (L : List (Int × Int)) (k : Int)
def OcL (K : PySem.W.Frag) (C : Addr) (S : Addr → Prop) (H : Hp) (D : Nat) (v u : V) : Lo → Prop
  | .st => (∃ t, Re K C S H t v ∧ dpT t ≤ D) ∧ ∃ c o, (∀ H', Kp S H H' → Cd K C H' v c ∧ SqR K C H' u o) ∧ stp c = false
  | .tu => (∃ t, Re K C S H t u ∧ dpT t ≤ D) ∧ ∃ c o, (∀ H', Kp S H H' → Cd K C H' v c ∧ SqR K C H' u o) ∧ stp c = true ∧ isN u = false
  | .ok L k => u = .int k ∧ isN u = true ∧ L.length ≤ 1000 ∧ ∀ H', Kp S H H' → StL K C H' v L
theorem Re.ocL {K : PySem.W.Frag} {C : Addr} {S : Addr → Prop} {H : Hp} {D : Nat} {t t' : Tr} {v u : V} (h : Re K C S H t v) (g : Re K C S H t' u) (hd : dpT t ≤ D) (gd : dpT t' ≤ D) : ∃ o, OcL K C S H D v u o := by
  obtain ⟨c, hc1, hc2⟩ := h.cdK
  obtain ⟨o, ho, _⟩ := g.prK
  have both : ∀ H', Kp S H H' → Cd K C H' v c ∧ SqR K C H' u o := fun H' kp => ⟨hc1 H' kp, (ho H' kp).1⟩
  cases e : stp c with
  | false => exact ⟨.st, ⟨t, h, hd⟩, c, o, both, e⟩
  | true =>
    cases n : isN u with
    | false => exact ⟨.tu, ⟨t', g, gd⟩, c, o, both, e, n⟩
    | true =>
      obtain ⟨L, hL⟩ := hc2 e
      obtain ⟨_, ys, _, _, _, h1, h2, _⟩ := hL.rows
      exact ⟨.ok L (iv u), (isN_iv n).1, n, by omega, fun H' kp => (hL.keep kp).stl⟩
section
variable {K : PySem.W.Frag} {C Cs Cu : Addr} {S : Addr → Prop} {H H' : Hp} {D : Nat} {v u : V} {Q : VK} {E : XK}
def OL (v u : V) (o : Lo) (H : Hp) (t : Addr) : Prop := match o with
  | .st => H t = some (.tup [.str "steps", v])
  | .tu => H t = some (.tup [.str "turns", u])
  | .ok L k => ∃ (p : Addr) (xs : List V) (G : Hp), H t = some (.tup [.str "told", .ref p]) ∧ H p = some (.lst xs) ∧ Rows G H xs (shL k L)
theorem OL.ext {o : Lo} {t : Addr} (h : OL v u o H t) (e : Ext H H') : OL v u o H' t := by
  cases o with
  | st => exact e _ _ h nt_tup
  | tu => exact e _ _ h nt_tup
  | ok L k =>
    obtain ⟨p, xs, G, h1, h2, h3⟩ := h
    exact ⟨p, xs, G, e _ _ h1 nt_tup, e _ _ h2 nt_lst, h3.keep fun q u _ z => e _ _ z nt_tup⟩
theorem OL.eqt {o : Lo} {n : Nat} {t s : Addr} (hn : D ≤ n + 2) (h : OcL K C S H D v u o) (kp : Kp S H H') (a : OL v u o H' t) (b : OL v u o H' s) : Eqt K C (n + 3) H' (.ref t) (.ref s) := by
  cases o with
  | st =>
    obtain ⟨⟨tx, hx, hd⟩, _⟩ := h
    exact eqt_u a b (.cons (eqt_atom rfl) (.cons (Re.eqt tx v _ (Nat.le_trans hd hn) (Re.keep kp _ _ hx)) .nil)) (by show 2 ≤ 1000; decide)
  | tu =>
    obtain ⟨⟨tx, hx, hd⟩, _⟩ := h
    exact eqt_u a b (.cons (eqt_atom rfl) (.cons (Re.eqt tx u _ (Nat.le_trans hd hn) (Re.keep kp _ _ hx)) .nil)) (by show 2 ≤ 1000; decide)
  | ok L k =>
    obtain ⟨p, xs, G, h1, h2, h3⟩ := a
    obtain ⟨p', xs', G', g1, g2, g3⟩ := b
    have hl := h.2.2.1
    exact eqt_u h1 g1 (.cons (eqt_atom rfl) (.cons (row_eqt (n := n) h2 g2 h3 g3 (by rw [len_shL]; omega)) .nil)) (by show 2 ≤ 1000; decide)
theorem OcL.due (o : Lo) (h : OcL K C S H D v u o) (kp : Kp S H H') (q : ∀ H2 t, Same H' H2 → H' t = none → OL v u o H2 t → Q (.ref t) H2) : spLDue K C [v, u] H' Q E := by
  cases o with
  | st =>
    obtain ⟨_, c, o, both, e⟩ := h
    exact ⟨v, u, c, o, rfl, (both H' kp).1, (both H' kp).2, fun _ H2 t z => q H2 t z.1 z.2.1 z.2.2, (fun z => by rw [e] at z; cases z), fun z => by rw [e] at z; cases z⟩
  | tu =>
    obtain ⟨_, c, o, both, e, n⟩ := h
    exact ⟨v, u, c, o, rfl, (both H' kp).1, (both H' kp).2, (fun z => by rw [e] at z; cases z), fun _ _ H2 t z => q H2 t z.1 z.2.1 z.2.2, fun _ z => by rw [n] at z; cases z⟩
  | ok L k =>
    obtain ⟨rfl, n, hl, st⟩ := h
    have s := okL_stp (st H' kp).ok
    exact ⟨v, .int k, some (L.map itP), none, rfl, (st H' kp).cd, .inl ⟨.inl rfl, rfl⟩, (fun z => by rw [show stp (some (L.map itP)) = true from s] at z; cases z), (fun _ z => by rw [n] at z; cases z), fun _ _ => ⟨L, k, rfl, st H' kp, hl, fun H2 t p xs z n1 h1 h2 => q H2 t z.1 z.2.1 ⟨p, xs, H', z.2.2, h1, h2⟩⟩⟩
theorem ask_lat {T : List (Addr × Str)} {σ : L2.St} {tb : XK → TE} (o : Lo) (hT : Tabs T H') (h : OcL K C S H D v u o) (kp : Kp S H H') (htb : ∀ (E : XK) (H1 : Hp) (Q' : VK), spLater K C Cs Cu [v, u] H1 Q' E → tb E σ H1 Q')
    (k : ∀ H2 t, Ext H' H2 → Tabs T H2 → Nw H' t → OL v u o H2 t → Q (.ref t) H2) : tLam T (TTrd Cs Cu) tb σ H' Q := by
  refine ⟨hT, fun H1 e1 T1 => htb _ H1 _ ?_⟩
  have kp1 := kp.trans (.ext e1)
  cases o with
  | st =>
    obtain ⟨_, c, o, both, e⟩ := h
    refine ⟨v, u, c, o, rfl, (both H1 kp1).1, (both H1 kp1).2, fun _ d H2 nd sm hd => .inl ⟨rfl, d, v, rfl, hd, two_fit, fun t ht => ?_⟩, (fun z => by rw [e] at z; cases z), fun z => by rw [e] at z; cases z⟩
    have s3 := sm.trans (same_new (o := HO.tup [V.str "steps", v]) ht)
    exact k _ t (e1.trans (.of s3)) (T1.ext s3) ((nw ht).back (e1.trans (.of sm))) upd_same
  | tu =>
    obtain ⟨_, c, o, both, e, n⟩ := h
    refine ⟨v, u, c, o, rfl, (both H1 kp1).1, (both H1 kp1).2, (fun z => by rw [e] at z; cases z), fun _ _ d H2 nd sm hd => .inr ⟨rfl, d, u, rfl, hd, two_fit, fun t ht => ?_⟩, fun _ z => by rw [n] at z; cases z⟩
    have s3 := sm.trans (same_new (o := HO.tup [V.str "turns", u]) ht)
    exact k _ t (e1.trans (.of s3)) (T1.ext s3) ((nw ht).back (e1.trans (.of sm))) upd_same
  | ok L i =>
    obtain ⟨rfl, n, hl, st⟩ := h
    have s := okL_stp (st H1 kp1).ok
    refine ⟨v, .int i, some (L.map itP), none, rfl, (st H1 kp1).cd, .inl ⟨.inl rfl, rfl⟩, (fun z => by rw [show stp (some (L.map itP)) = true from s] at z; cases z), (fun _ z => by rw [n] at z; cases z), fun _ _ => ⟨L, i, rfl, st H1 kp1, hl, fun H2 p xs s2 n1 h1 h2 => ⟨two_fit, fun t ht => ?_⟩⟩⟩
    have st2 := same_new (o := HO.tup [V.str "told", V.ref p]) ht
    have s3 := s2.trans st2
    exact k _ t (e1.trans (.of s3)) (T1.ext s3) ((nw ht).back (e1.trans (.of s2))) ⟨p, xs, H1, upd_same, st2 _ _ h1, h2.keep fun q u _ z => st2 _ _ z⟩
end
end K05

set_option Elab.async false
set_option linter.all false
set_option maxRecDepth 100000
set_option maxHeartbeats 8000000
namespace K05
open PySem PySem.Spec PyProof.Rows L2 Own LamX
/-! _law_p_tried(lambda: f(..)), any f that may refuse -/
section
variable {X : Cx} {T : List (Addr × Str)} {g c Pt Ch Cs Ct Cu Cp f0 : Addr} {fd fd0 : FuncData} {x : Str} {sp : Sp} {params : Arguments} {psx ksx : List Str} {scope : Scope} {e1 : Expr} {es : List Expr} {kws : List Keyword} {ta : TA} {p lpos pos p2 pos2 : Pos}
/-- _law_p_tried(lambda: f(a, ..)) -/
theorem pe_trdP (F : Fun X.K "_law_p_tried" "_law_p_tried" s_l_p_tried g fd) (gm : X.mg "_law_p_tried" = some (.ref g)) (bM : L2.Binds X.K fd ["_law_ask"] []) (CA : Cau X.K X.mg Ch Cs Ct Cu Cp) (g0 : X.mg x = some (.ref f0)) (kp0 : PySem.W.keepIn X.K (.ref f0) = true) (b0 : L2.Binds X.K fd0 psx [])
    (G : FnOk X.prog X.w X.K X.mg X.base (L2.CX X.prog X.w) 5 f0 fd0 psx sp)
    (TB : TabB X.base X.mg c Pt) (hcode : X.env.code = .ref c) (hmT : (Pt, X.env.qual ++ "<lambda>") ∈ T) (hu : ∀ q ∈ T, q.1 = Pt → q.2 = X.env.qual ++ "<lambda>") (hr : Room 8 X.A) (L : LamS X.env.scope scope) (hg : Gl X "_law_p_tried") (hdef : defaultsOf params X.env = ([], []))
    (hbind : ∀ (q : Str) (cl : List (Str × Addr)) (pm cv ctv : Value), bindArgs (PySem.W.kla_fn "<lambda>" q params (.Call (.Name x p2) (e1 :: es) [] pos2) scope cl pm cv ctv) ⟨[], []⟩ = pure [])
    (hbody : ∀ (A : Around) (outer : List Env) (s : Shared) (H : Hp) (E : XK) (f c' : Addr), Gl (lamCx X A outer s H E scope f c') x ∧ PA (lamCx X A outer s H E scope f c') (e1 :: es) ta)
    (hdb : (x == ("__debug__" : Str)) = false := by decide)
    (hst : ∀ env : Env, starEach (e1 :: es) env = (false, eval e1 env) :: starEach es env := by intro _; rfl) (hpl : ∀ env : Env, (backTo pos2 (starEach es env)).any (·.1) = false := by intro _; rfl) :
    PE X (.Call (.Name "_law_p_tried" p) [.Lambda params (.Call (.Name x p2) (e1 :: es) [] pos2) scope lpos] [] pos) (tLam T (TTrd Cs Cu) fun E => tCall sp [] E ta) := by
  obtain ⟨oc, od, kV, doc, pm, an, cdv, ct, osl, rfl, lk, hcd⟩ := F.ex
  refine pe_lamcall (k := 6) (Ng := NTrd) hg gm F.kp lk hcd bM scTrd rfl (by exact Or.inl rfl) (trd_gives CA) TB hcode hmT hu hr L hdef hbind fun A outer s H E f c' hr2 => ?_
  obtain ⟨h1, h2⟩ := hbody A outer s H E f c'
  exact pe_call (X := lamCx X A outer s H E scope f c') G (hr2.mono (by decide)) h1 g0 kp0 b0 .nil (passes_call (X := lamCx X A outer s H E scope f c') (takes_of rfl rfl rfl rfl) fun _ _ _ _ h => h) h2 hdb (hst _) (hpl _)
/-- _law_p_tried(lambda: f(k = v, ..)) -/
theorem pe_trdK (F : Fun X.K "_law_p_tried" "_law_p_tried" s_l_p_tried g fd) (gm : X.mg "_law_p_tried" = some (.ref g)) (bM : L2.Binds X.K fd ["_law_ask"] []) (CA : Cau X.K X.mg Ch Cs Ct Cu Cp) (g0 : X.mg x = some (.ref f0)) (kp0 : PySem.W.keepIn X.K (.ref f0) = true) (kb : KBn X.K fd0 psx 0 ksx (fun _ ws => ws.reverse) (fun _ ws => ws.reverse))
    (G : FnOk X.prog X.w X.K X.mg X.base (L2.CX X.prog X.w) 5 f0 fd0 psx sp)
    (TB : TabB X.base X.mg c Pt) (hcode : X.env.code = .ref c) (hmT : (Pt, X.env.qual ++ "<lambda>") ∈ T) (hu : ∀ q ∈ T, q.1 = Pt → q.2 = X.env.qual ++ "<lambda>") (hr : Room 8 X.A) (L : LamS X.env.scope scope) (hg : Gl X "_law_p_tried") (hdef : defaultsOf params X.env = ([], []))
    (hbind : ∀ (q : Str) (cl : List (Str × Addr)) (pm cv ctv : Value), bindArgs (PySem.W.kla_fn "<lambda>" q params (.Call (.Name x p2) [] kws pos2) scope cl pm cv ctv) ⟨[], []⟩ = pure [])
    (hbody : ∀ (A : Around) (outer : List Env) (s : Shared) (H : Hp) (E : XK) (f c' : Addr), Gl (lamCx X A outer s H E scope f c') x ∧ PK (lamCx X A outer s H E scope f c') kws ta)
    (hdb : (x == ("__debug__" : Str)) = false := by decide)
    (hall : ∀ env : Env, (backToKw pos2 (keywordEach kws env)).all (·.1.isSome) = true := by intro _; rfl) (hks : ∀ env : Env, (backToKw pos2 (keywordEach kws env)).filterMap (·.1) = ksx)
    (hpl : ∀ env : Env, ((backTo pos2 (starEach [] env)).any (·.1) || (backToKw pos2 (keywordEach kws env)).any (·.1.isNone)) = false := by intro _; rfl) :
    PE X (.Call (.Name "_law_p_tried" p) [.Lambda params (.Call (.Name x p2) [] kws pos2) scope lpos] [] pos) (tLam T (TTrd Cs Cu) fun E => tCallK0 ksx.length sp (fun _ ws => ws.reverse) E ta) := by
  obtain ⟨oc, od, kV, doc, pm, an, cdv, ct, osl, rfl, lk, hcd⟩ := F.ex
  refine pe_lamcall (k := 6) (Ng := NTrd) hg gm F.kp lk hcd bM scTrd rfl (by exact Or.inl rfl) (trd_gives CA) TB hcode hmT hu hr L hdef hbind fun A outer s H E f c' hr2 => ?_
  obtain ⟨h1, h2⟩ := hbody A outer s H E f c'
  exact pe_callK0 (X := lamCx X A outer s H E scope f c') G (hr2.mono (by decide)) h1 g0 kp0 kb (passes_call (X := lamCx X A outer s H E scope f c') (takes_of rfl rfl rfl rfl) fun _ _ _ _ h => h) h2 (hall _) (hks _) hdb (hpl _)
end
end K05

set_option Elab.async false
set_option linter.all false
set_option maxRecDepth 100000
set_option maxHeartbeats 8000000
namespace K05
open PySem PySem.Spec PyProof.Rows L2 Own LamX
/-! _law_refused_right -/
theorem choose5 {K : PySem.W.Frag} {C : Addr} {S : Addr → Prop} {H : Hp} {B : Tr → Prop} : ∀ {ys : List V}, (∀ y ∈ ys, ∃ t, B t ∧ Re K C S H t y) → ∃ ts, (∀ t ∈ ts, B t) ∧ ReL K C S H ts ys
  | [], _ => ⟨[], (fun t ht => by cases ht), by unfold ReL; rfl⟩
  | y :: ys, h => by
    obtain ⟨t, b, n⟩ := h y List.mem_cons_self
    obtain ⟨ts, bs, ns⟩ := choose5 fun z hz => h z (List.mem_cons_of_mem _ hz)
    refine ⟨t :: ts, fun u hu => ?_, ?_⟩
    · rcases List.mem_cons.mp hu with rfl | hu
      · exact b
      · exact bs u hu
    · unfold ReL
      exact ⟨y, ys, rfl, n, ns⟩
/-- a thing in a heap, not too great -/
def Itm (K : PySem.W.Frag) (C : Addr) (S : Addr → Prop) (H : Hp) (x : V) : Prop := ∃ t, Bn 43 58000 47 t ∧ Re K C S H t x
theorem Itm.keep {K : PySem.W.Frag} {C : Addr} {S : Addr → Prop} {H H' : Hp} {x : V} (h : Itm K C S H x) (k : Kp S H H') : Itm K C S H' x := by
  obtain ⟨t, b, r⟩ := h
  exact ⟨t, b, Re.keep k _ _ r⟩
theorem ReL.set5 {K : PySem.W.Frag} {C : Addr} {S S' : Addr → Prop} {H : Hp} (e : ∀ b, S' b → S b) : ∀ (ts : List Tr) (xs : List V), ReL K C S H ts xs → ReL K C S' H ts xs
  | [], xs, h => by
    unfold ReL at h ⊢
    exact h
  | t :: ts, xs, h => by
    unfold ReL at h ⊢
    obtain ⟨x, r, e1, h1, h2⟩ := h
    exact ⟨x, r, e1, Re.set (fun b o n _ z => n (e b z)) _ _ h1, ReL.set5 e ts r h2⟩
theorem dp_at : ∀ {ts : List Tr} {i : Nat} {t : Tr}, ts[i]? = some t → dpT t ≤ dpL ts
  | [], _, _, h => by cases h
  | u :: ts, 0, t, h => by
    cases h
    show dpT u ≤ max (dpT u) (dpL ts)
    omega
  | u :: ts, i + 1, t, h => by
    have := dp_at (ts := ts) (i := i) h
    show dpT t ≤ max (dpT u) (dpL ts)
    omega
theorem OR.head {o : V ⊕ List (List (Int × Int))} {H : Hp} {t : Addr} (r : OR o H t) : ∃ s v, H t = some (.tup [.str s, v]) := by
  cases o with
  | inl x => exact ⟨_, _, r⟩
  | inr Ls =>
    obtain ⟨p, xs, ns, G, h1, _⟩ := r
    exact ⟨_, _, h1⟩
theorem OL.head {o : Lo} {H : Hp} {v u : V} {t : Addr} (r : OL v u o H t) : ∃ s w, H t = some (.tup [.str s, w]) := by
  cases o with
  | st => exact ⟨_, _, r⟩
  | tu => exact ⟨_, _, r⟩
  | ok L k =>
    obtain ⟨p, xs, G, h1, _⟩ := r
    exact ⟨_, _, h1⟩
theorem row_off {H G : Hp} {p q t1 : Addr} {xs : List V} {L : List (Int × Int)} {s : Str} {v : V} (hq : H q = some (.lst [.ref t1])) (h1 : H t1 = some (.tup [.str s, v])) (hp : H p = some (.lst xs)) (r : Rows G H xs L) : p ≠ q := fun z => by
  rw [z, hq] at hp
  cases hp
  cases r with
  | cons h t =>
    obtain ⟨u, e, _, z⟩ := h
    cases e
    rw [h1] at z
    cases z
theorem OR.off {o : V ⊕ List (List (Int × Int))} {H : Hp} {t q t1 : Addr} {s : Str} {v : V} {o' : HO} (r : OR o H t) (hq : H q = some (.lst [.ref t1])) (h1 : H t1 = some (.tup [.str s, v])) : OR o (upd H q o') t := by
  have nt : ∀ {b u}, H b = some (.tup u) → b ≠ q := fun e z => by rw [z, hq] at e; cases e
  cases o with
  | inl x =>
    have r : H t = some (.tup [.str "steps", x]) := r
    show (upd H q o') t = some (.tup [.str "steps", x])
    rw [upd_ne (nt r)]
    exact r
  | inr Ls =>
    obtain ⟨p, xs, ns, G, g1, g2, g3, g4, g5, g6⟩ := r
    refine ⟨p, xs, ns, G, ?_, ?_, g3, g4, g5.keep fun u w _ z => ?_, g6⟩
    · rw [upd_ne (nt g1)]
      exact g1
    · rw [upd_ne (row_off hq h1 g2 g5)]
      exact g2
    · rw [upd_ne (nt z)]
      exact z
theorem OL.off {o : Lo} {H : Hp} {w u : V} {t q t1 : Addr} {s : Str} {v : V} {o' : HO} (r : OL w u o H t) (hq : H q = some (.lst [.ref t1])) (h1 : H t1 = some (.tup [.str s, v])) : OL w u o (upd H q o') t := by
  have nt : ∀ {b u}, H b = some (.tup u) → b ≠ q := fun e z => by rw [z, hq] at e; cases e
  cases o with
  | st =>
    have r : H t = some (.tup [.str "steps", w]) := r
    show (upd H q o') t = some (.tup [.str "steps", w])
    rw [upd_ne (nt r)]
    exact r
  | tu =>
    have r : H t = some (.tup [.str "turns", u]) := r
    show (upd H q o') t = some (.tup [.str "turns", u])
    rw [upd_ne (nt r)]
    exact r
  | ok L k =>
    obtain ⟨p, xs, G, g1, g2, g3⟩ := r
    refine ⟨p, xs, G, ?_, ?_, g3.keep fun u w _ z => ?_⟩
    · rw [upd_ne (nt g1)]
      exact g1
    · rw [upd_ne (row_off hq h1 g2 g3)]
      exact g2
    · rw [upd_ne (nt z)]
      exact z
def spRf (K : PySem.W.Frag) (C : Addr) (T0 : List (Addr × Str)) : Sp := fun vs H Q _ => ∃ (a l p : Addr) (N : Int) (G : Hp) (xs : List V) (Ls : List (List (Int × Int))), vs = [.ref a, .ref p] ∧ Strm N H a l ∧ 0 ≤ N ∧ N + 3000000 ≤ 1000000000 ∧ G a ≠ none ∧ G l ≠ none ∧ (∀ b, H b = none → G b = none) ∧ G p = none ∧ H p = some (.lst xs) ∧ LsA G H xs Ls ∧ (∀ L ∈ Ls, Good L) ∧ Ls.length ≤ 30 ∧ Tabs T0 H ∧
  ∀ H', But3 a l H H' → Tabs T0 H' → Strm (N + 3000000) H' a l → Q (.bl true) H'
abbrev NRef : List Str := ["_law_stream_here", "_law_lists", "_law_some", "_law_k", "_law_given", "_law_whole", "_law_found", "_law_one", "_law_odd"]
theorem scRef : FnScope NRef ["_law_stream_here", "_law_lists"] (defScope s_l_refused_right) := ⟨rfl, rfl, rfl, by decide +kernel, rfl, by decide +kernel, by decide +kernel⟩
abbrev qRef : Str := ("_law_refused_right" : Str) ++ ".<locals>." ++ "<lambda>"
section
variable {P : Program} {w : World} {K : PySem.W.Frag} {mg : Str → Option Value} {base : Heap} {C : Addr}
theorem ok_ref {T0 : List (Addr × Str)} {f fLo fD fP fBe fO fDu fLD fLt fSm fTg fTr Ch Cs Ct Cu Cp c Pt : Addr} {fd fdLo fdD fdP fdBe fdO fdDu fdLD fdLt fdSm fdTg fdTr : FuncData} (F : FunC K "_law_refused_right" "_law_refused_right" s_l_refused_right f fd c) (T : Bt mg)
    (FD : Fun K "_law_draw" "_law_draw" sDraw fD fdD) (gD : mg "_law_draw" = some (.ref fD)) (bD : Binds K fdD ["_law_stream_here", "_law_many"] [])
    (FP : Fun K "_law_pick" "_law_pick" sPick fP fdP) (gP : mg "_law_pick" = some (.ref fP)) (bP : Binds K fdP ["_law_stream_here", "_law_things"] [])
    (FBe : Fun K "_law_p_bent" "_law_p_bent" s_l_p_bent fBe fdBe) (gBe : mg "_law_p_bent" = some (.ref fBe)) (bBe : Binds K fdBe ["_law_stream_here", "_law_steps"] []) (GBe : FnOk P w K mg base CX0 10 fBe fdBe ["_law_stream_here", "_law_steps"] (spBent K C))
    (FO : Fun K "_law_p_odd" "_law_p_odd" s_l_p_odd fO fdO) (gO : mg "_law_p_odd" = some (.ref fO)) (bO : Binds K fdO ["_law_stream_here"] []) (GO : FnOk P w K mg base CX0 8 fO fdO ["_law_stream_here"] (spOdd K C))
    (FLo : Fun K "_law_loose" "_law_loose" sLoose fLo fdLo) (gLo : mg "_law_loose" = some (.ref fLo)) (bLo : Binds K fdLo ["_law_stream_here", "_law_thing"] []) (GLo : FnOk P w K mg base CX0 50 fLo fdLo ["_law_stream_here", "_law_thing"] (spLo K C 48))
    (FDu : Fun K "_law_due" "_law_due" s_l_due fDu fdDu) (gDu : mg "_law_due" = some (.ref fDu)) (bDu : Binds K fdDu ["_law_lists"] []) (GDu : FnOk P w K mg base CX0 3 fDu fdDu ["_law_lists"] (spDue K C))
    (FLD : Fun K "_law_later_due" "_law_later_due" s_l_later_due fLD fdLD) (gLD : mg "_law_later_due" = some (.ref fLD)) (bLD : Binds K fdLD ["_law_steps", "_law_turns"] []) (GLD : FnOk P w K mg base CX0 3 fLD fdLD ["_law_steps", "_law_turns"] (spLDue K C))
    (FLt : Fun K "later" "later" s_later fLt fdLt) (gLt : mg "later" = some (.ref fLt)) (bLt : Binds K fdLt ["steps", "turns"] []) (GLt : FnOk P w K mg base (L2.CX P w) 5 fLt fdLt ["steps", "turns"] (spLater K C Cs Cu))
    (FTg : Fun K "together" "together" s_together fTg fdTg) (gTg : mg "together" = some (.ref fTg)) (bTg : Binds K fdTg ["lists"] []) (GTg : FnOk P w K mg base (L2.CX P w) 5 fTg fdTg ["lists"] (spTog K C Cs))
    (FSm : Fun K "_law_same" "_law_same" sSame fSm fdSm) (gSm : mg "_law_same" = some (.ref fSm)) (bSm : Binds K fdSm ["_law_found", "_law_due_here"] []) (GSm : FnOk P w K mg base CX0 52 fSm fdSm ["_law_found", "_law_due_here"] (spSame K C 50))
    (FTr : Fun K "_law_p_tried" "_law_p_tried" s_l_p_tried fTr fdTr) (gTr : mg "_law_p_tried" = some (.ref fTr)) (bTr : Binds K fdTr ["_law_ask"] []) (CA : Cau K mg Ch Cs Ct Cu Cp)
    (TB : TabB base mg c Pt) (hmT : (Pt, qRef) ∈ T0) (hu : ∀ q ∈ T0, q.1 = Pt → q.2 = qRef) :
    FnOk P w K mg base CX0 54 f fd ["_law_stream_here", "_law_lists"] (spRf K C T0) := by
  have GP : FnOk P w K mg base CX0 2 fP fdP ["_law_stream_here", "_law_things"] spPick := ok_pick FP T FD gD bD
  have GD : FnOk P w K mg base CX0 1 fD fdD ["_law_stream_here", "_law_many"] spDraw := ok_draw FD T
  have kLt := kb_later FLt
  have kTg := kb_tog FTg
  refine F.ok scRef (fun vs H Q E h => ?_) (fun A outer s H vs Q E hr h => ?_)
  · obtain ⟨a, l, p, N, G, xs, Ls, rfl, _⟩ := h
    rfl
  · obtain ⟨a, l, p, N, G, xs, Ls, rfl, S0, hN0, hN1, ga, gl, gb, gp, hp, hx, good, lenL, hT, fin⟩ := h
    refine ⟨_, (Evl.pss_cut (ps_set (i := 2) scRef.nd rfl (Or.inl rfl) (pe_callTy (call_listK (K := K) rfl) (by rfl) T.list (by decide +kernel) (pa_cons (pv 1) pa_nil)))
  (Evl.pss_cut (ps_for PassesOwn.never rfl (pi_range1 (by rfl) T.range (pa_cons (pe_op op_add pe_int (pe_call GD (hr.mono (by decide)) (by rfl) gD FD.kp bD .nil pass0 (pa_cons (pv 0) (pa_cons pe_int pa_nil)))) pa_nil)) (pg_name (i := 3) (x := "_law_k") scRef.nd rfl (Or.inl rfl)) (pss_one (ps_expr (pe_bm PySem.F.plainAttrs_list PySem.F.slot_list_insert PySem.F.type_list_insert mt_insert (pv 2) (pa_cons (pe_call GD (hr.mono (by decide)) (by rfl) gD FD.kp bD .nil pass0 (pa_cons (pv 0) (pa_cons (pe_op op_add (pe_callB call_len_seq (by rfl) T.len (by decide +kernel) (pa_cons (pv 2) pa_nil)) pe_int) pa_nil))) (pa_cons (pe_call GBe (hr.mono (by decide)) (by rfl) gBe FBe.kp bBe .nil pass0 (pa_cons (pv 0) (pa_cons (pe_call GP (hr.mono (by decide)) (by rfl) gP FP.kp bP .nil pass0 (pa_cons (pv 0) (pa_cons (pe_op op_cat (pe_lst (pa_cons (pe_lst pa_nil) pa_nil)) (pv 1)) pa_nil))) pa_nil))) pa_nil))))))
  (Evl.pss_cut (ps_asg (pe_tup (pa_cons (pe_call GLo (hr.mono (by decide)) (by rfl) gLo FLo.kp bLo .nil pass0 (pa_cons (pv 0) (pa_cons (pv 2) pa_nil))) (pa_cons (pe_call GO (hr.mono (by decide)) (by rfl) gO FO.kp bO .nil pass0 (pa_cons (pv 0) pa_nil)) pa_nil))) (pg_tup rfl (pgs_cons (pg_name (i := 4) (x := "_law_given") scRef.nd rfl (Or.inr rfl)) (pgs_cons (pg_name (i := 5) (x := "_law_whole") scRef.nd rfl (Or.inr rfl)) pgs_nil))))
  (pss_cons (ps_set (i := 6) scRef.nd rfl (Or.inl rfl) (pe_lst (pa_cons (pe_trdP FTr gTr bTr CA gTg FTg.kp bTg GTg TB rfl hmT hu (hr.mono (by decide)) (lamS_by (by show lamSB (defScope s_l_refused_right) _ = true; decide +kernel)) (by rfl) (by rfl) (fun _ _ _ _ _ => rfl) (fun _ _ _ _ _ _ _ => ⟨by rfl, (pa_cons (pv 4) pa_nil)⟩)) pa_nil)))
  (pss_cons (ps_expr (pe_bm PySem.F.plainAttrs_list PySem.F.slot_list_append PySem.F.type_list_append mt_append (pv 6) (pa_cons (pe_trdK FTr gTr bTr CA gTg FTg.kp kTg GTg TB rfl hmT hu (hr.mono (by decide)) (lamS_by (by show lamSB (defScope s_l_refused_right) _ = true; decide +kernel)) (by rfl) (by rfl) (fun _ _ _ _ _ => rfl) (fun _ _ _ _ _ _ _ => ⟨by rfl, (pk_cons (pv 5) pk_nil)⟩) (hks := by intro _; rfl)) pa_nil)))
  (Evl.pss_cut (ps_if (pt_not (pt_val (pe_call GSm (hr.mono (by decide)) (by rfl) gSm FSm.kp bSm .nil pass0 (pa_cons (pv 6) (pa_cons (pe_lst (pa_cons (pe_call GDu (hr.mono (by decide)) (by rfl) gDu FDu.kp bDu .nil pass0 (pa_cons (pv 4) pa_nil)) (pa_cons (pe_call GDu (hr.mono (by decide)) (by rfl) gDu FDu.kp bDu .nil pass0 (pa_cons (pv 5) pa_nil)) pa_nil))) pa_nil))))) (pss_one (ps_ret pe_bl)) pss_nil)
  (Evl.pss_cut (ps_for PassesOwn.never rfl (pi_or (pi_list (pv 4)) (pi_tup (pv 4))) (pg_name (i := 7) (x := "_law_one") scRef.nd rfl (Or.inr rfl)) (Evl.pss_cut (ps_set (i := 8) scRef.nd rfl (Or.inr rfl) (pe_call GO (hr.mono (by decide)) (by rfl) gO FO.kp bO .nil pass0 (pa_cons (pv 0) pa_nil)))
  (pss_cons (ps_set (i := 6) scRef.nd rfl (Or.inl rfl) (pe_lst (pa_cons (pe_trdP FTr gTr bTr CA gLt FLt.kp bLt GLt TB rfl hmT hu (hr.mono (by decide)) (lamS_by (by show lamSB (defScope s_l_refused_right) _ = true; decide +kernel)) (by rfl) (by rfl) (fun _ _ _ _ _ => rfl) (fun _ _ _ _ _ _ _ => ⟨by rfl, (pa_cons (pv 7) (pa_cons (pv 8) pa_nil))⟩)) pa_nil)))
  (pss_cons (ps_expr (pe_bm PySem.F.plainAttrs_list PySem.F.slot_list_append PySem.F.type_list_append mt_append (pv 6) (pa_cons (pe_trdK FTr gTr bTr CA gLt FLt.kp kLt GLt TB rfl hmT hu (hr.mono (by decide)) (lamS_by (by show lamSB (defScope s_l_refused_right) _ = true; decide +kernel)) (by rfl) (by rfl) (fun _ _ _ _ _ => rfl) (fun _ _ _ _ _ _ _ => ⟨by rfl, (pk_cons pe_int (pk_cons (pv 7) pk_nil))⟩) (hks := by intro _; rfl)) pa_nil)))
  (pss_one (ps_if (pt_not (pt_val (pe_call GSm (hr.mono (by decide)) (by rfl) gSm FSm.kp bSm .nil pass0 (pa_cons (pv 6) (pa_cons (pe_lst (pa_cons (pe_call GLD (hr.mono (by decide)) (by rfl) gLD FLD.kp bLD .nil pass0 (pa_cons (pv 7) (pa_cons (pv 8) pa_nil))) (pa_cons (pe_call GLD (hr.mono (by decide)) (by rfl) gLD FLD.kp bLD .nil pass0 (pa_cons (pv 7) (pa_cons pe_int pa_nil))) pa_nil))) pa_nil))))) (pss_one (ps_ret pe_bl)) pss_nil))))))
  (pss_one (ps_ret pe_bl))))))))), ?_⟩
    have hlx : xs.length = Ls.length := Paired.length hx
    have hal := S0.some
    have nG : ∀ {b}, G b = none → b ≠ a ∧ b ≠ l := fun {b} z => ⟨fun y => ga (by rw [← y]; exact z), fun y => gl (by rw [← y]; exact z)⟩
    refine ⟨fun σ' H' => ∃ (D : Addr), σ' = [some (.ref a), some (.ref p), some (.ref D), none, none, none, none, none, none] ∧ H D = none ∧ Same H H' ∧ H' D = some (.lst xs), ?_, ?_⟩
    · exact ⟨_, rfl, p, xs, rfl, .inl (SqL.of hp), fun D hD => ⟨D, rfl, hD, same_new hD, upd_same⟩⟩
    rintro σ' H1 ⟨D, rfl, hD, s1, hD1⟩
    have S1 := S0.but s1
    have nDal := S0.ne_new hD
    let S : Addr → Prop := fun b => b = a ∨ b = l ∨ b = D
    have hS : ∀ b, S b → (upd G D (.lst [])) b ≠ none := fun b z => by
      by_cases y : b = D
      · rw [y, upd_same]
        exact fun w => by cases w
      · rw [upd_ne y]
        rcases z with rfl | rfl | z
        · exact ga
        · exact gl
        · exact absurd z y
    have lsx : ∀ {H'}, But2 a l H H' → LsA (upd G D (.lst [])) H' xs Ls := fun f => hx.keep fun b o z e => by
      have nb : b ≠ D := ne_of_none e hD
      exact ⟨by rw [upd_ne nb]; exact z, f _ _ (nG z).1 (nG z).2 e⟩
    have itx : ∀ {H'}, But2 a l H H' → ∀ x ∈ xs, Itm K C S H' x := fun f x hx2 => by
      obtain ⟨i, hi⟩ := List.getElem?_of_mem hx2
      obtain ⟨L, hL, q⟩ := prs_at (LsA.str (K := K) (C := C) hS (lsx f) good) hi
      obtain ⟨q1, q2, q3⟩ := rk_stT L
      have := (good L (List.mem_of_getElem? hL)).len
      exact ⟨stT L, ⟨by omega, by omega, by omega⟩, q.re⟩
    have bS1 : But2 a l H H1 := fun b o _ _ e => s1 _ _ e
    refine ⟨fun σ' H' => (∃ x3, σ' = [some (.ref a), some (.ref p), some (.ref D), x3, none, none, none, none, none]) ∧ But2 a l H H' ∧ Strm (N + 100) H' a l ∧ ∃ zs, H' D = some (.lst zs) ∧ zs.length ≤ 32 ∧ ∀ x ∈ zs, Itm K C S H' x, ?_, ?_⟩
    · refine ⟨_, rfl, a, l, N, 2, rfl, S1, hN0, by omega, by decide, by decide, fun H2 r r0 r1 b2 S2 => ⟨_, _, rfl, rfl, ?_⟩⟩
      obtain ⟨m, rfl⟩ := Int.eq_ofNat_of_zero_le r0
      have b12 : But2 a l H H2 := fun b o x y e => b2 _ _ x y (s1 _ _ e)
      have hD2 := b2 _ _ nDal.1 nDal.2 hD1
      refine ⟨m + 1, (by show [V.int (1 + (m : Int))] = [V.int ((m : Int) + 1)]; rw [Int.add_comm]), by omega, by omega, ?_⟩
      refine for_it (g := gName 3) (walk_range (lo := 0) (n := m + 1)) (fun i σ H' => (∃ x3, σ = [some (.ref a), some (.ref p), some (.ref D), x3, none, none, none, none, none]) ∧ But2 a l H H' ∧ Strm (N + 1 + 20 * i) H' a l ∧ ∃ zs, H' D = some (.lst zs) ∧ zs.length ≤ 30 + i ∧ ∀ x ∈ zs, Itm K C S H' x) ⟨⟨none, rfl⟩, b12, S2.mono (by omega), xs, hD2, by omega, itx b12⟩ (fun _ _ _ _ _ => trivial) ?_ ?_
      · rintro i x σ H3 H4 hi ⟨⟨x3, rfl⟩, b4, S4, zs, hD4, lz, hz⟩ ⟨rfl, rfl⟩
        refine ⟨_, rfl, .inl ⟨rfl, _, SqL.of hD4⟩, _, rfl, _, rfl, D, _, rfl, .inl (SqL.of hD4), _, _, rfl, rfl, a, l, _, _, rfl, S4, by omega, by omega, by omega, by omega, fun H5 d d0 d1 b5 S5 => ?_⟩
        have b45 := b4.trans b5
        have hD5 := b5 _ _ nDal.1 nDal.2 hD4
        refine ⟨_, rfl, _, rfl, Nat.zero_le _, fun e he => ⟨by show 1 ≤ sizeLine; decide, fun e2 he2 => ?_⟩⟩
        have se := same_new (o := HO.lst ([] : List V)) he
        have se2 := same_new (o := HO.lst [V.ref e]) he2
        have hp5 := b45 _ _ (nG gp).1 (nG gp).2 hp
        refine ⟨_, rfl, e2, p, [.ref e], xs, rfl, rfl, upd_same, se2 _ _ (se _ _ hp5), by rw [hlx]; show 1 + Ls.length ≤ sizeLine; exact Nat.le_trans (show 1 + Ls.length ≤ 1000 by omega) (by decide), fun e3 he3 => ?_⟩
        have se3 := same_new (o := HO.lst ([V.ref e] ++ xs)) he3
        have s5 := (se.trans se2).trans se3
        have S6 := S5.but s5
        have ne3 := S5.ne_new (none_back (se.trans se2) he3)
        refine ⟨a, l, e3, _, _, rfl, S6, by omega, by omega, ne3.1, ne3.2, upd_same, by rw [List.length_append]; show 0 < 1 + xs.length; omega, by rw [List.length_append]; show 1 + xs.length ≤ 1000; omega, fun H6 v hv b6 S7 => ?_⟩
        have b46 : But2 a l H H6 := fun b o x y z => b6 _ _ x y (s5 _ _ (b45 _ _ x y z))
        have hD6 : H6 D = some (.lst zs) := b6 _ _ nDal.1 nDal.2 (s5 _ _ hD5)
        obtain ⟨q, ys, L, rfl, nq, hq, rq, lq, mq⟩ : ∃ (q : Addr) (ys : List V) (L : List (Int × Int)), v = .ref q ∧ (q ≠ a ∧ q ≠ l) ∧ H6 q = some (.lst ys) ∧ Rows G H6 ys L ∧ ys.length ≤ 150 ∧ ∀ d ∈ L, Mid2 d := by
          rcases List.mem_append.mp hv with hv | hv
          · cases List.mem_singleton.mp hv
            have ne := S5.ne_new he
            exact ⟨e, [], [], rfl, ne, b6 _ _ ne.1 ne.2 (se3 _ _ (se2 _ _ upd_same)), .nil, Nat.zero_le _, fun d hd => by cases hd⟩
          · obtain ⟨i, hi⟩ := List.getElem?_of_mem hv
            obtain ⟨L, hL, q, ys, rfl, nq, hq, rq⟩ := prs_at hx hi
            have gL := good L (List.mem_of_getElem? hL)
            have := rq.len
            have := gL.len
            exact ⟨q, ys, L, rfl, nG nq, b46 _ _ (nG nq).1 (nG nq).2 hq, rq.keep fun u t n z => b46 _ _ (nG n).1 (nG n).2 z, by omega, fun d hd => by
              obtain ⟨h1, h2, h3, h4⟩ := gL.bd d hd
              exact ⟨h1, by omega, h3, by omega⟩⟩
        refine ⟨a, l, q, _, ys, L, G, rfl, S7, by omega, by omega, nq.1, nq.2, hq, rq, lq, mq, fun H7 w t b7 S8 n7 bn7 => ?_⟩
        have hD7 := b7 _ _ nDal.1 nDal.2 hD6
        have hS6 : ∀ b, S b → H6 b ≠ none := fun b z => by
          rcases z with rfl | rfl | rfl
          · exact S7.some.1
          · exact S7.some.2
          · rw [hD6]
            exact fun w => by cases w
        refine ⟨D, zs, d, w, rfl, rfl, hD7, small1000 (by omega), d0, by omega, ⟨_, rfl⟩, fun b o x y z => ?_, (S8.upd nDal.1 nDal.2).mono (by omega), _, upd_same, ?_, fun y hy => ?_⟩
        · rw [upd_ne (ne_of_none z hD)]
          exact b7 _ _ x y (b46 _ _ x y z)
        · simp only [List.length_append, List.length_take, List.length_drop, List.length_cons, List.length_nil]
          omega
        · have kp : Kp S H7 (upd H7 D (.lst (zs.take d.toNat ++ [w] ++ zs.drop d.toNat))) := fun b o n _ e => by
            rw [upd_ne (fun z => n (.inr (.inr z)))]
            exact e
          have old : ∀ y ∈ zs, Itm K C S (upd H7 D (.lst (zs.take d.toNat ++ [w] ++ zs.drop d.toNat))) y := fun y hy => by
            have k4 : Kp S H4 H7 := Kp.trans (.but (.inl rfl) (.inr (.inl rfl)) b5) (Kp.trans (.same s5) (Kp.trans (.but (.inl rfl) (.inr (.inl rfl)) b6) (.but (.inl rfl) (.inr (.inl rfl)) b7)))
            exact ((hz y hy).keep k4).keep kp
          rcases List.mem_append.mp hy with hy | hy
          · rcases List.mem_append.mp hy with hy | hy
            · exact old y (List.mem_of_mem_take hy)
            · cases List.mem_singleton.mp hy
              exact Itm.keep ⟨t, bn7, n7 S hS6⟩ kp
          · exact old y (List.mem_of_mem_drop hy)
      · rintro σ H4 ⟨⟨x3, rfl⟩, b4, S4, zs, hD4, lz, hz⟩
        exact ⟨⟨x3, rfl⟩, b4, S4.mono (by omega), zs, hD4, by omega, hz⟩
    rintro σ' H4 ⟨⟨x3, rfl⟩, b4, S4, zs, hD4, lz, hz⟩
    refine ⟨fun σ' H' => ∃ g ow tg to, σ' = [some (.ref a), some (.ref p), some (.ref D), x3, some g, some ow, none, none, none] ∧ But2 a l H H' ∧ Strm (N + 2500000) H' a l ∧ Re K C (fun b => b = a ∨ b = l) H' tg g ∧ dpT tg ≤ 48 ∧ (∃ ts, tg = .seq ts) ∧ Re K C (fun b => b = a ∨ b = l) H' to ow ∧ dpT to ≤ 48, ?_, ?_⟩
    · obtain ⟨ts, bts, rts⟩ := choose5 hz
      obtain ⟨c1, c2, c3⟩ := bn_seq (r := 43) (m := 58000) (d := 47) bts
      have lts := rts.len
      have rD : Re K C (fun b => b = a ∨ b = l) H4 (.seq ts) (.ref D) := by
        unfold Re
        exact ⟨D, zs, rfl, .inl hD4, fun z => z.elim nDal.1 nDal.2, by
          have q := rts
          exact ReL.set5 (fun b z => z.elim .inl fun z => .inr (.inl z)) _ _ q, by omega⟩
      have nd : ts.length * 58000 + 1 ≤ 1900000 := by omega
      refine ⟨_, rfl, _, rfl, a, l, _, fun b => b = a ∨ b = l, .ref D, .seq ts, rfl, S4, by omega, by omega, .inl rfl, .inr rfl, fun b z => ?_, rD, by omega, fun H5 g b5 r5 S5 => ?_⟩
      · rcases z with rfl | rfl
        · exact S4.some.1
        · exact S4.some.2
      refine ⟨_, rfl, a, l, _, rfl, S5, by omega, by omega, fun H6 ow to b6 S6 n6 o6 => ⟨two_fit, fun tp htp => ?_⟩⟩
      have st := same_new (o := HO.tup [g, ow]) htp
      have h5 : ∀ b, (b = a ∨ b = l) → H5 b ≠ none := fun b z => by
        rcases z with rfl | rfl
        · exact S5.some.1
        · exact S5.some.2
      refine ⟨tp, _, rfl, SqT.of upd_same, rfl, _, _, rfl, _, _, rfl, rfl, g, ow, .seq ts, to, rfl, fun b o x y z => st _ _ (b6 _ _ x y (b5 _ _ x y (b4 _ _ x y z))), (S6.but st).mono (by omega), Re.keep (Kp.trans (.but (.inl rfl) (.inr rfl) b6) (.same st)) _ _ r5, by omega, ⟨ts, rfl⟩, Re.keep (.same st) _ _ (n6 _ h5), by have := o6.2.2; omega⟩
    rintro σ' H5 ⟨g, ow, tg, to, rfl, b5, S5, rg, dg, ⟨ts, rfl⟩, ro, dow⟩
    clear hz hD4 S4 b4 lsx itx
    have T5 := tabs_but hT b5 S0
    obtain ⟨o1, h1⟩ := rg.oc
    obtain ⟨o2, h2⟩ := ro.oc
    refine ask_tog o1 T5 h1 Kp.refl (fun E H1 Q' z => ⟨_, rfl, z⟩) fun H6 t1 e6 T6 n6 r1 => ⟨by show 1 ≤ sizeLine; decide, fun q hq => ?_⟩
    have s7 := same_new (o := HO.lst [V.ref t1]) hq
    have e7 := e6.trans (.of s7)
    have T7 := T6.ext s7
    have nq5 : Nw H5 q := (nw hq).back e6
    refine ⟨_, rfl, .inl ⟨rfl, _, SqL.of upd_same⟩, ask_tog o2 T7 h2 (.ext e7) (fun E H1 Q' z => ⟨_, rfl, rfl, z⟩) fun H8 t2 e8 T8 n8 r2 => ?_⟩
    have hq8 := e8 _ _ upd_same nt_lst
    refine ⟨q, [.ref t1], .ref t2, rfl, rfl, hq8, by show 1 < sizeLine; decide, ?_⟩
    have e9 : Ext H5 (upd H8 q (.lst ([.ref t1] ++ [.ref t2]))) := fun b o z nt => by
      rw [upd_ne (nq5.ne z nt)]
      exact e8 _ _ (e7 _ _ z nt) nt
    have T9 := tabs_upd (o := .lst ([.ref t1] ++ [.ref t2])) T8 hq8
    have r1x := (r1.ext (.of s7)).ext e8
    obtain ⟨s1h, v1h, hd1⟩ := r1x.head
    have r1' := r1x.off (o' := .lst ([.ref t1] ++ [.ref t2])) hq8 hd1
    have r2' := r2.off (o' := .lst ([.ref t1] ++ [.ref t2])) hq8 hd1
    have hq9 : (upd H8 q (.lst ([.ref t1] ++ [.ref t2]))) q = some (.lst ([.ref t1] ++ [.ref t2])) := upd_same
    generalize upd H8 q (.lst ([.ref t1] ++ [.ref t2])) = H9 at e9 T9 r1' r2' hq9 ⊢
    refine ⟨fun σ' H' => (∃ x6, σ' = [some (.ref a), some (.ref p), some (.ref D), x3, some g, some ow, x6, none, none]) ∧ Ext H5 H' ∧ Tabs T0 H', ?_, ?_⟩
    · refine ⟨_, rfl, _, rfl, ?_⟩
      dsimp only [tCons, tNil, List.cons_append, List.nil_append]
      refine (show spDue K C [g] _ _ _ from ?_)
      refine Oc.due o1 h1 (.ext e9) fun H10 d1 s10 nd1 q1 => ?_
      refine ⟨_, rfl, ?_⟩
      dsimp only [tCons, tNil, List.cons_append, List.nil_append]
      refine (show spDue K C [ow] _ _ _ from ?_)
      refine Oc.due o2 h2 ((Kp.ext e9).trans (.same s10)) fun H11 d2 s11 nd2 q2 => ⟨two_fit, fun A hA => ?_⟩
      have sA := same_new (o := HO.lst [V.ref d1, V.ref d2]) hA
      have s911 := (s10.trans s11).trans sA
      have kpA : Kp (fun b => b = a ∨ b = l) H5 _ := (Kp.ext e9).trans (.same s911)
      refine ⟨_, _, rfl, eqt_l (s911 _ _ hq9) upd_same (.cons (OR.eqt (n := 46) dg h1 kpA (r1'.ext (.of s911)) (q1.ext (.of (s11.trans sA)))) (.cons (OR.eqt (n := 46) dow h2 kpA (r2'.ext (.of s911)) (q2.ext (.of sA))) .nil)) (by show 2 ≤ 1000000; decide), fun H12 s12 => ⟨_, rfl, iteF ?_⟩⟩
      have s912 := s911.trans s12
      exact ⟨⟨_, rfl⟩, e9.trans (.of s912), T9.ext s912⟩
    clear nq5 hq8 e8 T8 n8 r2 r1x hd1 r1' r2' hq9 e9 T9 e7 T7 s7 e6 T6 n6 r1 hq
    rintro σ' H6 ⟨⟨x6, rfl⟩, e6, T6⟩
    have S6 := S5.ext e6
    have dl : dpL ts + 1 ≤ 48 := dg
    clear o1 o2 h1 h2
    unfold Re at rg
    obtain ⟨pg, ys, rfl, hpg, npg, rts, lys⟩ := rg
    have hpg6 : H6 pg = some (.lst ys) ∨ H6 pg = some (.tup ys) := hpg.imp (fun z => e6 _ _ z nt_lst) (fun z => e6 _ _ z nt_tup)
    let S2 : Addr → Prop := fun b => b = a ∨ b = l
    have sa : S2 a := .inl rfl
    have sl : S2 l := .inr rfl
    refine ⟨fun σ' H' => But3 a l H5 H' ∧ Tabs T0 H' ∧ Strm (N + 3000000) H' a l, ?_, ?_⟩
    · refine walk_or4 (K := K) (S := S2) npg sa sl hpg6 (fun S q => ⟨_, rfl, q⟩) fun J G wk hG => ?_
      refine for_it (g := gName 7) wk (fun j σ H' => (∃ x6 x7 x8, σ = [some (.ref a), some (.ref p), some (.ref D), x3, some (.ref pg), some ow, x6, x7, x8]) ∧ But3 a l H6 H' ∧ Tabs T0 H' ∧ Strm (N + 2500000 + j) H' a l) ⟨⟨x6, none, none, rfl⟩, fun b o _ _ _ z => z, T6, S6.mono (by omega)⟩ (fun i σ H' _ z => hG _ (.inr fun o h => z.2.1 pg o (fun y => npg (.inl y)) (fun y => npg (.inr y)) (fun t y => by
        rw [y] at h
        rcases hpg6 with w | w
        · rw [w] at h
          cases h
        · rw [w] at h
          cases h) h)) ?_ ?_
      · rintro j x σ H7 H8 hj ⟨⟨y6, y7, y8, rfl⟩, b8, T8, S8⟩ ⟨rfl, hxj⟩
        obtain ⟨tj, htj, rx⟩ := rts.at hxj
        have dj : dpT tj ≤ 48 := Nat.le_trans (dp_at htj) (by omega)
        have kp8 : Kp S2 H5 H8 := .but3 sa sl ((But3.ext e6).trans b8)
        have h8 : ∀ b, S2 b → H8 b ≠ none := fun b z => by
          rcases z with rfl | rfl
          · exact S8.some.1
          · exact S8.some.2
        refine ⟨fun σ' H' => ∃ od tod, σ' = [some (.ref a), some (.ref p), some (.ref D), x3, some (.ref pg), some ow, y6, some x, some od] ∧ But2 a l H8 H' ∧ Tabs T0 H' ∧ Strm (N + 2500000 + j + 1) H' a l ∧ Re K C S2 H' tod od ∧ dpT tod ≤ 48, ?_, ?_⟩
        · exact ⟨_, rfl, a, l, _, rfl, S8, by omega, by omega, fun H9 od tod b9 S9 n9 o9 => ⟨od, tod, rfl, b9, tabs_but T8 b9 S8, S9.mono (by omega), n9 S2 h8, by have := o9.2.2; omega⟩⟩
        rintro σ' Hb ⟨od, tod, rfl, bb, Tb, Sb, rod, dod⟩
        have rxb : Re K C S2 Hb tj x := Re.keep (kp8.trans (.but sa sl bb)) _ _ rx
        have r4 : Re K C S2 Hb (.leaf (.int 4)) (.int 4) := by
          unfold Re
          exact ⟨rfl, .inl ⟨rfl, by decide⟩⟩
        obtain ⟨o1, h1⟩ := rxb.ocL rod dj dod
        obtain ⟨o2, h2⟩ := rxb.ocL r4 dj (by show 3 ≤ 48; decide)
        refine ask_lat o1 Tb h1 Kp.refl (fun E H1 Q' z => ⟨_, rfl, _, rfl, z⟩) fun H6 t1 e6 T6 n6 r1 => ⟨by show 1 ≤ sizeLine; decide, fun q hq => ?_⟩
        have s7 := same_new (o := HO.lst [V.ref t1]) hq
        have e7 := e6.trans (.of s7)
        have T7 := T6.ext s7
        have nq5 : Nw Hb q := (nw hq).back e6
        refine ⟨_, rfl, .inl ⟨rfl, _, SqL.of upd_same⟩, ask_lat o2 T7 h2 (.ext e7) (fun E H1 Q' z => ⟨_, rfl, rfl, z⟩) fun H8 t2 e8 T8 n8 r2 => ?_⟩
        have hq8 := e8 _ _ upd_same nt_lst
        refine ⟨q, [.ref t1], .ref t2, rfl, rfl, hq8, by show 1 < sizeLine; decide, ?_⟩
        have e9 : Ext Hb (upd H8 q (.lst ([.ref t1] ++ [.ref t2]))) := fun b o z nt => by
          rw [upd_ne (nq5.ne z nt)]
          exact e8 _ _ (e7 _ _ z nt) nt
        have T9 := tabs_upd (o := .lst ([.ref t1] ++ [.ref t2])) T8 hq8
        have r1x := (r1.ext (.of s7)).ext e8
        obtain ⟨s1h, v1h, hd1⟩ := r1x.head
        have r1' := r1x.off (o' := .lst ([.ref t1] ++ [.ref t2])) hq8 hd1
        have r2' := r2.off (o' := .lst ([.ref t1] ++ [.ref t2])) hq8 hd1
        have hq9 : (upd H8 q (.lst ([.ref t1] ++ [.ref t2]))) q = some (.lst ([.ref t1] ++ [.ref t2])) := upd_same
        generalize upd H8 q (.lst ([.ref t1] ++ [.ref t2])) = H9 at e9 T9 r1' r2' hq9 ⊢
        refine ⟨_, rfl, _, rfl, _, rfl, ?_⟩
        dsimp only [tCons, tNil, List.cons_append, List.nil_append]
        refine (show spLDue K C [x, od] _ _ _ from ?_)
        refine OcL.due o1 h1 (.ext e9) fun H10 d1 s10 nd1 q1 => ?_
        refine ⟨_, rfl, ?_⟩
        dsimp only [tCons, tNil, tC, List.cons_append, List.nil_append]
        refine (show spLDue K C [x, .int 4] _ _ _ from ?_)
        refine OcL.due o2 h2 ((Kp.ext e9).trans (.same s10)) fun H11 d2 s11 nd2 q2 => ⟨two_fit, fun A hA => ?_⟩
        have sA := same_new (o := HO.lst [V.ref d1, V.ref d2]) hA
        have s911 := (s10.trans s11).trans sA
        have kpA : Kp S2 Hb _ := (Kp.ext e9).trans (.same s911)
        refine ⟨_, _, rfl, eqt_l (s911 _ _ hq9) upd_same (.cons (OL.eqt (n := 46) (Nat.le_refl 48) h1 kpA (r1'.ext (.of s911)) (q1.ext (.of (s11.trans sA)))) (.cons (OL.eqt (n := 46) (Nat.le_refl 48) h2 kpA (r2'.ext (.of s911)) (q2.ext (.of sA))) .nil)) (by show 2 ≤ 1000000; decide), fun H12 s12 => ⟨_, rfl, iteF ?_⟩⟩
        have s912 := s911.trans s12
        have ez : Ext Hb H12 := e9.trans (.of s912)
        exact ⟨⟨_, _, _, rfl⟩, b8.trans ((But3.of bb).trans (.ext ez)), T9.ext s912, (Sb.ext ez).mono (by omega)⟩
      · rintro σ H7 ⟨_, b7, T7, S7⟩
        exact ⟨(But3.ext e6).trans b7, T7, S7.mono (by omega)⟩
    · rintro σ' H7 ⟨b7, T7, S7⟩
      exact fin H7 ((But3.of b5).trans b7) T7 S7
end
end K05

set_option Elab.async false
set_option linter.all false
set_option maxRecDepth 100000
set_option maxHeartbeats 4000000
namespace K05
open PySem PySem.Spec PyProof.Rows L2 Own
/-! a list of steps lists, passed loosely -/
theorem strs_re {K : PySem.W.Frag} {C : Addr} {S : Addr → Prop} {H : Hp} : ∀ {xs : List V} {Ls : List (List (Int × Int))}, Paired (StR K C S H) xs Ls → ReL K C S H (Ls.map stT) xs
  | _, _, .nil => by
    show ReL K C S H [] []
    unfold ReL
    rfl
  | _, _, .cons h t => by
    show ReL K C S H (stT _ :: List.map stT _) (_ :: _)
    unfold ReL
    exact ⟨_, _, rfl, h.re, strs_re t⟩
theorem re_strs {K : PySem.W.Frag} {C : Addr} {S : Addr → Prop} {H : Hp} : ∀ {Ls : List (List (Int × Int))} {xs : List V}, ReL K C S H (Ls.map stT) xs → (∀ L ∈ Ls, Good L) → Paired (StR K C S H) xs Ls
  | [], xs, h, _ => by
    have h : ReL K C S H [] xs := h
    unfold ReL at h
    subst h
    exact .nil
  | L :: Ls, xs, h, g => by
    have h : ReL K C S H (stT L :: Ls.map stT) xs := h
    unfold ReL at h
    obtain ⟨x, r, rfl, h1, h2⟩ := h
    have gL := g L List.mem_cons_self
    exact .cons ⟨h1, gL.ok, fun p hp => by
      obtain ⟨b1, b2, b3, b4⟩ := gL.bd p hp
      exact ⟨by omega, b3, by omega⟩⟩ (re_strs h2 fun M hM => g M (List.mem_cons_of_mem _ hM))
theorem rk_lists : ∀ Ls : List (List (Int × Int)), rkL (Ls.map stT) ≤ 2 ∧ ndL (Ls.map stT) ≤ tot Ls + Ls.length
  | [] => ⟨Nat.zero_le _, Nat.zero_le _⟩
  | L :: Ls => by
    obtain ⟨h1, h2⟩ := rk_lists Ls
    obtain ⟨q1, q2, _⟩ := rk_stT L
    refine ⟨?_, ?_⟩
    · show max (rkT (stT L)) (rkL (Ls.map stT)) ≤ 2
      omega
    · show ndT (stT L) + ndL (Ls.map stT) ≤ L.length + tot Ls + (Ls.length + 1)
      omega
/-- its rows, as repr shows them -/
def DLst (L : List (Int × Int)) (e : PyData) : Prop := ∃ fs, Paired DRow L fs ∧ (e = .list fs ∨ e = .tuple fs)
theorem ReL.dps5 {K : PySem.W.Frag} {C : Addr} {S : Addr → Prop} {H : Hp} : ∀ {Ls : List (List (Int × Int))} {xs : List V}, ReL K C S H (Ls.map stT) xs → ∃ es, Paired DLst Ls es ∧ ∀ H', Kp S H H' → DpAll K H' xs es
  | [], xs, h => by
    have h : ReL K C S H [] xs := h
    unfold ReL at h
    subst h
    exact ⟨[], .nil, fun _ _ => .nil⟩
  | L :: Ls, xs, h => by
    have h : ReL K C S H (stT L :: Ls.map stT) xs := h
    unfold ReL at h
    obtain ⟨x, r, rfl, h1, h2⟩ := h
    obtain ⟨es, q1, q2⟩ := ReL.dps5 h2
    unfold stT Re at h1
    obtain ⟨q, ys, rfl, e, n, hy, hl⟩ := h1
    obtain ⟨fs, f1, f2⟩ := hy.dps
    rcases e with e | e
    · exact ⟨_, .cons ⟨fs, f1, .inl rfl⟩ q1, fun H' k => .cons (.lst (SqL.of (k _ _ n nt_lst e)) (f2 H' k)) (q2 H' k)⟩
    · exact ⟨_, .cons ⟨fs, f1, .inr rfl⟩ q1, fun H' k => .cons (.tup (SqT.of (k _ _ n nt_tup e)) (f2 H' k)) (q2 H' k)⟩
theorem all_ok5 : ∀ {Ls : List (List (Int × Int))} {es : List PyData}, Paired DLst Ls es → (∀ L ∈ Ls, ∀ d ∈ L, 0 ≤ d.1 ∧ d.1 < 2 ^ 60 ∧ 0 ≤ d.2 ∧ d.2 < 2 ^ 60) → PyData.showableAll es = true ∧ PyData.hasDictAll es = false ∧ PyData.depthAll es ≤ 2 ∧ PyData.leavesShortAll 20 es = true ∧ PyData.weightAll es ≤ 131 * tot Ls + Ls.length
  | _, _, .nil, _ => ⟨rfl, rfl, Nat.zero_le _, rfl, Nat.zero_le _⟩
  | _, _, .cons (a := L) (l₁ := Ls) (b := e) h t, hb => by
    obtain ⟨q1, q2, q3, q4, q5⟩ := all_ok5 t fun M hM => hb M (List.mem_cons_of_mem _ hM)
    obtain ⟨fs, hf, he⟩ := h
    obtain ⟨o1, o2, o3, o4, o5⟩ := all_ok hf (hb L List.mem_cons_self)
    have z : PyData.showable e = true ∧ PyData.hasDict e = false ∧ PyData.depth e ≤ 2 ∧ PyData.leavesShort 20 e = true ∧ PyData.weight e ≤ 131 * L.length := by
      rcases he with rfl | rfl
      · exact ⟨by simp only [PyData.showable]; exact o1, by show PyData.hasDictAll fs = false; exact o2, by show PyData.depthAll fs + 1 ≤ 2; omega, by simp only [PyData.leavesShort]; exact o4, by simp only [PyData.weight]; exact o5⟩
      · exact ⟨by simp only [PyData.showable]; exact o1, by show PyData.hasDictAll fs = false; exact o2, by show PyData.depthAll fs + 1 ≤ 2; omega, by simp only [PyData.leavesShort]; exact o4, by simp only [PyData.weight]; exact o5⟩
    obtain ⟨z1, z2, z3, z4, z5⟩ := z
    refine ⟨?_, ?_, ?_, ?_, ?_⟩
    · simp only [PyData.showableAll]
      rw [z1, q1]
      rfl
    · simp only [PyData.hasDictAll]
      rw [z2, q2]
      rfl
    · show max (PyData.depth e) (PyData.depthAll _) ≤ 2
      omega
    · simp only [PyData.leavesShortAll]
      rw [z4, q4]
      rfl
    · simp only [PyData.weightAll]
      show _ ≤ 131 * (L.length + tot Ls) + (Ls.length + 1)
      omega
/-- such a list, as it was passed -/
structure LsR (K : PySem.W.Frag) (C : Addr) (S : Addr → Prop) (H : Hp) (v : V) (Ls : List (List (Int × Int))) : Prop where
  re : Re K C S H (.seq (Ls.map stT)) v
  good : ∀ L ∈ Ls, Good L
theorem LsR.keep {K : PySem.W.Frag} {C : Addr} {S : Addr → Prop} {H H' : Hp} {v : V} {Ls : List (List (Int × Int))} (h : LsR K C S H v Ls) (k : Kp S H H') : LsR K C S H' v Ls := ⟨Re.keep k _ _ h.re, h.good⟩
theorem LsR.tog {K : PySem.W.Frag} {C : Addr} {S : Addr → Prop} {H : Hp} {v : V} {Ls : List (List (Int × Int))} (h : LsR K C S H v Ls) : ∃ p xs, v = V.ref p ∧ Sqs H p xs ∧ xs.length ≤ 1000 ∧ Paired (StL K C H) xs Ls := by
  have r := h.re
  unfold Re at r
  obtain ⟨p, xs, rfl, e, n, hx, hl⟩ := r
  exact ⟨p, xs, rfl, e, hl, imp5 (re_strs hx h.good) fun _ _ z => z.stl⟩
theorem LsR.data {K : PySem.W.Frag} {C : Addr} {S : Addr → Prop} {H : Hp} {v : V} {Ls : List (List (Int × Int))} (h : LsR K C S H v Ls) (hl : tot Ls ≤ 500) (hn : Ls.length ≤ 500) : ∃ p d, v = V.ref p ∧ ROk d ∧ ∀ H', Kp S H H' → Dp K H' v d := by
  have r := h.re
  unfold Re at r
  obtain ⟨p, xs, rfl, e, n, hx, _⟩ := r
  obtain ⟨es, q1, q2⟩ := hx.dps5
  obtain ⟨o1, o2, o3, o4, o5⟩ := all_ok5 q1 fun L hL d hd => by
    obtain ⟨b1, b2, b3, b4⟩ := (h.good L hL).bd d hd
    exact ⟨b1, by omega, b3, by omega⟩
  have fin : ∀ d : PyData, d.leavesShort 20 = true → d.weight ≤ 131 * tot Ls + Ls.length → d.shown.length ≤ sizeLine := fun d h1 h2 => by
    have z := PyData.shown_le 20 (by decide) d h1
    have z2 : sizeLine = 16777216 := by decide
    rw [z2]
    have z3 : (20 + 2) * d.weight ≤ 22 * (131 * tot Ls + Ls.length) := Nat.mul_le_mul_left 22 h2
    omega
  rcases e with e | e
  · exact ⟨p, .list es, rfl, ⟨by simp only [PyData.showable]; exact o1, by show PyData.hasDictAll es = false; exact o2, by show PyData.depthAll es + 1 ≤ 60; omega, fin _ (by simp only [PyData.leavesShort]; exact o4) (by simp only [PyData.weight]; exact o5)⟩, fun H' k => .lst (SqL.of (k _ _ n nt_lst e)) (q2 H' k)⟩
  · exact ⟨p, .tuple es, rfl, ⟨by simp only [PyData.showable]; exact o1, by show PyData.hasDictAll es = false; exact o2, by show PyData.depthAll es + 1 ≤ 60; omega, fin _ (by simp only [PyData.leavesShort]; exact o4) (by simp only [PyData.weight]; exact o5)⟩, fun H' k => .tup (SqT.of (k _ _ n nt_tup e)) (q2 H' k)⟩
end K05

set_option Elab.async false
set_option linter.all false
set_option maxRecDepth 100000
set_option maxHeartbeats 8000000
namespace K05
open PySem PySem.Spec PyProof.Rows L2 Own LamX
/-! the law's body -/
abbrev NLaw : List Str := ["_law_script", "_law_stream_here", "_law_turn", "_law_whole", "_law_lists", "_law_k", "_law_wide", "_law_high", "_law_many", "_law_steps", "_law_due_here", "_law_given", "_law_was", "_law_told", "_law_turns", "_law_found", "_law_held", "_law_odd"]
theorem scLaw : FnScope NLaw ["_law_script"] (defScope sLaw) := ⟨rfl, rfl, rfl, by decide +kernel, rfl, by decide +kernel, by decide +kernel⟩
abbrev qLw : Str := ("law" : Str) ++ ".<locals>." ++ "<lambda>"
/-! the parts' rates add up to the wholes' -/
theorem sumR_app {s : Int} : ∀ {As Bs : List (List (Int × Int))}, sumR (As ++ Bs) s = sumR As s + sumR Bs s
  | [], Bs => (Int.zero_add _).symm
  | A :: As, Bs => by
    show rateF s 0 A + sumR (As ++ Bs) s = rateF s 0 A + sumR As s + sumR Bs s
    rw [sumR_app, Int.add_assoc]
theorem sumR_perm {s : Int} {As Bs : List (List (Int × Int))} (h : As.Perm Bs) : sumR As s = sumR Bs s := by
  induction h with
  | nil => rfl
  | cons A _ ih =>
    show rateF s 0 A + sumR _ s = rateF s 0 A + sumR _ s
    rw [ih]
  | swap A B l =>
    show rateF s 0 B + (rateF s 0 A + sumR l s) = rateF s 0 A + (rateF s 0 B + sumR l s)
    omega
  | trans _ _ h1 h2 => exact h1.trans h2
theorem tot_app : ∀ {As Bs : List (List (Int × Int))}, tot (As ++ Bs) = tot As + tot Bs
  | [], _ => (Nat.zero_add _).symm
  | A :: As, Bs => by
    show A.length + tot (As ++ Bs) = A.length + tot As + tot Bs
    rw [tot_app, Nat.add_assoc]
theorem tot_perm {As Bs : List (List (Int × Int))} (h : As.Perm Bs) : tot As = tot Bs := by
  induction h with
  | nil => rfl
  | cons A _ ih =>
    show A.length + tot _ = A.length + tot _
    rw [ih]
  | swap A B l =>
    show B.length + (A.length + tot l) = A.length + (B.length + tot l)
    omega
  | trans _ _ h1 h2 => exact h1.trans h2
theorem addF_mem {f : Int → Int} : ∀ {ks : List Int} {b : Int}, ∀ p ∈ addF f b ks, p.1 ∈ ks ∧ p.2 = f p.1
  | [], _, p, hp => by cases hp
  | k :: ks, b, p, hp => by
    have hp : p ∈ (if f k ≠ b then (k, f k) :: addF f (f k) ks else addF f b ks) := hp
    by_cases c : f k ≠ b
    · rw [if_pos c] at hp
      rcases List.mem_cons.mp hp with rfl | hp
      · exact ⟨List.mem_cons_self, rfl⟩
      · obtain ⟨h1, h2⟩ := addF_mem p hp
        exact ⟨List.mem_cons_of_mem _ h1, h2⟩
    · rw [if_neg c] at hp
      obtain ⟨h1, h2⟩ := addF_mem p hp
      exact ⟨List.mem_cons_of_mem _ h1, h2⟩
theorem sumR_le {R t : Int} (hR : 0 ≤ R) : ∀ {Ls : List (List (Int × Int))}, (∀ L ∈ Ls, ∀ d ∈ L, d.2 ≤ R) → sumR Ls t ≤ Ls.length * R
  | [], _ => by
    show (0 : Int) ≤ ((0 : Nat) : Int) * R
    simp
  | L :: Ls, h => by
    show rateF t 0 L + sumR Ls t ≤ ((Ls.length + 1 : Nat) : Int) * R
    have h1 := rate_le (t := t) (h L List.mem_cons_self) hR
    have h2 := sumR_le (t := t) hR fun M hM => h M (List.mem_cons_of_mem _ hM)
    have e : ((Ls.length + 1 : Nat) : Int) * R = (Ls.length : Int) * R + R := by
      rw [show ((Ls.length + 1 : Nat) : Int) = (Ls.length : Int) + 1 by omega, Int.add_mul, Int.one_mul]
    rw [e]
    omega
/-- what is added up keeps its bounds -/
theorem added_bd {Ls : List (List (Int × Int))} {ns : List Int} {T R : Int} (hR : 0 ≤ R) (ok : ∀ L ∈ Ls, okL (-1) 0 L) (h : ∀ L ∈ Ls, ∀ d ∈ L, BdT d T R) (a : allT Ls ns) : ∀ p ∈ addF (sumR Ls) 0 ns, BdT p T (Ls.length * R) := fun p hp => by
  obtain ⟨h1, h2⟩ := addF_mem p hp
  obtain ⟨L, hL, d, hd, e⟩ := a.2 _ h1
  obtain ⟨b1, b2, b3, b4⟩ := h L hL d hd
  rw [e] at b1 b2
  refine ⟨b1, b2, ?_, ?_⟩
  · rw [h2]
    exact sumR_nn ok
  · rw [h2]
    exact sumR_le hR fun M hM d hd => (h M hM d hd).2.2.2
/-- a drawn order of things that are paired -/
theorem Paired.perm {α β : Type} {F : α → β → Prop} {xs xs' : List α} (h : xs'.Perm xs) : ∀ {ys : List β}, Paired F xs ys → ∃ ys', ys'.Perm ys ∧ Paired F xs' ys' := by
  induction h with
  | nil => exact fun p => ⟨_, .refl _, p⟩
  | cons a _ ih =>
    intro ys p
    cases p with
    | cons h t =>
      obtain ⟨zs, h1, h2⟩ := ih t
      exact ⟨_ :: zs, .cons _ h1, .cons h h2⟩
  | swap a b l =>
    intro ys p
    cases p with
    | cons h t =>
      cases t with
      | cons h' t' => exact ⟨_, .swap _ _ _, .cons h' (.cons h t')⟩
  | trans _ _ h1 h2 =>
    intro ys p
    obtain ⟨zs, g1, g2⟩ := h2 p
    obtain ⟨ws, g3, g4⟩ := h1 g2
    exact ⟨ws, g3.trans g1, g4⟩
/-- a base that holds two lists that change -/
def G2 (G : Hp) (W D : Addr) : Hp := upd (upd G W (.lst [])) D (.lst [])
theorem g2_none {G : Hp} {W D c : Addr} (h : G2 G W D c = none) : c ≠ W ∧ c ≠ D ∧ G c = none := by
  unfold G2 at h
  have n1 : c ≠ D := fun z => by rw [z, upd_same] at h; cases h
  rw [upd_ne n1] at h
  have n2 : c ≠ W := fun z => by rw [z, upd_same] at h; cases h
  rw [upd_ne n2] at h
  exact ⟨n2, n1, h⟩
theorem g2_of {G : Hp} {W D c : Addr} (h : G c = none) (n2 : c ≠ W) (n1 : c ≠ D) : G2 G W D c = none := by
  unfold G2
  rw [upd_ne n1, upd_ne n2]
  exact h
/-- the wholes and their parts, while they are made: W the list of the wholes, D that of the parts -/
structure TI (G H : Hp) (W D : Addr) (j : Nat) : Prop where
  gW : G W = none
  gD : G D = none
  ne : W ≠ D
  ex : ∃ ws Ws ps Ps, H W = some (.lst ws) ∧ LsA (G2 G W D) H ws Ws ∧ H D = some (.lst ps) ∧ LsA (G2 G W D) H ps Ps ∧ (∀ s, sumR Ps s = sumR Ws s) ∧ (∀ L ∈ Ws, okL (-1) 0 L) ∧ (∀ L ∈ Ps, okL (-1) 0 L) ∧
    (∀ L ∈ Ws, L.length ≤ 98 ∧ ∀ d ∈ L, BdT d 20000000000000 10000000000000) ∧ (∀ L ∈ Ps, L.length ≤ 99 ∧ ∀ d ∈ L, BdT d 20000000000001 10000000000000) ∧ Ws.length = j ∧ Ps.length ≤ 2 * j ∧ tot Ws ≤ 90 + 8 * j ∧ tot Ps ≤ 2 * tot Ws + 2 * j
theorem tot_le {n : Nat} : ∀ {Ms : List (List (Int × Int))}, (∀ M ∈ Ms, M.length ≤ n) → tot Ms ≤ Ms.length * n
  | [], _ => Nat.zero_le _
  | M :: Ms, h => by
    have h1 := h M List.mem_cons_self
    have h2 := tot_le fun A hA => h A (List.mem_cons_of_mem _ hA)
    show M.length + tot Ms ≤ (Ms.length + 1) * n
    rw [Nat.add_mul, Nat.one_mul]
    omega
theorem Rows.base5 {H0 H1 H : Hp} (e : ∀ b, H1 b = none → H0 b = none) {xs : List V} {L : List (Int × Int)} (h : Rows H1 H xs L) : Rows H0 H xs L := by
  induction h with
  | nil => exact .nil
  | cons hx _ ih =>
    obtain ⟨q, rfl, n, z⟩ := hx
    exact .cons ⟨q, rfl, e _ n, z⟩ ih
theorem TI.keep {G H H' : Hp} {W D st l : Addr} {j : Nat} (t : TI G H W D j) (ga : G st ≠ none) (gl : G l ≠ none) (b : But2 st l H H') : TI G H' W D j := by
  have n : ∀ {c}, G c = none → c ≠ st ∧ c ≠ l := fun {c} z => ⟨fun y => ga (by rw [← y]; exact z), fun y => gl (by rw [← y]; exact z)⟩
  obtain ⟨gW, gD, ne, ws, Ws, ps, Ps, h1, h2, h3, h4, h5⟩ := t
  exact ⟨gW, gD, ne, ws, Ws, ps, Ps, b _ _ (n gW).1 (n gW).2 h1, h2.keep fun c o z e => ⟨z, b _ _ (n (g2_none z).2.2).1 (n (g2_none z).2.2).2 e⟩, b _ _ (n gD).1 (n gD).2 h3, h4.keep fun c o z e => ⟨z, b _ _ (n (g2_none z).2.2).1 (n (g2_none z).2.2).2 e⟩, h5⟩
theorem LsA.keep3 {G H H' : Hp} {xs : List V} {Ls : List (List (Int × Int))} (h : LsA G H xs Ls) (k : ∀ b o, G b = none → (∀ t, o ≠ .tbl t) → H b = some o → H' b = some o) : LsA G H' xs Ls := by
  induction h with
  | nil => exact .nil
  | cons hx _ ih =>
    obtain ⟨q, zs, rfl, n, e, r⟩ := hx
    exact .cons ⟨q, zs, rfl, n, k _ _ n nt_lst e, r.keep fun u t n e => k _ _ n nt_tup e⟩ ih
/-- a base without what is not there now -/
def lessB (G H : Hp) : Hp := fun b => match H b with
  | none => none
  | some _ => G b
theorem lessB_none {G H : Hp} {b : Addr} (h : H b = none) : lessB G H b = none := by
  unfold lessB
  rw [h]
theorem lessB_of {G H : Hp} {b : Addr} (h : G b = none) : lessB G H b = none := by
  unfold lessB
  split
  · rfl
  · exact h
theorem lessB_some {G H : Hp} {b : Addr} (h : G b ≠ none) (n : H b ≠ none) : lessB G H b ≠ none := by
  unfold lessB
  split
  · contradiction
  · exact h
abbrev Sal (st l : Addr) : Addr → Prop := fun b => b = st ∨ b = l
/-- behind the drawing: the wholes at W, the parts mixed at M, what is due at q -/
structure TJ (G H : Hp) (W M q : Addr) (ws ms zs : List V) (Ws Ps : List (List (Int × Int))) (Du : List (Int × Int)) : Prop where
  hW : H W = some (.lst ws)
  lW : LsA G H ws Ws
  hM : H M = some (.lst ms)
  lM : LsA G H ms Ps
  hq : H q = some (.lst zs)
  rq : Rows G H zs Du
theorem TJ.keep {G H H' : Hp} {st l W M q : Addr} {ws ms zs : List V} {Ws Ps : List (List (Int × Int))} {Du : List (Int × Int)} (t : TJ G H W M q ws ms zs Ws Ps Du) (nal : ∀ {c}, G c = none → c ≠ st ∧ c ≠ l) (nW : W ≠ st ∧ W ≠ l) (gM : G M = none) (gq : G q = none) (b : But3 st l H H') : TJ G H' W M q ws ms zs Ws Ps Du :=
  ⟨b _ _ nW.1 nW.2 nt_lst t.hW, t.lW.keep3 fun c o z n e => b _ _ (nal z).1 (nal z).2 n e, b _ _ (nal gM).1 (nal gM).2 nt_lst t.hM, t.lM.keep3 fun c o z n e => b _ _ (nal z).1 (nal z).2 n e, b _ _ (nal gq).1 (nal gq).2 nt_lst t.hq, t.rq.keep fun u w n e => b _ _ (nal n).1 (nal n).2 nt_tup e⟩
section
variable {P : Program} {w : World} {K : PySem.W.Frag} {mg : Str → Option Value} {base : Heap} {C : Addr}
theorem law_body {T0 : List (Addr × Str)} {f fSt fP fD fPs fPt fMx fAd fLo fLR fCh fRe fSm fLt fTg fTr Ch Cs Ct Cu Cp c Pt : Addr} {fdSt fdP fdD fdPs fdPt fdMx fdAd fdLo fdLR fdCh fdRe fdSm fdLt fdTg fdTr : FuncData} (T : Bt mg) (zRp : mg "repr" = none)
    (FSt : Fun K "_law_stream" "_law_stream" sStream fSt fdSt) (gSt : mg "_law_stream" = some (.ref fSt)) (bSt : Binds K fdSt ["_law_script"] [])
    (FD : Fun K "_law_draw" "_law_draw" sDraw fD fdD) (gD : mg "_law_draw" = some (.ref fD)) (bD : Binds K fdD ["_law_stream_here", "_law_many"] [])
    (FP : Fun K "_law_pick" "_law_pick" sPick fP fdP) (gP : mg "_law_pick" = some (.ref fP)) (bP : Binds K fdP ["_law_stream_here", "_law_things"] [])
    (FPs : Fun K "_law_p_steps" "_law_p_steps" s_l_p_steps fPs fdPs) (gPs : mg "_law_p_steps" = some (.ref fPs)) (bPs : Binds K fdPs ["_law_stream_here", "_law_many", "_law_wide", "_law_high"] []) (GPs : FnOk P w K mg base CX0 2 fPs fdPs ["_law_stream_here", "_law_many", "_law_wide", "_law_high"] spPSteps)
    (FPt : Fun K "_law_p_parts" "_law_p_parts" s_l_p_parts fPt fdPt) (gPt : mg "_law_p_parts" = some (.ref fPt)) (bPt : Binds K fdPt ["_law_stream_here", "_law_steps"] []) (GPt : FnOk P w K mg base CX0 3 fPt fdPt ["_law_stream_here", "_law_steps"] (spPts K C))
    (FMx : Fun K "_law_mixed" "_law_mixed" sMixed fMx fdMx) (gMx : mg "_law_mixed" = some (.ref fMx)) (bMx : Binds K fdMx ["_law_stream_here", "_law_things"] [])
    (FAd : Fun K "_law_p_added" "_law_p_added" s_l_p_added fAd fdAd) (gAd : mg "_law_p_added" = some (.ref fAd)) (bAd : Binds K fdAd ["_law_lists"] []) (GAd : FnOk P w K mg base CX0 2 fAd fdAd ["_law_lists"] (spAdd K C))
    (FLo : Fun K "_law_loose" "_law_loose" sLoose fLo fdLo) (gLo : mg "_law_loose" = some (.ref fLo)) (bLo : Binds K fdLo ["_law_stream_here", "_law_thing"] []) (GLo : FnOk P w K mg base CX0 50 fLo fdLo ["_law_stream_here", "_law_thing"] (spLo K C 48))
    (FLR : Fun K "_law_later_right" "_law_later_right" s_l_later_right fLR fdLR) (gLR : mg "_law_later_right" = some (.ref fLR)) (bLR : Binds K fdLR ["_law_stream_here", "_law_steps", "_law_turns"] []) (GLR : FnG P w K mg base CX0 54 fLR fdLR ["_law_stream_here", "_law_steps", "_law_turns"] (spLR K C))
    (FCh : Fun K "_law_changed_right" "_law_changed_right" s_l_changed_right fCh fdCh) (gCh : mg "_law_changed_right" = some (.ref fCh)) (bCh : Binds K fdCh ["_law_stream_here", "_law_some"] []) (GCh : FnOk P w K mg base CX0 54 fCh fdCh ["_law_stream_here", "_law_some"] (spChg K C))
    (kRe : PySem.W.keepIn K (.ref fRe) = true) (gRe : mg "_law_refused_right" = some (.ref fRe)) (bRe : Binds K fdRe ["_law_stream_here", "_law_lists"] []) (GRe : FnOk P w K mg base CX0 54 fRe fdRe ["_law_stream_here", "_law_lists"] (spRf K C T0))
    (FSm : Fun K "_law_same" "_law_same" sSame fSm fdSm) (gSm : mg "_law_same" = some (.ref fSm)) (bSm : Binds K fdSm ["_law_found", "_law_due_here"] []) (GSm : FnOk P w K mg base CX0 52 fSm fdSm ["_law_found", "_law_due_here"] (spSame K C 50))
    (FLt : Fun K "later" "later" s_later fLt fdLt) (gLt : mg "later" = some (.ref fLt)) (bLt : Binds K fdLt ["steps", "turns"] []) (GLt : FnOk P w K mg base (L2.CX P w) 5 fLt fdLt ["steps", "turns"] (spLater K C Cs Cu))
    (FTg : Fun K "together" "together" s_together fTg fdTg) (gTg : mg "together" = some (.ref fTg)) (bTg : Binds K fdTg ["lists"] []) (GTg : FnOk P w K mg base (L2.CX P w) 5 fTg fdTg ["lists"] (spTog K C Cs))
    (FTr : Fun K "_law_p_tried" "_law_p_tried" s_l_p_tried fTr fdTr) (gTr : mg "_law_p_tried" = some (.ref fTr)) (bTr : Binds K fdTr ["_law_ask"] []) (CA : Cau K mg Ch Cs Ct Cu Cp)
    (TB : TabB base mg c Pt) (hmT : (Pt, qLw) ∈ T0) (hu : ∀ q ∈ T0, q.1 = Pt → q.2 = qLw)
    {A : Around} {outer : List Env} {s : Shared} {H : Hp} {Q : VK} {E : XK} {a : Addr} {ns : List Int} (hr : Room 59 (A.deeper (envOfC "law" (defScope sLaw) s.heap.objs.size f (.ref c)))) (hG : (A.deeper (envOfC "law" (defScope sLaw) s.heap.objs.size f (.ref c))).guards = some [])
    (hS : SqL K H a (ns.map V.int)) (hl : ns.length ≤ 63) (hT : Tabs T0 H) (k : ∀ H', Q (.bl true) H') :
    ∃ t, PSs (cxOf CX0 P w K mg base NLaw "law" (defScope sLaw) f (.ref c) A outer s H E).nox (defBody sLaw) t ∧ t { nx := fun _ H' => Q .non H', rt := Q } (L2.start NLaw [.ref a]) H := by
  have GSt : FnOk P w K mg base CX0 1 fSt fdSt ["_law_script"] (spStream K) := ok_stream FSt T
  have GP : FnOk P w K mg base CX0 2 fP fdP ["_law_stream_here", "_law_things"] spPick := ok_pick FP T FD gD bD
  have GD : FnOk P w K mg base CX0 1 fD fdD ["_law_stream_here", "_law_many"] spDraw := ok_draw FD T
  have GMx : FnOk P w K mg base CX0 2 fMx fdMx ["_law_stream_here", "_law_things"] spMixed := ok_mixed FMx T FD gD bD
  have kTg := kb_tog FTg
  refine ⟨_, (pss_cons (ps_set (i := 1) scLaw.nd rfl (Or.inr rfl) (pe_call GSt (hr.mono (by decide)) (by rfl) gSt FSt.kp bSt .nil pass0 (pa_cons (pv 0) pa_nil)))
  (Evl.pss_cut (ps_for PassesOwn.never rfl (pi_range1 (by rfl) T.range (pa_cons pe_int pa_nil)) (pg_name (i := 2) (x := "_law_turn") scLaw.nd rfl (Or.inl rfl)) (Evl.pss_cut (ps_asg (pe_tup (pa_cons (pe_lst pa_nil) (pa_cons (pe_lst pa_nil) pa_nil))) (pg_tup rfl (pgs_cons (pg_name (i := 3) (x := "_law_whole") scLaw.nd rfl (Or.inl rfl)) (pgs_cons (pg_name (i := 4) (x := "_law_lists") scLaw.nd rfl (Or.inr rfl)) pgs_nil))))
  (Evl.pss_cut (ps_for PassesOwn.never rfl (pi_range1 (by rfl) T.range (pa_cons (pe_call GD (hr.mono (by decide)) (by rfl) gD FD.kp bD .nil pass0 (pa_cons (pv 1) (pa_cons pe_int pa_nil))) pa_nil)) (pg_name (i := 5) (x := "_law_k") scLaw.nd rfl (Or.inl rfl)) (Evl.pss_cut (ps_par (i := 6) (j := 7) (by rfl) scLaw.nd rfl rfl (by decide) rfl rfl (pa_cons (pe_call GP (hr.mono (by decide)) (by rfl) gP FP.kp bP .nil pass0 (pa_cons (pv 1) (pa_cons (pe_lst (pa_cons pe_int (pa_cons pe_int (pa_cons pe_int (pa_cons (pe_op op_pow pe_int pe_int) (pa_cons (pe_op op_mul pe_int (pe_op op_pow pe_int pe_int)) pa_nil)))))) pa_nil))) (pa_cons (pe_call GP (hr.mono (by decide)) (by rfl) gP FP.kp bP .nil pass0 (pa_cons (pv 1) (pa_cons (pe_lst (pa_cons pe_int (pa_cons pe_int (pa_cons pe_int (pa_cons (pe_op op_pow pe_int pe_int) (pa_cons (pe_op op_pow pe_int pe_int) pa_nil)))))) pa_nil))) pa_nil)) (by rfl))
  (Evl.pss_cut (ps_set (i := 8) scLaw.nd rfl (Or.inl rfl) (pe_ifExp (PW.pt (pw_or (pt_cmpR op_lt (pv 2) pe_int (nomark _)) (pw_or1 (pt_cmpR op_gt (pv 5) pe_int (nomark _))))) (pe_call GD (hr.mono (by decide)) (by rfl) gD FD.kp bD .nil pass0 (pa_cons (pv 1) (pa_cons pe_int pa_nil))) (pe_op op_add pe_int (pe_call GD (hr.mono (by decide)) (by rfl) gD FD.kp bD .nil pass0 (pa_cons (pv 1) (pa_cons pe_int pa_nil))))))
  (Evl.pss_cut (ps_set (i := 9) scLaw.nd rfl (Or.inl rfl) (pe_call GPs (hr.mono (by decide)) (by rfl) gPs FPs.kp bPs .nil pass0 (pa_cons (pv 1) (pa_cons (pv 8) (pa_cons (pv 6) (pa_cons (pv 7) pa_nil))))))
  (Evl.pss_cut (ps_expr (pe_bm PySem.F.plainAttrs_list PySem.F.slot_list_append PySem.F.type_list_append mt_append (pv 3) (pa_cons (pv 9) pa_nil)))
  (pss_one (ps_expr (pe_bm PySem.F.plainAttrs_list PySem.F.slot_list_extend PySem.F.type_list_extend mt_extend (pv 4) (pa_cons (pe_call GPt (hr.mono (by decide)) (by rfl) gPt FPt.kp bPt .nil pass0 (pa_cons (pv 1) (pa_cons (pv 9) pa_nil))) pa_nil)))))))))
  (Evl.pss_cut (ps_asg (pe_tup (pa_cons (pe_call GMx (hr.mono (by decide)) (by rfl) gMx FMx.kp bMx .nil pass0 (pa_cons (pv 1) (pa_cons (pv 4) pa_nil))) (pa_cons (pe_call GAd (hr.mono (by decide)) (by rfl) gAd FAd.kp bAd .nil pass0 (pa_cons (pv 3) pa_nil)) pa_nil))) (pg_tup rfl (pgs_cons (pg_name (i := 4) (x := "_law_lists") scLaw.nd rfl (Or.inr rfl)) (pgs_cons (pg_name (i := 10) (x := "_law_due_here") scLaw.nd rfl (Or.inl rfl)) pgs_nil))))
  (Evl.pss_cut (ps_set (i := 11) scLaw.nd rfl (Or.inl rfl) (pe_call GLo (hr.mono (by decide)) (by rfl) gLo FLo.kp bLo .nil pass0 (pa_cons (pv 1) (pa_cons (pv 4) pa_nil))))
  (Evl.pss_cut (ps_set (i := 12) scLaw.nd rfl (Or.inl rfl) (pe_callB (call_repr hG hr.units) (by rfl) zRp (by decide +kernel) (pa_cons (pv 11) pa_nil)))
  (Evl.pss_cut (ps_set (i := 13) scLaw.nd rfl (Or.inl rfl) (pe_call (E := fun _ _ _ => False) GTg (hr.mono (by decide)) (by rfl) gTg FTg.kp bTg .nil (passes_call L2.takes0 (fun _ _ _ _ h => h)) (pa_cons (pv 11) pa_nil)))
  (Evl.pss_cut (ps_if (pt_not (pt_val (pe_call GSm (hr.mono (by decide)) (by rfl) gSm FSm.kp bSm .nil pass0 (pa_cons (pv 13) (pa_cons (pv 10) pa_nil))))) (pss_one (ps_ret pe_bl)) pss_nil)
  (Evl.pss_cut (ps_expr (pe_bm PySem.F.plainAttrs_list PySem.F.slot_list_append PySem.F.type_list_append mt_append (pv 13) (pa_cons pe_str pa_nil)))
  (Evl.pss_cut (ps_if (PW.pt (pw_or (pt_not (pt_val (pe_call GSm (hr.mono (by decide)) (by rfl) gSm FSm.kp bSm .nil pass0 (pa_cons (pe_callK0 (E := fun _ _ _ => False) GTg (hr.mono (by decide)) (by rfl) gTg FTg.kp kTg (passes_call L2.takes0 (fun _ _ _ _ h => h)) (pk_cons (pv 11) pk_nil)) (pa_cons (pv 10) pa_nil))))) (pw_or1 (pt_cmpR op_ne (pe_callB (call_repr hG hr.units) (by rfl) zRp (by decide +kernel) (pa_cons (pv 11) pa_nil)) (pv 12) (nomark _))))) (pss_one (ps_ret pe_bl)) pss_nil)
  (Evl.pss_cut (ps_set (i := 14) scLaw.nd rfl (Or.inr rfl) (pe_call GP (hr.mono (by decide)) (by rfl) gP FP.kp bP .nil pass0 (pa_cons (pv 1) (pa_cons (pe_lst (pa_cons pe_int (pa_cons pe_int (pa_cons (pe_call GD (hr.mono (by decide)) (by rfl) gD FD.kp bD .nil pass0 (pa_cons (pv 1) (pa_cons pe_int pa_nil))) (pa_cons (pe_call GD (hr.mono (by decide)) (by rfl) gD FD.kp bD .nil pass0 (pa_cons (pv 1) (pa_cons (pe_op op_pow pe_int pe_int) pa_nil))) pa_nil))))) pa_nil))))
  (Evl.pss_cut (ps_if (pt_not (pt_val (pe_callB (cr_all rfl) (by rfl) T.all (by decide +kernel) (pa_cons (pe_lc (own := [("_law_steps", 9)]) (g := gName 9) (tt := tYes) rfl scLaw.nd (pi_list (pe_op op_cat (pv 3) (pe_lst (pa_cons (pv 10) pa_nil)))) (blkOk_by (N := ["_law_script", "_law_stream_here", "_law_turn", "_law_whole", "_law_lists", "_law_k", "_law_wide", "_law_high", "_law_many", "_law_steps", "_law_due_here", "_law_given", "_law_was", "_law_told", "_law_turns", "_law_found", "_law_held", "_law_odd"]) (sc := defScope sLaw) (by decide +kernel)) (fun _ _ _ _ _ => (pg_name (i := 9) (x := "_law_steps") scLaw.nd rfl (Or.inl rfl))) (fun _ _ _ _ _ => pts_nil) (fun _ _ _ _ _ => (pe_callG GLR hG (hr.mono (by decide)) (by rfl) gLR FLR.kp bLR .nil pass0 (pa_cons (pv 1) (pa_cons (pv 9) (pa_cons (pv 14) pa_nil)))))) pa_nil)))) (pss_one (ps_ret pe_bl)) pss_nil)
  (Evl.pss_cut (ps_if (pt_not (pt_val (pe_call GCh (hr.mono (by decide)) (by rfl) gCh FCh.kp bCh .nil pass0 (pa_cons (pv 1) (pa_cons (pe_op op_cat (pv 4) (pe_lst (pa_cons (pe_lst (pa_cons (pe_tup (pa_cons (pv 2) (pa_cons pe_int pa_nil))) (pa_cons (pe_tup (pa_cons (pe_op op_add (pv 2) pe_int) (pa_cons pe_int pa_nil))) pa_nil))) pa_nil))) pa_nil))))) (pss_one (ps_ret pe_bl)) pss_nil)
  (pss_one (ps_if (pt_not (pt_val (pe_callB (cr_all rfl) (by rfl) T.all (by decide +kernel) (pa_cons (pe_lc (own := [("_law_k", 5)]) (g := gName 5) (tt := tYes) rfl scLaw.nd (pi_range1 (by rfl) T.range (pa_cons pe_int pa_nil)) (blkOk_by (N := ["_law_script", "_law_stream_here", "_law_turn", "_law_whole", "_law_lists", "_law_k", "_law_wide", "_law_high", "_law_many", "_law_steps", "_law_due_here", "_law_given", "_law_was", "_law_told", "_law_turns", "_law_found", "_law_held", "_law_odd"]) (sc := defScope sLaw) (by decide +kernel)) (fun _ _ _ _ _ => (pg_name (i := 5) (x := "_law_k") scLaw.nd rfl (Or.inl rfl))) (fun _ _ _ _ _ => pts_nil) (fun _ _ _ _ _ => (pe_call GRe (hr.mono (by decide)) (by rfl) gRe kRe bRe .nil pass0 (pa_cons (pv 1) (pa_cons (pv 4) pa_nil))))) pa_nil)))) (pss_one (ps_ret pe_bl)) pss_nil)))))))))))))))
  (Evl.pss_cut (ps_asg (pe_tup (pa_cons (pe_lst (pa_cons (pe_lst (pa_cons pe_int (pa_cons (pe_lst (pa_cons pe_int pa_nil)) pa_nil))) (pa_cons (pe_lst (pa_cons pe_int (pa_cons pe_int pa_nil))) pa_nil))) (pa_cons (pe_lst (pa_cons pe_int pa_nil)) pa_nil))) (pg_tup rfl (pgs_cons (pg_name (i := 16) (x := "_law_held") scLaw.nd rfl (Or.inr rfl)) (pgs_cons (pg_name (i := 17) (x := "_law_odd") scLaw.nd rfl (Or.inr rfl)) pgs_nil))))
  (pss_cons (ps_set (i := 15) scLaw.nd rfl (Or.inl rfl) (pe_lst (pa_cons (pe_trdP FTr gTr bTr CA gTg FTg.kp bTg GTg TB rfl hmT hu (hr.mono (by decide)) (lamS_by (by show lamSB (defScope sLaw) _ = true; decide +kernel)) (by rfl) (by rfl) (fun _ _ _ _ _ => rfl) (fun _ _ _ _ _ _ _ => ⟨by rfl, (pa_cons (pe_lst (pa_cons (pv 16) pa_nil)) pa_nil)⟩)) pa_nil)))
  (pss_cons (ps_expr (pe_bm PySem.F.plainAttrs_list PySem.F.slot_list_append PySem.F.type_list_append mt_append (pv 15) (pa_cons (pe_trdP FTr gTr bTr CA gLt FLt.kp bLt GLt TB rfl hmT hu (hr.mono (by decide)) (lamS_by (by show lamSB (defScope sLaw) _ = true; decide +kernel)) (by rfl) (by rfl) (fun _ _ _ _ _ => rfl) (fun _ _ _ _ _ _ _ => ⟨by rfl, (pa_cons (pe_lst pa_nil) (pa_cons (pv 17) pa_nil))⟩)) pa_nil)))
  (pss_cons (ps_expr (pe_bm PySem.F.plainAttrs_list PySem.F.slot_list_append PySem.F.type_list_append mt_append (pv 16) (pa_cons pe_str pa_nil)))
  (pss_cons (ps_expr (pe_bm PySem.F.plainAttrs_list PySem.F.slot_list_append PySem.F.type_list_append mt_append (pv 17) (pa_cons pe_str pa_nil)))
  (pss_one (ps_ret (pe_call GSm (hr.mono (by decide)) (by rfl) gSm FSm.kp bSm .nil pass0 (pa_cons (pv 15) (pa_cons (pe_lst (pa_cons (pe_tup (pa_cons pe_str (pa_cons (pe_lst (pa_cons (pe_lst (pa_cons pe_int (pa_cons (pe_lst (pa_cons pe_int pa_nil)) pa_nil))) (pa_cons (pe_lst (pa_cons pe_int (pa_cons pe_int pa_nil))) (pa_cons pe_str pa_nil)))) pa_nil))) (pa_cons (pe_tup (pa_cons pe_str (pa_cons (pe_lst (pa_cons pe_int (pa_cons pe_str pa_nil))) pa_nil))) pa_nil))) pa_nil)))))))))))), ?_⟩
  refine ⟨_, rfl, a, ns, rfl, hS, hl, fun H1 st l e1 nst nl S0 => ?_⟩
  have T1 : Tabs T0 H1 := hT.ext e1
  clear hS hl hT e1 nst nl
  refine ⟨fun σ' H' => (∃ x2 x3 x4 x5 x6 x7 x8 x9 x10 x11 x12 x13 x14 : Option V, σ' = [some (.ref a), some (.ref st), x2, x3, x4, x5, x6, x7, x8, x9, x10, x11, x12, x13, x14, none, none, none]) ∧ Tabs T0 H', ?_, ?_⟩
  · refine ⟨4, rfl, by decide, by decide, ?_⟩
    refine for_it (g := gName 2) (walk_range (lo := 0) (n := 4)) (fun i σ H' => (∃ x2 x3 x4 x5 x6 x7 x8 x9 x10 x11 x12 x13 x14 : Option V, σ = [some (.ref a), some (.ref st), x2, x3, x4, x5, x6, x7, x8, x9, x10, x11, x12, x13, x14, none, none, none]) ∧ Tabs T0 H' ∧ Strm (20000000 * (i : Int)) H' st l) ⟨⟨none, none, none, none, none, none, none, none, none, none, none, none, none, rfl⟩, T1, S0.mono (by omega)⟩ (fun _ _ _ _ _ => trivial) ?_ ?_
    · rintro i x σ H2 H3 hi ⟨⟨x2, x3, x4, x5, x6, x7, x8, x9, x10, x11, x12, x13, x14, rfl⟩, T2, S2⟩ ⟨rfl, rfl⟩
      clear T1 S0
      generalize hB : 20000000 * (i : Int) = B at S2
      have B0 : 0 ≤ B := by omega
      have B1 : B ≤ 60000000 := by omega
      have hal := S2.some
      -- two new lists
      refine ⟨fun σ' H' => ∃ W D, σ' = [some (.ref a), some (.ref st), some (.int (0 + (i : Int))), some (.ref W), some (.ref D), x5, x6, x7, x8, x9, x10, x11, x12, x13, x14, none, none, none] ∧ Tabs T0 H' ∧ Strm B H' st l ∧ (∀ b, H' b = none → H3 b = none) ∧ TI H3 H' W D 0, ?_, ?_⟩
      · refine ⟨Nat.zero_le _, fun W hW => ⟨Nat.zero_le _, fun D hD => ⟨two_fit, fun tp htp => ?_⟩⟩⟩
        have sW := same_new (o := HO.lst ([] : List V)) hW
        have sD := same_new (o := HO.lst ([] : List V)) hD
        have sT := same_new (o := HO.tup [V.ref W, V.ref D]) htp
        have s3 := (sW.trans sD).trans sT
        have nWD : W ≠ D := fun z => by
          rw [← z, upd_same] at hD
          cases hD
        refine ⟨tp, _, rfl, SqT.of upd_same, rfl, _, _, rfl, _, _, rfl, rfl, W, D, rfl, T2.ext s3, S2.but s3, fun b z => none_back s3 z, hW, none_back sW hD, nWD, [], [], [], [], sT _ _ (sD _ _ upd_same), .nil, sT _ _ upd_same, .nil, fun s => rfl, (fun L hL => by cases hL), (fun L hL => by cases hL), (fun L hL => by cases hL), (fun L hL => by cases hL), rfl, Nat.zero_le _, Nat.zero_le _, Nat.zero_le _⟩
      rintro σ' H4 ⟨W, D, rfl, T4, S4, bk4, t4⟩
      refine ⟨fun σ' H' => (∃ x5 x6 x7 x8 x9 : Option V, σ' = [some (.ref a), some (.ref st), some (.int (0 + (i : Int))), some (.ref W), some (.ref D), x5, x6, x7, x8, x9, x10, x11, x12, x13, x14, none, none, none]) ∧ Tabs T0 H' ∧ Strm (B + 20000) H' st l ∧ (∀ b, H' b = none → H3 b = none) ∧ ∃ j, j ≤ 5 ∧ TI H3 H' W D j, ?_, ?_⟩
      · refine ⟨_, rfl, st, l, _, 6, rfl, S4, by omega, by omega, by decide, by decide, fun H5 r r0 r1 b5 S5 => ?_⟩
        obtain ⟨m, rfl⟩ := Int.eq_ofNat_of_zero_le r0
        refine ⟨m, rfl, by omega, by omega, ?_⟩
        refine for_it (g := gName 5) (walk_range (lo := 0) (n := m)) (fun j σ H' => (∃ x5 x6 x7 x8 x9 : Option V, σ = [some (.ref a), some (.ref st), some (.int (0 + (i : Int))), some (.ref W), some (.ref D), x5, x6, x7, x8, x9, x10, x11, x12, x13, x14, none, none, none]) ∧ Tabs T0 H' ∧ Strm (B + 1 + 3000 * j) H' st l ∧ (∀ b, H' b = none → H3 b = none) ∧ TI H3 H' W D j) ⟨⟨x5, x6, x7, x8, x9, rfl⟩, tabs_but T4 b5 S4, S5.mono (by omega), fun b z => bk4 b (b5.fresh S5 z), t4.keep hal.1 hal.2 b5⟩ (fun _ _ _ _ _ => trivial) ?_ ?_
        · rintro j x σ H6 H7 hj ⟨⟨y5, y6, y7, y8, y9, rfl⟩, T7, S7, bk7, t7⟩ ⟨rfl, rfl⟩
          refine ⟨fun σ' H' => ∃ (wd hg : Int), σ' = [some (.ref a), some (.ref st), some (.int (0 + (i : Int))), some (.ref W), some (.ref D), some (.int (0 + (j : Int))), some (.int wd), some (.int hg), y8, y9, x10, x11, x12, x13, x14, none, none, none] ∧ But2 st l H7 H' ∧ Strm (B + 1 + 3000 * j + 2) H' st l ∧ 0 < wd ∧ wd ≤ 100000000000 ∧ 0 < hg ∧ hg ≤ 10000000000000, ?_, ?_⟩
          · refine ⟨_, rfl, _, _, rfl, rfl, ⟨by decide, by decide, by decide⟩, _, _, rfl, rfl, ⟨by decide, by decide, by decide⟩, _, _, rfl, rfl, .inl ⟨by decide, by decide⟩, by show 5 ≤ sizeLine; decide, fun p hp => ?_⟩
            have np := S7.ne_new hp
            refine ⟨st, l, p, _, _, rfl, S7.but (same_new hp), by omega, by omega, np.1, np.2, upd_same, by show 0 < 5; decide, by show 5 ≤ 1000; decide, fun H8 v hv b8 S8 => ?_⟩
            obtain ⟨wd, rfl, w0, w1⟩ : ∃ wd : Int, v = .int wd ∧ 0 < wd ∧ wd ≤ 100000000000 := by
              simp only [List.mem_cons, List.not_mem_nil, or_false] at hv
              rcases hv with rfl | rfl | rfl | rfl | rfl <;> exact ⟨_, rfl, by decide, by decide⟩
            refine ⟨_, rfl, _, _, rfl, rfl, ⟨by decide, by decide, by decide⟩, _, _, rfl, rfl, ⟨by decide, by decide, by decide⟩, by show 5 ≤ sizeLine; decide, fun q hq => ?_⟩
            have nq := S8.ne_new hq
            refine ⟨st, l, q, _, _, rfl, S8.but (same_new hq), by omega, by omega, nq.1, nq.2, upd_same, by show 0 < 5; decide, by show 5 ≤ 1000; decide, fun H9 u hu b9 S9 => ?_⟩
            obtain ⟨hg, rfl, g0, g1⟩ : ∃ hg : Int, u = .int hg ∧ 0 < hg ∧ hg ≤ 10000000000000 := by
              simp only [List.mem_cons, List.not_mem_nil, or_false] at hu
              rcases hu with rfl | rfl | rfl | rfl | rfl <;> exact ⟨_, rfl, by decide, by decide⟩
            exact ⟨_, _, rfl, wd, hg, rfl, fun b o x y z => b9 _ _ x y (same_new hq _ _ (b8 _ _ x y (same_new hp _ _ z))), S9.mono (by omega), w0, w1, g0, g1⟩
          rintro σ' H8 ⟨wd, hg, rfl, b8, S8, w0, w1, g0, g1⟩
          refine ⟨fun σ' H' => ∃ (m2 : Nat), σ' = [some (.ref a), some (.ref st), some (.int (0 + (i : Int))), some (.ref W), some (.ref D), some (.int (0 + (j : Int))), some (.int wd), some (.int hg), some (.int (m2 : Int)), y9, x10, x11, x12, x13, x14, none, none, none] ∧ But2 st l H7 H' ∧ Strm (B + 1 + 3000 * j + 3) H' st l ∧ m2 ≤ 97 ∧ (0 < j → m2 ≤ 7), ?_, ?_⟩
          · have few : ∀ H9 (d : Int), 0 ≤ d → d < 8 → But2 st l H8 H9 → Strm (B + 1 + 3000 * j + 2 + 1) H9 st l → ∃ (m2 : Nat), ([some (.ref a), some (.ref st), some (.int (0 + (i : Int))), some (.ref W), some (.ref D), some (.int (0 + (j : Int))), some (.int wd), some (.int hg), some (.int d), y9, x10, x11, x12, x13, x14, none, none, none] : L2.St) = [some (.ref a), some (.ref st), some (.int (0 + (i : Int))), some (.ref W), some (.ref D), some (.int (0 + (j : Int))), some (.int wd), some (.int hg), some (.int (m2 : Int)), y9, x10, x11, x12, x13, x14, none, none, none] ∧ But2 st l H7 H9 ∧ Strm (B + 1 + 3000 * j + 3) H9 st l ∧ m2 ≤ 97 ∧ (0 < j → m2 ≤ 7) := fun H9 d d0 d1 b9 S9 => by
              obtain ⟨m2, rfl⟩ := Int.eq_ofNat_of_zero_le d0
              exact ⟨m2, rfl, b8.trans b9, S9.mono (by omega), by omega, fun _ => by omega⟩
            refine ⟨_, rfl, _, _, rfl, rfl, _, rfl, ite2 (fun hc => iteT ?_) (fun hc => ⟨_, rfl, _, _, rfl, rfl, _, rfl, ite2 (fun hc2 => ?_) (fun hc2 => ?_)⟩)⟩
            · exact ⟨_, rfl, st, l, _, 8, rfl, S8, by omega, by omega, by decide, by decide, fun H9 d d0 d1 b9 S9 => few H9 d d0 d1 b9 S9⟩
            · exact ⟨_, rfl, st, l, _, 8, rfl, S8, by omega, by omega, by decide, by decide, fun H9 d d0 d1 b9 S9 => few H9 d d0 d1 b9 S9⟩
            · have j0 : ¬ (0 + (j : Int)) > 0 := fun z => hc2 (decide_eq_true z)
              refine ⟨_, rfl, st, l, _, 58, rfl, S8, by omega, by omega, by decide, by decide, fun H9 d d0 d1 b9 S9 => ⟨_, _, rfl, rfl, ?_⟩⟩
              obtain ⟨m2, rfl⟩ := Int.eq_ofNat_of_zero_le d0
              exact ⟨40 + m2, rfl, b8.trans b9, S9.mono (by omega), by omega, fun z => by omega⟩
          rintro σ' H9 ⟨m2, rfl, b9, S9, m97, mfew⟩
          have t9 := t7.keep hal.1 hal.2 b9
          have bk9 : ∀ b, H9 b = none → H3 b = none := fun b z => bk7 b (b9.fresh S9 z)
          have g29 : ∀ b, H9 b = none → G2 H3 W D b = none := fun b z => by
            obtain ⟨_, _, _, ws, Ws, ps, Ps, e1, _, e2, _⟩ := t9
            exact g2_of (bk9 b z) (fun y => by rw [y, e1] at z; cases z) (fun y => by rw [y, e2] at z; cases z)
          refine ⟨fun σ' H' => ∃ (q : Addr) (zs : List V) (L : List (Int × Int)), σ' = [some (.ref a), some (.ref st), some (.int (0 + (i : Int))), some (.ref W), some (.ref D), some (.int (0 + (j : Int))), some (.int wd), some (.int hg), some (.int (m2 : Int)), some (.ref q), x10, x11, x12, x13, x14, none, none, none] ∧ But2 st l H9 H' ∧ Strm (B + 1 + 3000 * j + 1003) H' st l ∧ H9 q = none ∧ H' q = some (.lst zs) ∧ Rows (G2 H3 W D) H' zs L ∧ okL (-1) 0 L ∧ L.length ≤ m2 + 1 ∧ ∀ d ∈ L, BdT d 20000000000000 10000000000000, ?_, ?_⟩
          · refine ⟨_, rfl, _, rfl, _, rfl, _, rfl, st, l, _, m2, wd, hg, rfl, S9, by omega, by omega, by omega, w0, w1, g0, g1, fun H10 q zs L b10 q0 q1 r10 ok10 bd10 l10 S10 => ?_⟩
            refine ⟨q, zs, L, rfl, b10, S10.mono (by omega), q0, q1, r10.base5 g29, ok10, l10, fun d hd => ?_⟩
            obtain ⟨h1, h2, h3, h4⟩ := bd10 d hd
            exact ⟨h1, by omega, h3, by omega⟩
          rintro σ' H10 ⟨q, zs, L, rfl, b10, S10, q0, q1, r10, ok10, l10, bd10⟩
          have t10 := t9.keep hal.1 hal.2 b10
          have bk10 : ∀ b, H10 b = none → H3 b = none := fun b z => bk9 b (b10.fresh S10 z)
          obtain ⟨gW, gD, ne, ws, Ws, ps, Ps, hW, lW, hD, lD, sm, okW, okP, bW, bP, cW, cP, tW, tP⟩ := t10
          have nal : ∀ {c}, H3 c = none → c ≠ st ∧ c ≠ l := fun {c} z => ⟨fun y => hal.1 (by rw [← y]; exact z), fun y => hal.2 (by rw [← y]; exact z)⟩
          have gq : G2 H3 W D q = none := g29 q q0
          have T10 := tabs_but (tabs_but T7 b9 S7) b10 S9
          have nWq : W ≠ q := fun z => by
            obtain ⟨_, _, _, ws', _, _, _, e, _⟩ := t9
            rw [z, q0] at e
            cases e
          have lws : ws.length = Ws.length := Paired.length lW
          have lps : ps.length = Ps.length := Paired.length lD
          refine ⟨fun σ' H' => σ' = [some (.ref a), some (.ref st), some (.int (0 + (i : Int))), some (.ref W), some (.ref D), some (.int (0 + (j : Int))), some (.int wd), some (.int hg), some (.int (m2 : Int)), some (.ref q), x10, x11, x12, x13, x14, none, none, none] ∧ Strm (B + 1 + 3000 * j + 1003) H' st l ∧ Tabs T0 H' ∧ (∀ b, b ≠ W → H' b = H10 b) ∧ H' W = some (.lst (ws ++ [.ref q])), ?_, ?_⟩
          · exact ⟨_, rfl, .inl ⟨rfl, _, SqL.of hW⟩, _, rfl, W, ws, .ref q, rfl, rfl, hW, small1000 (by omega), rfl, S10.upd (nal gW).1 (nal gW).2, tabs_upd T10 hW, fun b n => upd_ne n, upd_same⟩
          rintro σ' H11 ⟨rfl, S11, T11, f11, hW11⟩
          have n2 : ∀ {c}, G2 H3 W D c = none → c ≠ W ∧ c ≠ D ∧ c ≠ st ∧ c ≠ l := fun {c} z => ⟨(g2_none z).1, (g2_none z).2.1, (nal (g2_none z).2.2).1, (nal (g2_none z).2.2).2⟩
          have hD11 : H11 D = some (.lst ps) := (f11 D (Ne.symm ne)).trans hD
          have k11 : ∀ {c o}, G2 H3 W D c = none → H10 c = some o → H11 c = some o := fun {c o} z e => (f11 c (n2 z).1).trans e
          have gs2 : G2 H3 W D st ≠ none := fun z => (n2 z).2.2.1 rfl
          have gl2 : G2 H3 W D l ≠ none := fun z => (n2 z).2.2.2 rfl
          have g211 : ∀ b, H11 b = none → G2 H3 W D b = none := fun b z => by
            have nW : b ≠ W := fun y => by rw [y, hW11] at z; cases z
            have nD : b ≠ D := fun y => by rw [y, hD11] at z; cases z
            exact g2_of (bk10 b (by rw [← f11 b nW]; exact z)) nW nD
          refine ⟨_, rfl, .inl ⟨rfl, _, SqL.of hD11⟩, _, rfl, _, rfl, st, l, q, _, G2 H3 W D, zs, L, rfl, S11, by omega, by omega, gs2, gl2, g211, gq, k11 gq q1, r10.keep fun u t n e => k11 n e, ok10, by omega, fun d hd => ?_, fun H12 R ys Ms b12 R0 hR lsa pt S12 => ?_⟩
          · obtain ⟨h1, h2, h3, h4⟩ := bd10 d hd
            exact ⟨h1, by omega, h3, by omega⟩
          have hD12 := b12 _ _ (nal gD).1 (nal gD).2 hD11
          have hW12 := b12 _ _ (nal gW).1 (nal gW).2 hW11
          have T12 := tabs_but T11 b12 S11
          have lys : ys.length = Ms.length := Paired.length lsa
          have lMs := pt.len
          have k13 : ∀ {c o}, G2 H3 W D c = none → H12 c = some o → (upd H12 D (.lst (ps ++ ys))) c = some o := fun {c o} z e => by
            rw [upd_ne (n2 z).2.1]
            exact e
          have k12 : ∀ {c o}, G2 H3 W D c = none → H10 c = some o → (upd H12 D (.lst (ps ++ ys))) c = some o := fun {c o} z e => k13 z (b12 _ _ (n2 z).2.2.1 (n2 z).2.2.2 (k11 z e))
          refine ⟨D, R, ps, ys, rfl, rfl, hD12, hR, Nat.le_trans (show ps.length + ys.length ≤ 1000 by omega) (by decide), ⟨_, _, _, _, _, rfl⟩, tabs_upd T12 hD12, (S12.upd (nal gD).1 (nal gD).2).mono (by omega), fun b z => ?_, gW, gD, ne, ws ++ [.ref q], Ws ++ [L], ps ++ ys, Ps ++ Ms, ?_, ?_, upd_same, ?_, fun s => ?_, fun M hM => ?_, fun M hM => ?_, fun M hM => ?_, fun M hM => ?_, ?_, ?_, ?_, ?_⟩
          · have nD : b ≠ D := fun y => by rw [y, upd_same] at z; cases z
            rw [upd_ne nD] at z
            exact (g2_none (g211 b (b12.fresh S12 z))).2.2
          · rw [upd_ne ne]
            exact hW12
          · exact Paired.app5 (lW.keep fun c o z e => ⟨z, k12 z e⟩) (.cons ⟨q, zs, rfl, gq, k12 gq q1, r10.keep fun u t n e => k12 n e⟩ .nil)
          · exact Paired.app5 (lD.keep fun c o z e => ⟨z, k12 z e⟩) (lsa.keep fun c o z e => ⟨z, k13 z e⟩)
          · rw [sumR_app, sumR_app, sm, pt.sum]
            show sumR Ws s + rateF s 0 L = sumR Ws s + (rateF s 0 L + 0)
            rw [Int.add_zero]
          · rcases List.mem_append.mp hM with hM | hM
            · exact okW M hM
            · rw [List.mem_singleton.mp hM]
              exact ok10
          · rcases List.mem_append.mp hM with hM | hM
            · exact okP M hM
            · exact pt.ok M hM
          · rcases List.mem_append.mp hM with hM | hM
            · exact bW M hM
            · rw [List.mem_singleton.mp hM]
              exact ⟨by omega, bd10⟩
          · rcases List.mem_append.mp hM with hM | hM
            · exact bP M hM
            · refine ⟨by have := pt.ln M hM; omega, fun d hd => ?_⟩
              have z := pt.bd 20000000000000 10000000000000 bd10 M hM d hd
              exact z
          · rw [List.length_append, cW]
            rfl
          · rw [List.length_append]
            omega
          · rw [tot_app]
            show tot Ws + (L.length + 0) ≤ 90 + 8 * (j + 1)
            cases j with
            | zero =>
              have e : Ws = [] := List.eq_nil_of_length_eq_zero cW
              rw [e]
              show 0 + (L.length + 0) ≤ _
              omega
            | succ j =>
              have := mfew (Nat.succ_pos j)
              omega
          · rw [tot_app, tot_app]
            have h1 := tot_le pt.ln
            have h2 : Ms.length * (L.length + 1) ≤ 2 * (L.length + 1) := Nat.mul_le_mul_right _ pt.len
            show tot Ps + tot Ms ≤ 2 * (tot Ws + (L.length + 0)) + 2 * (j + 1)
            omega
        · rintro σ H6 ⟨z, T6, S6, bk6, t6⟩
          exact ⟨z, T6, S6.mono (by omega), bk6, m, by omega, t6⟩
      rintro σ' H5 ⟨⟨x5, x6, x7, x8, x9, rfl⟩, T5, S5, bk5, j, hj, t5⟩
      obtain ⟨gW, gD, ne, ws, Ws, ps, Ps, hW5, lW5, hD5, lD5, sm, okW, okP, bW, bP, cW, cP, tW, tP⟩ := t5
      have nal : ∀ {c}, (G2 H3 W D) c = none → c ≠ st ∧ c ≠ l := fun {c} z => ⟨fun y => hal.1 (by rw [← y]; exact (g2_none z).2.2), fun y => hal.2 (by rw [← y]; exact (g2_none z).2.2)⟩
      have nW : W ≠ st ∧ W ≠ l := ⟨fun y => hal.1 (by rw [← y]; exact gW), fun y => hal.2 (by rw [← y]; exact gW)⟩
      have nD : D ≠ st ∧ D ≠ l := ⟨fun y => hal.1 (by rw [← y]; exact gD), fun y => hal.2 (by rw [← y]; exact gD)⟩
      have gs2 : (G2 H3 W D) st ≠ none := fun z => (nal z).1 rfl
      have gl2 : (G2 H3 W D) l ≠ none := fun z => (nal z).2 rfl
      have hS : ∀ b, Sal st l b → (G2 H3 W D) b ≠ none := fun b hb => by
        rcases hb with rfl | rfl
        · exact gs2
        · exact gl2
      have hSal : ∀ {N : Int} {H' : Hp}, Strm N H' st l → ∀ b, Sal st l b → H' b ≠ none := fun {N H'} S b hb => by
        rcases hb with rfl | rfl
        · exact S.some.1
        · exact S.some.2
      have g25 : ∀ b, H5 b = none → (G2 H3 W D) b = none := fun b z => g2_of (bk5 b z) (fun y => by rw [y, hW5] at z; cases z) (fun y => by rw [y, hD5] at z; cases z)
      have lws : ws.length = Ws.length := Paired.length lW5
      have lps : ps.length = Ps.length := Paired.length lD5
      have goodW : ∀ L ∈ Ws, Good L := fun L hL => ⟨okW L hL, by have := (bW L hL).1; omega, fun d hd => by
        obtain ⟨b1, b2, b3, b4⟩ := (bW L hL).2 d hd
        exact ⟨b1, by omega, b3, by omega⟩⟩
      have goodP : ∀ L ∈ Ps, Good L := fun L hL => ⟨okP L hL, by have := (bP L hL).1; omega, fun d hd => by
        obtain ⟨b1, b2, b3, b4⟩ := (bP L hL).2 d hd
        exact ⟨b1, by omega, b3, by omega⟩⟩
      -- the parts mixed, what is due
      refine ⟨fun σ' H' => ∃ (M q : Addr) (ms zs : List V) (Qs : List (List (Int × Int))) (ns : List Int), σ' = [some (.ref a), some (.ref st), some (.int (0 + (i : Int))), some (.ref W), some (.ref M), x5, x6, x7, x8, x9, some (.ref q), x11, x12, x13, x14, none, none, none] ∧ Tabs T0 H' ∧ Strm (B + 20200) H' st l ∧ (∀ b, H' b = none → (G2 H3 W D) b = none) ∧ Qs.Perm Ps ∧ (G2 H3 W D) M = none ∧ (G2 H3 W D) q = none ∧ Inc (-1) ns ∧ allT Ws ns ∧ zs.length ≤ tot Ws ∧ TJ (G2 H3 W D) H' W M q ws ms zs Ws Qs (addF (sumR Ws) 0 ns), ?_, ?_⟩
      · refine ⟨_, rfl, _, rfl, st, l, D, _, ps, rfl, S5, by omega, by omega, nD.1, nD.2, hD5, by omega, fun H6 M ms pm b6 M0 M1 S6 => ?_⟩
        obtain ⟨Qs, pQ, lM⟩ := Paired.perm pm lD5
        have hW6 := b6 _ _ nW.1 nW.2 hW5
        have lW6 : LsA (G2 H3 W D) H6 ws Ws := lW5.keep fun c o z e => ⟨z, b6 _ _ (nal z).1 (nal z).2 e⟩
        refine ⟨_, rfl, W, ws, Ws, rfl, .inl hW6, by omega, imp5 (LsA.str hS lW6 goodW) (fun _ _ z => z.stl), by omega, fun H7 q zs ns s7 nq hq inc all r7 l7 => ⟨two_fit, fun tp htp => ?_⟩⟩
        have s8 := same_new (o := HO.tup [V.ref M, V.ref q]) htp
        have s78 := s7.trans s8
        refine ⟨tp, _, rfl, SqT.of upd_same, rfl, _, _, rfl, _, _, rfl, rfl, M, q, ms, zs, Qs, ns, rfl, (tabs_but T5 b6 S5).ext s78, (S6.but s78).mono (by omega), fun b z => g25 b (b6.fresh S6 (none_back s78 z)), pQ, g25 M M0, g25 q (b6.fresh S6 nq), inc, all, l7, s78 _ _ hW6, ?_, s78 _ _ M1, ?_, s8 _ _ hq, ?_⟩
        · exact lW6.keep fun c o z e => ⟨z, s78 _ _ e⟩
        · exact LsA.keep lM fun c o z e => ⟨z, s78 _ _ (b6 _ _ (nal z).1 (nal z).2 e)⟩
        · exact (r7.base5 fun b z => g25 b (b6.fresh S6 z)).keep fun u t n e => s8 _ _ e
      clear T5 S5 hW5 lW5 hD5 lD5 g25 bk5
      rintro σ' H6 ⟨M, q, ms, zs, Qs, ns, rfl, T6, S6, g26, pQ, gM, gq, inc, all, lzs, t6⟩
      have goodQ : ∀ L ∈ Qs, Good L := fun L hL => goodP L (pQ.mem_iff.mp hL)
      have okQ : ∀ L ∈ Qs, okL (-1) 0 L := fun L hL => (goodQ L hL).ok
      have lQ : Qs.length = Ps.length := pQ.length_eq
      have tQ : tot Qs = tot Ps := tot_perm pQ
      have lms : ms.length = Qs.length := Paired.length t6.lM
      have okD := (added okW inc all).1
      have bdD := added_bd (by omega) okW (fun L hL => (bW L hL).2) all
      have uniq : ∀ {ks : List Int}, Inc (-1) ks → allT Qs ks → addF (sumR Qs) 0 ks = addF (sumR Ws) 0 ns := fun {ks} i1 a1 => (added_uniq okW inc all (added okQ i1 a1).1 fun t _ => ((added okQ i1 a1).2 t).trans ((sumR_perm pQ).trans (sm t))).symm
      generalize addF (sumR Ws) 0 ns = Du at t6 okD bdD uniq
      have lDu : Du.length ≤ 130 := by
        have := t6.rq.len
        omega
      have goodD : Good Du := ⟨okD, by omega, fun d hd => by
        obtain ⟨b1, b2, b3, b4⟩ := bdD d hd
        exact ⟨b1, by omega, b3, by omega⟩⟩
      clear okD bdD inc all lzs
      -- passed loosely
      refine ⟨fun σ' H' => ∃ g : V, σ' = [some (.ref a), some (.ref st), some (.int (0 + (i : Int))), some (.ref W), some (.ref M), x5, x6, x7, x8, x9, some (.ref q), some g, x12, x13, x14, none, none, none] ∧ Tabs T0 H' ∧ Strm (B + 22000) H' st l ∧ (∀ b, H' b = none → (G2 H3 W D) b = none) ∧ TJ (G2 H3 W D) H' W M q ws ms zs Ws Qs Du ∧ LsR K C (Sal st l) H' g Qs, ?_, ?_⟩
      · have nd : ndT (.seq (Qs.map stT)) ≤ 400 := Nat.le_trans (Nat.succ_le_succ (rk_lists Qs).2) (by omega)
        refine ⟨_, rfl, _, rfl, st, l, _, Sal st l, .ref M, .seq (Qs.map stT), rfl, S6, by omega, by omega, .inl rfl, .inr rfl, hSal S6, ?_, Nat.le_trans (Nat.succ_le_succ (rk_lists Qs).1) (by decide), fun H7 g b7 r7 S7 => ?_⟩
        · unfold Re
          exact ⟨M, ms, rfl, .inl t6.hM, fun z => z.elim (nal gM).1 (nal gM).2, strs_re (LsA.str hS t6.lM goodQ), by omega⟩
        · exact ⟨g, rfl, tabs_but T6 b7 S6, S7.mono (by omega), fun b z => g26 b (b7.fresh S7 z), t6.keep nal nW gM gq (.of b7), r7, goodQ⟩
      clear T6 S6 g26 t6
      rintro σ' H7 ⟨g, rfl, T7, S7, g27, t7, hg7⟩
      obtain ⟨pg, dg, rfl, rok, hdp⟩ := hg7.data (by omega) (by omega)
      refine ⟨fun σ' H' => σ' = [some (.ref a), some (.ref st), some (.int (0 + (i : Int))), some (.ref W), some (.ref M), x5, x6, x7, x8, x9, some (.ref q), some (.ref pg), some (.str dg.shown), x13, x14, none, none, none] ∧ H7 = H', ⟨_, rfl, pg, dg, rfl, hdp _ Kp.refl, rok.s, rok.n, rok.d, rok.l, rfl, rfl⟩, ?_⟩
      rintro σ' H' ⟨rfl, rfl⟩
      have kb : ∀ {H1 H' : Hp}, But2 st l H1 H' → Kp (Sal st l) H1 H' := fun b => .but (.inl rfl) (.inr rfl) b
      have tog : ∀ {H' : Hp} {Q' : VK}, Kp (Sal st l) H7 H' → (∀ H2 r ys, Same H' H2 → H' r = none → H2 r = some (.lst ys) → Rows H' H2 ys Du → Q' (.ref r) H2) → spTog K C Cs [.ref pg] H' Q' (fun _ _ _ => False) := fun {H' Q'} kp q => by
        obtain ⟨p, xs, e, sq, lx, px⟩ := (hg7.keep kp).tog
        exact ⟨.ref pg, rfl, .inr (.inr ⟨p, xs, Qs, e, sq, lx, px, by omega, fun H2 r ys ks s2 nr hr i2 a2 r2 l2 => q H2 r ys s2 nr hr (by rw [uniq i2 a2] at r2; exact r2)⟩)⟩
      refine ⟨fun σ' H' => ∃ (t : Addr) (ys : List V), σ' = [some (.ref a), some (.ref st), some (.int (0 + (i : Int))), some (.ref W), some (.ref M), x5, x6, x7, x8, x9, some (.ref q), some (.ref pg), some (.str dg.shown), some (.ref t), x14, none, none, none] ∧ Same H7 H' ∧ H7 t = none ∧ H' t = some (.lst ys) ∧ Rows H7 H' ys Du, ?_, ?_⟩
      · refine ⟨_, rfl, ?_⟩
        dsimp only [tNil, List.cons_append, List.nil_append]
        refine (show spTog K C Cs [.ref pg] H7 _ _ from ?_)
        refine tog Kp.refl fun H8 t ys s8 nt ht r8 => ?_
        exact ⟨t, ys, rfl, s8, nt, ht, r8⟩
      rintro σ' H8 ⟨t, ys, rfl, s8, nt, ht, r8⟩
      refine ⟨fun σ' H' => σ' = [some (.ref a), some (.ref st), some (.int (0 + (i : Int))), some (.ref W), some (.ref M), x5, x6, x7, x8, x9, some (.ref q), some (.ref pg), some (.str dg.shown), some (.ref t), x14, none, none, none] ∧ Same H8 H', ?_, ?_⟩
      · exact ⟨_, rfl, _, rfl, _, _, rfl, row_eqt (n := 48) ht (s8 _ _ t7.hq) r8 (t7.rq.keep fun _ _ _ e => s8 _ _ e) (by omega), fun H9 s9 => ⟨_, rfl, iteF ⟨rfl, s9⟩⟩⟩
      rintro σ' H9 ⟨rfl, s9⟩
      have ht9 := s9 _ _ ht
      have nts := S7.ne_new nt
      have lys : ys.length = Du.length := r8.len
      refine ⟨fun σ' H' => σ' = [some (.ref a), some (.ref st), some (.int (0 + (i : Int))), some (.ref W), some (.ref M), x5, x6, x7, x8, x9, some (.ref q), some (.ref pg), some (.str dg.shown), some (.ref t), x14, none, none, none] ∧ But2 st l H7 H' ∧ Strm (B + 22000) H' st l, ?_, ?_⟩
      · refine ⟨_, rfl, .inl ⟨rfl, _, SqL.of ht9⟩, t, ys, .str "late", rfl, rfl, ht9, small1000 (by omega), rfl, fun b o x y e => ?_, (S7.but (s8.trans s9)).upd nts.1 nts.2⟩
        rw [upd_ne (ne_of_none e nt)]
        exact s9 _ _ (s8 _ _ e)
      clear s8 r8 s9 ht9 ht nts
      rintro σ' H10 ⟨rfl, b10, S10⟩
      have t10 := t7.keep nal nW gM gq (.of b10)
      refine ⟨fun σ' H' => σ' = [some (.ref a), some (.ref st), some (.int (0 + (i : Int))), some (.ref W), some (.ref M), x5, x6, x7, x8, x9, some (.ref q), some (.ref pg), some (.str dg.shown), some (.ref t), x14, none, none, none] ∧ Same H10 H', ?_, ?_⟩
      · refine ⟨_, rfl, rfl, ?_⟩
        show spTog K C Cs [.ref pg] H10 _ _
        refine tog (kb b10) fun H11 u us s11 nu hu r11 => ?_
        refine ⟨_, rfl, _, _, rfl, row_eqt (n := 48) hu (s11 _ _ t10.hq) r11 (t10.rq.keep fun _ _ _ e => s11 _ _ e) (by omega), fun H12 s12 => ⟨_, rfl, iteF ⟨_, rfl, pg, dg, rfl, hdp _ (kb (fun b o x y z => (s11.trans s12) _ _ (b10 _ _ x y z))), rok.s, rok.n, rok.d, rok.l, _, rfl, rfl, false, ?_, iteF ⟨rfl, s11.trans s12⟩⟩⟩⟩
        rw [decide_eq_true rfl]
        rfl
      rintro σ' H11 ⟨rfl, s11⟩
      have b11 : But2 st l H7 H11 := fun b o x y z => s11 _ _ (b10 _ _ x y z)
      have S11 := S10.but s11
      refine ⟨fun σ' H' => ∃ k : Int, σ' = [some (.ref a), some (.ref st), some (.int (0 + (i : Int))), some (.ref W), some (.ref M), x5, x6, x7, x8, x9, some (.ref q), some (.ref pg), some (.str dg.shown), some (.ref t), some (.int k), none, none, none] ∧ 0 ≤ k ∧ But2 st l H7 H' ∧ Strm (B + 22010) H' st l, ?_, ?_⟩
      · refine ⟨_, rfl, _, rfl, st, l, _, 100, rfl, S11, by omega, by omega, by decide, by decide, fun H12 r r0 r1 b12 S12 => ?_⟩
        refine ⟨_, rfl, _, _, rfl, rfl, ⟨by decide, by decide, by decide⟩, st, l, _, 1000000000000, rfl, S12, by omega, by omega, by decide, by decide, fun H13 u u0 u1 b13 S13 => ⟨by show 4 ≤ sizeLine; decide, fun p hp => ?_⟩⟩
        have np := S13.ne_new hp
        refine ⟨st, l, p, _, _, rfl, S13.but (same_new hp), by omega, by omega, np.1, np.2, upd_same, by show 0 < 4; decide, by show 4 ≤ 1000; decide, fun H14 v hv b14 S14 => ?_⟩
        obtain ⟨k, rfl, k0⟩ : ∃ k : Int, v = .int k ∧ 0 ≤ k := by
          simp only [List.mem_cons, List.not_mem_nil, or_false] at hv
          rcases hv with rfl | rfl | rfl | rfl
          · exact ⟨_, rfl, by decide⟩
          · exact ⟨_, rfl, by decide⟩
          · exact ⟨_, rfl, r0⟩
          · exact ⟨_, rfl, u0⟩
        exact ⟨k, rfl, k0, fun b o x y z => b14 _ _ x y (same_new hp _ _ (b13 _ _ x y (b12 _ _ x y (b11 _ _ x y z)))), S14.mono (by omega)⟩
      clear b10 S10 t10 b11 S11 s11
      rintro σ' H12 ⟨k, rfl, k0, b12, S12⟩
      have t12 := t7.keep nal nW gM gq (.of b12)
      have T12 := tabs_but T7 b12 S7
      have g212 : ∀ b, H12 b = none → (G2 H3 W D) b = none := fun b z => g27 b (b12.fresh S12 z)
      clear t7 T7 S7 g27 hg7 hdp tog b12
      -- later_right of each
      refine ⟨fun σ' H' => σ' = [some (.ref a), some (.ref st), some (.int (0 + (i : Int))), some (.ref W), some (.ref M), x5, x6, x7, x8, x9, some (.ref q), some (.ref pg), some (.str dg.shown), some (.ref t), some (.int k), none, none, none] ∧ But2 st l H12 H' ∧ Strm (B + 32010) H' st l, ?_, ?_⟩
      · refine ⟨_, rfl, _, rfl, by show 1 ≤ sizeLine; decide, fun r hr => ?_⟩
        have s13 := same_new (o := HO.lst [V.ref q]) hr
        refine ⟨W, r, ws, [.ref q], rfl, rfl, s13 _ _ t12.hW, upd_same, Nat.le_trans (show ws.length + 1 ≤ 1000 by omega) (by decide), fun c hc => ?_⟩
        have s14 := same_new (o := HO.lst (ws ++ [V.ref q])) hc
        refine ⟨c, rfl, ⟨_, SqL.of upd_same⟩, fun D2 hD2 => ?_⟩
        have s15 := same_new (o := HO.lst ([] : List V)) hD2
        have se := (s13.trans s14).trans s15
        have nc : c ≠ st ∧ c ≠ l := (S12.but s13).ne_new hc
        have nD2 : D2 ≠ st ∧ D2 ≠ l := ((S12.but s13).but s14).ne_new hD2
        have hcD : c ≠ D2 := fun z => by rw [← z, upd_same] at hD2; cases hD2
        have lsa : LsA (G2 H3 W D) H12 (ws ++ [.ref q]) (Ws ++ [Du]) := Paired.app5 t12.lW (.cons ⟨q, zs, rfl, gq, t12.hq, t12.rq⟩ .nil)
        have goodA : ∀ L ∈ Ws ++ [Du], Good L := fun L hL => by
          rcases List.mem_append.mp hL with h | h
          · exact goodW L h
          · rw [List.mem_singleton.mp h]
            exact goodD
        have lA : (ws ++ [V.ref q]).length ≤ 6 := by
          rw [List.length_append]
          show ws.length + 1 ≤ 6
          omega
        refine lc_it (walk_list (xs := ws ++ [V.ref q])) (fun n H' => But2 st l H12 H' ∧ Strm (B + 22010 + 1000 * n) H' st l ∧ H' c = some (.lst (ws ++ [.ref q])) ∧ H' D2 = some (.lst (List.replicate n (V.bl true)))) ⟨fun b o x y z => se _ _ z, (S12.but se).mono (by omega), s15 _ _ upd_same, upd_same⟩ (fun n H' _ z => SqL.of z.2.2.1) ?_ ?_
        · rintro n x H13 H14 hn ⟨b14, S14, hc14, hD14⟩ ⟨rfl, hx⟩
          have lsa14 := lsa.keep fun c o z e => ⟨z, b14 _ _ (nal z).1 (nal z).2 e⟩
          obtain ⟨L, hL, hstr⟩ := prs_at (LsA.str (K := K) (C := C) hS lsa14 goodA) hx
          have gL := goodA L (List.mem_of_getElem? hL)
          have := gL.len
          dsimp only [tYes]
          refine ⟨rfl, iteT ⟨_, rfl, _, rfl, _, rfl, st, l, _, Sal st l, x, k, L, rfl, S14, by omega, by omega, .inl rfl, .inr rfl, hSal S14, hstr, by omega, k0, fun H15 b15 S15 => ?_⟩⟩
          refine ⟨List.replicate n (V.bl true), b15 _ _ nD2.1 nD2.2 hD14, by rw [List.length_replicate]; exact small1000 (by omega), fun b o x y z => ?_, (S15.upd nD2.1 nD2.2).mono (by omega), ?_, ?_⟩
          · have nb : b ≠ D2 := fun y => by
              rw [y] at z
              rw [none_back (s13.trans s14) hD2] at z
              cases z
            rw [upd_ne nb]
            exact b15 _ _ x y (b14 _ _ x y z)
          · rw [upd_ne hcD]
            exact b15 _ _ nc.1 nc.2 hc14
          · rw [upd_same, List.replicate_succ']
        · rintro H13 ⟨b13, S13, _, hD13⟩
          refine ⟨D2, List.replicate (ws ++ [V.ref q]).length true, rfl, SqL.of ?_, ?_⟩
          · rw [List.map_replicate]
            exact hD13
          · have z : (List.replicate (ws ++ [V.ref q]).length true).all id = true := by simp
            rw [z]
            exact ⟨_, rfl, iteF ⟨rfl, b13, S13.mono (by omega)⟩⟩
      rintro σ' H13 ⟨rfl, b13, S13⟩
      have t13 := t12.keep nal nW gM gq (.of b13)
      have T13 := tabs_but T12 b13 S12
      have g213 : ∀ b, H13 b = none → (G2 H3 W D) b = none := fun b z => g212 b (b13.fresh S13 z)
      refine ⟨fun σ' H' => σ' = [some (.ref a), some (.ref st), some (.int (0 + (i : Int))), some (.ref W), some (.ref M), x5, x6, x7, x8, x9, some (.ref q), some (.ref pg), some (.str dg.shown), some (.ref t), some (.int k), none, none, none] ∧ But2 st l H13 H' ∧ Strm (B + 42010) H' st l, ?_, ?_⟩
      · refine ⟨_, rfl, _, rfl, _, rfl, two_fit, fun t1 ht1 => ?_⟩
        have e1 := same_new (o := HO.tup [V.int (0 + (i : Int)), V.int 2]) ht1
        refine ⟨_, rfl, _, _, rfl, rfl, two_fit, fun t2 ht2 => ⟨two_fit, fun r hr => ⟨by show 1 ≤ sizeLine; decide, fun o ho => ?_⟩⟩⟩
        have e2 := same_new (o := HO.tup [V.int (0 + (i : Int) + 3), V.int 0]) ht2
        have e3 := same_new (o := HO.lst [V.ref t1, V.ref t2]) hr
        have e4 := same_new (o := HO.lst [V.ref r]) ho
        have e14 := ((e1.trans e2).trans e3).trans e4
        refine ⟨M, o, ms, [.ref r], rfl, rfl, e14 _ _ t13.hM, upd_same, Nat.le_trans (show ms.length + 1 ≤ 1000 by omega) (by decide), fun c hc => ?_⟩
        have e5 := same_new (o := HO.lst (ms ++ [V.ref r])) hc
        have e15 := e14.trans e5
        have e25 := ((e2.trans e3).trans e4).trans e5
        have e35 := (e3.trans e4).trans e5
        have e45 := e4.trans e5
        have gr : G2 H3 W D r = none := g213 r (none_back (e1.trans e2) hr)
        refine ⟨st, l, c, _, G2 H3 W D, ms ++ [.ref r], Qs ++ [[(0 + (i : Int), 2), (0 + (i : Int) + 3, 0)]], rfl, S13.but e15, by omega, by omega, gs2, gl2, fun b z => g213 b (none_back e15 z), g213 c (none_back e14 hc), upd_same, ?_, fun L hL => ?_, fun z => ?_, ?_, ?_, fun H14 b14 S14 => ⟨_, rfl, iteF ⟨rfl, fun b o x y z => b14 _ _ x y (e15 _ _ z), S14.mono (by omega)⟩⟩⟩
        · exact Paired.app5 (t13.lM.keep fun c o z e => ⟨z, e15 _ _ e⟩) (.cons ⟨r, _, rfl, gr, e45 _ _ upd_same, .cons ⟨t1, rfl, g213 t1 ht1, e25 _ _ upd_same⟩ (.cons ⟨t2, rfl, g213 t2 (none_back e1 ht2), e35 _ _ upd_same⟩ .nil)⟩ .nil)
        · rcases List.mem_append.mp hL with h | h
          · exact goodQ L h
          · rw [List.mem_singleton.mp h]
            refine ⟨⟨by show 0 ≤ 0 + (i : Int); omega, by show (0 : Int) ≤ 2; decide, by show -1 < 0 + (i : Int); omega, by show (2 : Int) ≠ 0; decide, ⟨by show 0 ≤ 0 + (i : Int) + 3; omega, by show (0 : Int) ≤ 0; decide, by show 0 + (i : Int) < 0 + (i : Int) + 3; omega, by show (0 : Int) ≠ 2; decide, rfl⟩⟩, by show 2 ≤ 150; decide, fun d hd => ?_⟩
            simp only [List.mem_cons, List.not_mem_nil, or_false] at hd
            rcases hd with rfl | rfl
            · exact ⟨by show 0 ≤ 0 + (i : Int); omega, by show 0 + (i : Int) < _; omega, by show (0 : Int) ≤ 2; decide, by show (2 : Int) < 2 ^ 59; decide⟩
            · exact ⟨by show 0 ≤ 0 + (i : Int) + 3; omega, by show 0 + (i : Int) + 3 < _; omega, by show (0 : Int) ≤ 0; decide, by show (0 : Int) < 2 ^ 59; decide⟩
        · have := congrArg List.length z
          rw [List.length_append] at this
          cases this
        · rw [List.length_append]
          show Qs.length + 1 ≤ 30
          omega
        · rw [tot_app]
          show tot Qs + 2 ≤ 900
          omega
      rintro σ' H14 ⟨rfl, b14, S14⟩
      have t14 := t13.keep nal nW gM gq (.of b14)
      have T14 := tabs_but T13 b14 S13
      have g214 : ∀ b, H14 b = none → (G2 H3 W D) b = none := fun b z => g213 b (b14.fresh S14 z)
      clear t12 T12 S12 g212 t13 T13 S13 g213 b13 b14
      refine ⟨4, rfl, by decide, by decide, fun D2 hD2 => ?_⟩
      have s15 := same_new (o := HO.lst ([] : List V)) hD2
      have nD2 := S14.ne_new hD2
      refine lc_it (walk_range (lo := 0) (n := 4)) (fun n H' => But3 st l H14 H' ∧ Tabs T0 H' ∧ Strm (B + 42010 + 3000000 * n) H' st l ∧ H' D2 = some (.lst (List.replicate n (V.bl true)))) ⟨.of fun b o x y z => s15 _ _ z, T14.ext s15, (S14.but s15).mono (by omega), upd_same⟩ (fun _ _ _ _ => trivial) ?_ ?_
      · rintro n x H15 H16 hn ⟨b16, T16, S16, hD16⟩ ⟨rfl, rfl⟩
        have t16 := t14.keep nal nW gM gq b16
        dsimp only [tYes]
        refine ⟨rfl, iteT ⟨_, rfl, _, rfl, st, l, M, _, lessB (G2 H3 W D) H16, ms, Qs, rfl, S16, by omega, by omega, lessB_some gs2 S16.some.1, lessB_some gl2 S16.some.2, fun b z => lessB_none z, lessB_of gM, t16.hM, t16.lM.keep fun b o z e => ⟨lessB_of z, e⟩, goodQ, by omega, T16, fun H17 b17 T17 S17 => ?_⟩⟩
        · refine ⟨List.replicate n (V.bl true), b17 _ _ nD2.1 nD2.2 nt_lst hD16, by rw [List.length_replicate]; exact small1000 (by omega), fun b o x y nt z => ?_, tabs_upd T17 (b17 _ _ nD2.1 nD2.2 nt_lst hD16), (S17.upd nD2.1 nD2.2).mono (by omega), ?_⟩
          · rw [upd_ne (ne_of_none z hD2)]
            exact b17 _ _ x y nt (b16 _ _ x y nt z)
          · rw [upd_same, List.replicate_succ']
      · rintro H15 ⟨b15, T15, S15, hD15⟩
        refine ⟨D2, List.replicate 4 true, rfl, SqL.of ?_, ?_⟩
        · rw [List.map_replicate]
          exact hD15
        · exact ⟨_, rfl, iteF ⟨⟨_, _, _, _, _, _, _, _, _, _, _, _, _, rfl⟩, T15, S15.mono (by omega)⟩⟩
    · rintro σ H2 ⟨z, T2, _⟩
      exact ⟨z, T2⟩
  · rintro σ' H2 ⟨⟨x2, x3, x4, x5, x6, x7, x8, x9, x10, x11, x12, x13, x14, rfl⟩, T2⟩
    refine ⟨fun σ' H' => ∃ h1 h2 h3 h4 o1 : Addr, σ' = [some (.ref a), some (.ref st), x2, x3, x4, x5, x6, x7, x8, x9, x10, x11, x12, x13, x14, none, some (.ref h4), some (.ref o1)] ∧ Fd h1 h2 h3 h4 o1 [.ref h2, .ref h3] [.int 7] H' ∧ Tabs T0 H', ?_, ?_⟩
    · refine ⟨by show 1 ≤ sizeLine; decide, fun h1 n1 => ⟨two_fit, fun h2 n2 => ⟨two_fit, fun h3 n3 => ⟨two_fit, fun h4 n4 => ⟨by show 1 ≤ sizeLine; decide, fun o1 n5 => ⟨two_fit, fun tp n6 => ?_⟩⟩⟩⟩⟩⟩
      have s1 := same_new (o := HO.lst [V.int 1]) n1
      have s2 := same_new (o := HO.lst [V.int 0, V.ref h1]) n2
      have s3 := same_new (o := HO.lst [V.int 2, V.int 0]) n3
      have s4 := same_new (o := HO.lst [V.ref h2, V.ref h3]) n4
      have s5 := same_new (o := HO.lst [V.int 7]) n5
      have s6 := same_new (o := HO.tup [V.ref h4, V.ref o1]) n6
      refine ⟨tp, _, rfl, SqT.of upd_same, rfl, _, _, rfl, _, _, rfl, rfl, h1, h2, h3, h4, o1, rfl, ⟨?_, ?_, ?_, ?_, ?_⟩, ?_⟩
      · exact s6 _ _ (s5 _ _ (s4 _ _ (s3 _ _ (s2 _ _ upd_same))))
      · exact s6 _ _ (s5 _ _ (s4 _ _ (s3 _ _ upd_same)))
      · exact s6 _ _ (s5 _ _ (s4 _ _ upd_same))
      · exact s6 _ _ (s5 _ _ upd_same)
      · exact s6 _ _ upd_same
      · exact T2.ext (((((s1.trans s2).trans s3).trans s4).trans s5).trans s6)
    clear T2 T1 S0
    rintro σ' H3 ⟨h1, h2, h3, h4, o1, rfl, f3, T3⟩
    refine ⟨T3, fun H1 e1 T1' => ⟨_, rfl, by show 1 ≤ sizeLine; decide, fun e he => ?_⟩⟩
    have se := same_new (o := HO.lst [V.ref h4]) he
    refine ⟨.ref e, rfl, .inr (.inl ⟨e, [.ref h4], [some [some [.int 0, .ref h1], some [.int 2, .int 0]]], 0, .ref h4, rfl, .inl upd_same, by show 1 ≤ 1000; decide, .cons (((f3.ext e1).ext (.of se)).cd (K := K) (C := C)) .nil, (fun j c hj => absurd hj (Nat.not_lt_zero _)), rfl, rfl, fun d H2 nd sm hd => .inl ⟨rfl, d, .ref h4, rfl, hd, two_fit, fun t1 n4 => ?_⟩⟩)⟩
    have s4 := (se.trans sm).trans (same_new (o := HO.tup [V.str "steps", V.ref h4]) n4)
    have e4 : Ext H3 (upd H2 t1 (.tup [.str "steps", .ref h4])) := e1.trans (.of s4)
    have T4 := T1'.ext s4
    have ht1 : upd H2 t1 (.tup [.str "steps", .ref h4]) t1 = some (.tup [.str "steps", .ref h4]) := upd_same
    generalize upd H2 t1 (.tup [.str "steps", .ref h4]) = H4 at e4 T4 ht1 ⊢
    refine ⟨by show 1 ≤ sizeLine; decide, fun q hq => ?_⟩
    have s5 := same_new (o := HO.lst [V.ref t1]) hq
    have f5 := (f3.ext e4).ext (.of s5)
    have T5 := T4.ext s5
    have ht5 := s5 _ _ ht1
    have hq5 : upd H4 q (.lst [.ref t1]) q = some (.lst [.ref t1]) := upd_same
    have q4 : ∀ b, (b = h1 ∨ b = h2 ∨ b = h3 ∨ b = h4 ∨ b = o1) → b ≠ q := fun b hb z => by
      have f4 := f3.ext e4
      rw [← z] at hq
      rcases hb with rfl | rfl | rfl | rfl | rfl
      · rw [f4.e1] at hq; cases hq
      · rw [f4.e2] at hq; cases hq
      · rw [f4.e3] at hq; cases hq
      · rw [f4.e4] at hq; cases hq
      · rw [f4.e5] at hq; cases hq
    generalize upd H4 q (.lst [.ref t1]) = H5 at s5 f5 T5 ht5 hq5 ⊢
    refine ⟨_, rfl, .inl ⟨rfl, _, SqL.of hq5⟩, T5, fun H6 e6 T6 => ⟨Nat.zero_le _, fun e he => ⟨_, rfl, .ref e, .ref o1, _, some [.int 7], rfl, (stl_nil upd_same).cd, ?_, (fun z => by cases z), (fun _ _ d H7 nd sm hd => .inr ⟨rfl, d, .ref o1, rfl, hd, two_fit, fun t2 ht2 => ?_⟩), fun _ z => by cases z⟩⟩⟩
    · exact .inr (.inr ⟨o1, _, rfl, .inl (same_new he _ _ (f5.ext e6).e5), rfl⟩)
    have s7 := ((same_new (o := HO.lst ([] : List V)) he).trans sm).trans (same_new (o := HO.tup [V.str "turns", V.ref o1]) ht2)
    have e8 : Ext H5 (upd H7 t2 (.tup [.str "turns", .ref o1])) := e6.trans (.of s7)
    have f8 := f5.ext e8
    have T8 := T6.ext s7
    have h18 := e8 _ _ ht5 nt_tup
    have hq8 := e8 _ _ hq5 nt_lst
    have h28 : upd H7 t2 (.tup [.str "turns", .ref o1]) t2 = some (.tup [.str "turns", .ref o1]) := upd_same
    generalize upd H7 t2 (.tup [.str "turns", .ref o1]) = H8 at f8 T8 h18 hq8 h28 ⊢
    refine ⟨q, _, .ref t2, rfl, rfl, hq8, by show 1 < sizeLine; decide, ?_⟩
    have tq : ∀ {t u : Addr} {xs ys : List V} {H : Hp}, H t = some (.tup ys) → H u = some (.lst xs) → t ≠ u := fun g h => ne_of g h fun z => by cases z
    have f9 : Fd h1 h2 h3 h4 o1 [.ref h2, .ref h3] [.int 7] (upd H8 q (.lst ([.ref t1] ++ [.ref t2]))) := f8.off fun b u _ z hb => q4 b hb z
    have h19 : upd H8 q (.lst ([.ref t1] ++ [.ref t2])) t1 = some (.tup [.str "steps", .ref h4]) := by rw [upd_ne (tq h18 hq8)]; exact h18
    have h29 : upd H8 q (.lst ([.ref t1] ++ [.ref t2])) t2 = some (.tup [.str "turns", .ref o1]) := by rw [upd_ne (tq h28 hq8)]; exact h28
    have hq9 : upd H8 q (.lst ([.ref t1] ++ [.ref t2])) q = some (.lst ([.ref t1] ++ [.ref t2])) := upd_same
    generalize upd H8 q (.lst ([.ref t1] ++ [.ref t2])) = H9 at f9 h19 h29 hq9 ⊢
    refine ⟨_, rfl, .inl ⟨rfl, _, SqL.of f9.e4⟩, h4, _, .str "late", rfl, rfl, f9.e4, by show 2 < sizeLine; decide, ?_⟩
    have f10 := f9.held (X' := [.ref h2, .ref h3] ++ [.str "late"])
    have h110 : upd H9 h4 (.lst ([.ref h2, .ref h3] ++ [.str "late"])) t1 = some (.tup [.str "steps", .ref h4]) := by rw [upd_ne (tq h19 f9.e4)]; exact h19
    have h210 : upd H9 h4 (.lst ([.ref h2, .ref h3] ++ [.str "late"])) t2 = some (.tup [.str "turns", .ref o1]) := by rw [upd_ne (tq h29 f9.e4)]; exact h29
    have hq10 : upd H9 h4 (.lst ([.ref h2, .ref h3] ++ [.str "late"])) q = some (.lst ([.ref t1] ++ [.ref t2])) := by rw [upd_ne (q4 h4 (.inr (.inr (.inr (.inl rfl))))).symm]; exact hq9
    generalize upd H9 h4 (.lst ([.ref h2, .ref h3] ++ [.str "late"])) = H10 at f10 h110 h210 hq10 ⊢
    refine ⟨_, rfl, .inl ⟨rfl, _, SqL.of f10.e5⟩, o1, _, .str "late", rfl, rfl, f10.e5, by show 1 < sizeLine; decide, ?_⟩
    have f11 := f10.odd (Y' := [.int 7] ++ [.str "late"])
    have h111 : upd H10 o1 (.lst ([.int 7] ++ [.str "late"])) t1 = some (.tup [.str "steps", .ref h4]) := by rw [upd_ne (tq h110 f10.e5)]; exact h110
    have h211 : upd H10 o1 (.lst ([.int 7] ++ [.str "late"])) t2 = some (.tup [.str "turns", .ref o1]) := by rw [upd_ne (tq h210 f10.e5)]; exact h210
    have hq11 : upd H10 o1 (.lst ([.int 7] ++ [.str "late"])) q = some (.lst ([.ref t1] ++ [.ref t2])) := by rw [upd_ne (q4 o1 (.inr (.inr (.inr (.inr rfl))))).symm]; exact hq10
    generalize upd H10 o1 (.lst ([.int 7] ++ [.str "late"])) = H11 at f11 h111 h211 hq11 ⊢
    clear f10 h110 h210 hq10 f9 h19 h29 hq9 f8 T8 h18 hq8 h28
    refine ⟨_, rfl, by show 1 ≤ sizeLine; decide, fun a1 m1 => ⟨two_fit, fun a2 m2 => ⟨two_fit, fun a3 m3 => ⟨by show 3 ≤ sizeLine; decide, fun a4 m4 => ⟨two_fit, fun a5 m5 => ⟨two_fit, fun a6 m6 => ⟨two_fit, fun a7 m7 => ⟨two_fit, fun a8 m8 => ?_⟩⟩⟩⟩⟩⟩⟩⟩
    have r1 := same_new (o := HO.lst [V.int 1]) m1
    have r2 := same_new (o := HO.lst [V.int 0, V.ref a1]) m2
    have r3 := same_new (o := HO.lst [V.int 2, V.int 0]) m3
    have r4 := same_new (o := HO.lst [V.ref a2, V.ref a3, V.str "late"]) m4
    have r5 := same_new (o := HO.tup [V.str "steps", V.ref a4]) m5
    have r6 := same_new (o := HO.lst [V.int 7, V.str "late"]) m6
    have r7 := same_new (o := HO.tup [V.str "turns", V.ref a6]) m7
    have r8 := same_new (o := HO.lst [V.ref a5, V.ref a7]) m8
    have z7 := r7.trans r8
    have z6 := r6.trans z7
    have z5 := r5.trans z6
    have z4 := r4.trans z5
    have z3 := r3.trans z4
    have z2 := r2.trans z3
    have z1 := r1.trans z2
    have f := f11.ext (.of z1)
    refine ⟨_, _, rfl, eqt_l (z1 _ _ hq11) upd_same (.cons ?_ (.cons ?_ .nil)) (by simp), fun H' _ => k H'⟩
    · refine eqt_u (z1 _ _ h111) (z6 _ _ upd_same) (.cons (eqt_atom rfl) (.cons ?_ .nil)) (by simp)
      refine eqt_l f.e4 (z5 _ _ upd_same) (.cons ?_ (.cons ?_ (.cons (eqt_atom rfl) .nil))) (by simp)
      · exact eqt_l f.e2 (z3 _ _ upd_same) (.cons (eqt_atom rfl) (.cons (eqt_l f.e1 (z2 _ _ upd_same) (.cons (eqt_atom rfl) .nil) (by simp)) .nil)) (by simp)
      · exact eqt_l f.e3 (z4 _ _ upd_same) (.cons (eqt_atom rfl) (.cons (eqt_atom rfl) .nil)) (by simp)
    · exact eqt_u (z1 _ _ h211) (r8 _ _ upd_same) (.cons (eqt_atom rfl) (.cons (eqt_l f.e5 (z7 _ _ upd_same) (.cons (eqt_atom rfl) (.cons (eqt_atom rfl) .nil)) (by simp)) .nil)) (by simp)
end
end K05

set_option Elab.async false
set_option linter.all false
set_option maxRecDepth 100000
set_option maxHeartbeats 8000000
namespace K05
open PySem PySem.Spec PyProof.Rows L2 Own LamX
section
variable {P : Program} {w : World} {K : PySem.W.Frag} {mg : Str → Option Value} {base : Heap}
theorem sci_BadPlaces : FnScope ["self", "places"] ["self", "places"] (defScope (inClass (topS 7) 0)) := ⟨rfl, rfl, rfl, by decide +kernel, rfl, by decide +kernel, by decide +kernel⟩
theorem ei_BadPlaces {C fI : Addr} {fd : FuncData} (F : Fun K "__init__" "BadPlaces.__init__" (inClass (topS 7) 0) fI fd) (g : mg "BadPlaces" = some (.ref C)) (I : ExcI K C fI) (no : PySem.W.findIn K (.ref C) "places" = some none) : EI P w K mg base "BadPlaces" "places" C := by
  refine ⟨g, fI, fd, I, F.ok sci_BadPlaces (fun vs H Q E h => ?_) (fun cdv A outer s H vs Q E hr h => ?_), F.binds fun _ _ _ _ _ _ us hl => match us, hl with | [_, _], _ => rfl⟩
  · obtain ⟨a, v, rfl, _⟩ := h
    rfl
  · obtain ⟨a, v, rfl, ha, k⟩ := h
    refine ⟨_, pss_one (ps_ost (pv 0) (pv 1)), ?_⟩
    exact ⟨_, rfl, _, rfl, a, C, rfl, I.ox, no, .inl ⟨ha, fun dx nd ne => k dx nd ne⟩⟩
theorem sci_BadRoads : FnScope ["self", "index"] ["self", "index"] (defScope (inClass (topS 8) 0)) := ⟨rfl, rfl, rfl, by decide +kernel, rfl, by decide +kernel, by decide +kernel⟩
theorem ei_BadRoads {C fI : Addr} {fd : FuncData} (F : Fun K "__init__" "BadRoads.__init__" (inClass (topS 8) 0) fI fd) (g : mg "BadRoads" = some (.ref C)) (I : ExcI K C fI) (no : PySem.W.findIn K (.ref C) "index" = some none) : EI P w K mg base "BadRoads" "index" C := by
  refine ⟨g, fI, fd, I, F.ok sci_BadRoads (fun vs H Q E h => ?_) (fun cdv A outer s H vs Q E hr h => ?_), F.binds fun _ _ _ _ _ _ us hl => match us, hl with | [_, _], _ => rfl⟩
  · obtain ⟨a, v, rfl, _⟩ := h
    rfl
  · obtain ⟨a, v, rfl, ha, k⟩ := h
    refine ⟨_, pss_one (ps_ost (pv 0) (pv 1)), ?_⟩
    exact ⟨_, rfl, _, rfl, a, C, rfl, I.ox, no, .inl ⟨ha, fun dx nd ne => k dx nd ne⟩⟩
theorem sci_BadDoors : FnScope ["self", "index"] ["self", "index"] (defScope (inClass (topS 9) 0)) := ⟨rfl, rfl, rfl, by decide +kernel, rfl, by decide +kernel, by decide +kernel⟩
theorem ei_BadDoors {C fI : Addr} {fd : FuncData} (F : Fun K "__init__" "BadDoors.__init__" (inClass (topS 9) 0) fI fd) (g : mg "BadDoors" = some (.ref C)) (I : ExcI K C fI) (no : PySem.W.findIn K (.ref C) "index" = some none) : EI P w K mg base "BadDoors" "index" C := by
  refine ⟨g, fI, fd, I, F.ok sci_BadDoors (fun vs H Q E h => ?_) (fun cdv A outer s H vs Q E hr h => ?_), F.binds fun _ _ _ _ _ _ us hl => match us, hl with | [_, _], _ => rfl⟩
  · obtain ⟨a, v, rfl, _⟩ := h
    rfl
  · obtain ⟨a, v, rfl, ha, k⟩ := h
    refine ⟨_, pss_one (ps_ost (pv 0) (pv 1)), ?_⟩
    exact ⟨_, rfl, _, rfl, a, C, rfl, I.ox, no, .inl ⟨ha, fun dx nd ne => k dx nd ne⟩⟩
theorem sci_BadSteps : FnScope ["self", "steps"] ["self", "steps"] (defScope (inClass (topS 10) 0)) := ⟨rfl, rfl, rfl, by decide +kernel, rfl, by decide +kernel, by decide +kernel⟩
theorem ei_BadSteps {C fI : Addr} {fd : FuncData} (F : Fun K "__init__" "BadSteps.__init__" (inClass (topS 10) 0) fI fd) (g : mg "BadSteps" = some (.ref C)) (I : ExcI K C fI) (no : PySem.W.findIn K (.ref C) "steps" = some none) : EI P w K mg base "BadSteps" "steps" C := by
  refine ⟨g, fI, fd, I, F.ok sci_BadSteps (fun vs H Q E h => ?_) (fun cdv A outer s H vs Q E hr h => ?_), F.binds fun _ _ _ _ _ _ us hl => match us, hl with | [_, _], _ => rfl⟩
  · obtain ⟨a, v, rfl, _⟩ := h
    rfl
  · obtain ⟨a, v, rfl, ha, k⟩ := h
    refine ⟨_, pss_one (ps_ost (pv 0) (pv 1)), ?_⟩
    exact ⟨_, rfl, _, rfl, a, C, rfl, I.ox, no, .inl ⟨ha, fun dx nd ne => k dx nd ne⟩⟩
theorem sci_BadTurns : FnScope ["self", "turns"] ["self", "turns"] (defScope (inClass (topS 12) 0)) := ⟨rfl, rfl, rfl, by decide +kernel, rfl, by decide +kernel, by decide +kernel⟩
theorem ei_BadTurns {C fI : Addr} {fd : FuncData} (F : Fun K "__init__" "BadTurns.__init__" (inClass (topS 12) 0) fI fd) (g : mg "BadTurns" = some (.ref C)) (I : ExcI K C fI) (no : PySem.W.findIn K (.ref C) "turns" = some none) : EI P w K mg base "BadTurns" "turns" C := by
  refine ⟨g, fI, fd, I, F.ok sci_BadTurns (fun vs H Q E h => ?_) (fun cdv A outer s H vs Q E hr h => ?_), F.binds fun _ _ _ _ _ _ us hl => match us, hl with | [_, _], _ => rfl⟩
  · obtain ⟨a, v, rfl, _⟩ := h
    rfl
  · obtain ⟨a, v, rfl, ha, k⟩ := h
    refine ⟨_, pss_one (ps_ost (pv 0) (pv 1)), ?_⟩
    exact ⟨_, rfl, _, rfl, a, C, rfl, I.ox, no, .inl ⟨ha, fun dx nd ne => k dx nd ne⟩⟩
end
end K05

set_option Elab.async false
set_option linter.all false
set_option maxRecDepth 100000
set_option maxHeartbeats 2000000
/-! He.hookX over a part of the heap of one's own choice -/
namespace Own
open PySem PySem.Spec PyProof.Rows L2 He
def asN (names : List Str) (n : Nat) (g : Addr → Option Obj) : List Addr := mainGlobals :: Nat.rec (names.map fun x => ga (frG g [mainGlobals]) x) (fun _ as => growD g as) n
section
variable (as : (Addr → Option Obj) → List Addr)
def obsY (fa : List Fa) (fn : List DefD) (ts : List Tab) (tf : List Defn) (ex : PySem.W.Frag → Bool) (g : Addr → Option Obj) : AlX := (obsT fa fn ts (frT g (as g)), ex (frT g (as g)) && tabsB g tf (frT g (as g)))
theorem saysY_of {fa : List Fa} {fn : List DefD} {ts : List Tab} {tf : List Defn} {ex : PySem.W.Frag → Bool} {w : World} {h : Heap} (e : obsY as fa fn ts tf ex h.get? = valX fn ts w) : SaysX fa fn ts tf ex w h (frT h.get? (as h.get?)) := by
  have e1 : obsT fa fn ts (frT h.get? (as h.get?)) = valT fn ts w := congrArg (fun z : AlX => z.1) e
  have e2 : (ex (frT h.get? (as h.get?)) && tabsB h.get? tf (frT h.get? (as h.get?))) = true := congrArg (fun z : AlX => z.2) e
  obtain ⟨h1, h2⟩ := ba e2
  have key : ∀ p ∈ tf, PySem.W.codeHdIn (frT h.get? (as h.get?)) (cT (frT h.get? (as h.get?)) p).1 (cT (frT h.get? (as h.get?)) p).2 = true ∧ ∃ o, h.get? (cT (frT h.get? (as h.get?)) p).2 = some o ∧ emptyTab o = true := fun p hp => by
    obtain ⟨h3, h4⟩ := ba (List.all_eq_true.mp h2 p hp)
    refine ⟨h3, ?_⟩
    cases q : h.get? (cT (frT h.get? (as h.get?)) p).2 with
    | none =>
      rw [q] at h4
      cases h4
    | some o =>
      rw [q] at h4
      exact ⟨o, rfl, h4⟩
  exact ⟨e1, h1, fun p hp => (key p hp).1, fun p hp => by
    obtain ⟨_, o, q, z⟩ := key p hp
    exact frT_none q z, fun p hp => by
    obtain ⟨_, o, q, z⟩ := key p hp
    rw [q, emptyTab_eq z]⟩
def hookY (fa : List Fa) (fn : List DefD) (ts : List Tab) (tf : List Defn) (ex : PySem.W.Frag → Bool) : PySem.W.Hook where
  α := AlX
  obs := fun s => obsY as fa fn ts tf ex s.heap.get?
  val := fun w => valX fn ts w
  says := fun w h => ∃ K : PySem.W.Frag, K.In h ∧ SaysX fa fn ts tf ex w h K
  of := fun _ _ e => ⟨_, frT_in, saysY_of as e⟩
  keeps := fun _ _ _ ⟨K, hK, c⟩ k => ⟨K, PySem.W.Frag.In.keeps hK k, ⟨c.t, c.more, c.hd, c.out, fun p hp => k _ _ (c.empty p hp)⟩⟩
theorem obsY_eq {fa : List Fa} {fn : List DefD} {ts : List Tab} {tf : List Defn} {ex : PySem.W.Frag → Bool} {g : Addr → Option Obj} {s : Shared} (h : ∀ a, g a = s.heap.get? a) : obsY as fa fn ts tf ex g = (hookY as fa fn ts tf ex).obs s := by
  have e : g = s.heap.get? := funext h
  rw [e] <;> rfl
end
end Own

set_option Elab.async false
set_option linter.all false
set_option maxRecDepth 100000
set_option maxHeartbeats 8000000
namespace K05
open PySem PySem.Spec PyProof.Rows L2 Own LamX
/-- the class stands as an own exception class over ValueError -/
def oexB (K : PySem.W.Frag) (C : Addr) : Bool := match K.lookup C with
  | some ⟨.type ty, _, .cls cd, sl⟩ => (match cd.mro, sl.toList with
    | .ref C1 :: bm, [_, _, _, _, some (.builtin n), _] => ty == "type" && (C1 == C && (n == "ValueError.__new__" && (!cd.hasDel && (cd.hasDict && PySem.HandSPX.refsVE bm))))
    | _, _ => false)
  | _ => false
theorem oexB_ok {K : PySem.W.Frag} {C : Addr} (h : oexB K C = true) : ∃ nm q N bs bm sn sub ab col dd k0 k1 k2 k3 k5, K.lookup C = some (excClassObj nm q C N bs bm true sn sub ab col dd k0 k1 k2 k3 k5 "ValueError.__new__") ∧ PySem.HandSPX.refsVE bm = true := by
  unfold oexB at h
  split at h
  · rename_i ty dd cd sl ho
    split at h
    · rename_i C1 bm k0 k1 k2 k3 n k5 hm hs
      simp only [Bool.and_eq_true, beq_iff_eq, Bool.not_eq_true'] at h
      obtain ⟨rfl, rfl, rfl, hdel, hdict, hr⟩ := h
      obtain ⟨nm, bs, mro, ns, qn, hd, sn, sub, ab, col, del⟩ := cd
      dsimp only at hm hdel hdict
      subst hm hdel hdict
      obtain ⟨l⟩ := sl
      dsimp only at hs
      subst hs
      exact ⟨nm, qn, ns, bs, bm, sn, sub, ab, col, dd, k0, k1, k2, k3, k5, ho, hr⟩
    · cases h
  · cases h
def clsB (K : PySem.W.Frag) (C : Addr) : Bool :=
  oexB K C && (He.eqO (PySem.W.findIn K (.ref C) "__setattr__") (some (some (.builtin "object.__setattr__"))) && (decide (PySem.W.subIn K (.ref C) (.type "BaseException") = some true) &&
  (decide (PySem.W.typeIn K (.ref C) = some (.type "type")) && (PySem.W.keepIn K (.ref C) && (He.eqO (PySem.W.findIn K (.ref C) "__getattribute__") (some (some (.builtin "BaseException.__getattribute__"))) &&
  (He.eqO (PySem.W.findIn K (.ref C) "__getattr__") (some none) && (PySem.W.hasDictIn K C && (He.eqO (PySem.W.findIn K (.ref C) "__class__") (some (some (.builtin "object.__class__"))) &&
  (He.eqO (PySem.W.specialIn K (.builtin "object.__class__") "__get__") (some (some (.builtin "getset_descriptor.__get__"))) && (decide (PySem.W.takesIn K (.builtin "object.__class__") = some true) && decide (PySem.W.mroIn K C (.type "object") = some true)))))))))))
theorem clsB_ok {K : PySem.W.Frag} {C : Addr} (h : clsB K C = true) : OexC K C ∧ ExcC K C := by
  unfold clsB at h
  simp only [Bool.and_eq_true, decide_eq_true_eq] at h
  obtain ⟨h1, h2, h3, h4, h5, h6, h7, h8, h9, h10, h11, h12⟩ := h
  exact ⟨⟨oexB_ok h1, He.eqO_ok h2, h3, h4, h5⟩, ⟨He.eqO_ok h6, He.eqO_ok h7, h3, h8, He.eqO_ok h9, He.eqO_ok h10, h11, h12⟩⟩
def nIn : List (Str × Str) := [("BadPlaces", "places"), ("BadRoads", "index"), ("BadDoors", "index"), ("BadSteps", "steps"), ("BadTurns", "turns")]
def initB (K : PySem.W.Frag) : Bool := nIn.all fun p => (clsB K (He.ga K p.1) && xfB K (He.ga K p.1)) && (He.eqO (PySem.W.findIn K (.ref (He.ga K p.1)) "__init__") (some (some (.ref (He.ma K (He.ga K p.1) "__init__")))) &&
  (decide (PySem.W.typeIn K (.ref (He.ma K (He.ga K p.1) "__init__")) = some (.type "function")) && He.eqO (PySem.W.findIn K (.ref (He.ga K p.1)) p.2) (some none)))
def tyN : List String := ["int", "bool", "list", "tuple", "dict", "str"]
/-- of the class House: its type can be asked for, it has the built-in !=, and it is below no built-in type -/
def houB (K : PySem.W.Frag) : Bool := He.eqO (PySem.W.findIn K (.ref (He.ga K "House")) "__class__") (some (some (.builtin "object.__class__"))) && (He.eqO (PySem.W.specialIn K (.builtin "object.__class__") "__get__") (some (some (.builtin "getset_descriptor.__get__"))) &&
  (decide (PySem.W.takesIn K (.builtin "object.__class__") = some true) && (decide (PySem.W.mroIn K (He.ga K "House") (.type "object") = some true) && (He.eqO (PySem.W.findIn K (.ref (He.ga K "House")) "__ne__") (some (some (.builtin "object.__ne__"))) &&
  tyN.all fun T => decide (PySem.W.kitOne K (.ref (He.ga K "House")) (.type T) = some false)))))
def defD (x : Str) (st : Stmt) : He.DefD := ⟨(x, none), x, x, defArgs st, defBody st, defScope st, [], []⟩
def metD (c m q : Str) (st : Stmt) : He.DefD := ⟨(c, some m), m, q, defArgs st, defBody st, defScope st, [], []⟩
abbrev pR : He.Defn := ("_law_refused_right", none)
abbrev pL : He.Defn := ("law", none)
def fnD : List He.DefD := [defD "change_from" (topS 1), defD "change_by_steps" (topS 2), defD "steps_of" (topS 3), defD "is_integer" (topS 15), defD "is_number" (topS 16), defD "is_list" (topS 17), defD "is_place" (topS 20), defD "is_road" (topS 21), defD "is_door" (topS 22), defD "first_wrong_road" (topS 23), defD "comes_to" (topS 24), defD "first_wrong_door" (topS 25)] ++
  [defD "is_steps" (topS 27), defD "need_steps" (topS 28), defD "together" (topS 29), defD "later" (topS 30), defD "_law_stream" (topS 32), defD "_law_draw" (topS 33), defD "_law_pick" (topS 34), defD "_law_mixed" (topS 35), defD "_law_same" (topS 36), defD "_law_loose" (topS 37), defD "_law_is_number" (topS 38), defD "_law_is_list" (topS 39)] ++
  [defD "_law_is_steps" (topS 40), defD "_law_rate" (topS 41), defD "_law_p_steps" (topS 42), defD "_law_p_added" (topS 43), defD "_law_p_parts" (topS 44), defD "_law_p_deep" (topS 45), defD "_law_p_odd" (topS 46), defD "_law_p_bent" (topS 47), defD "_law_p_shifted" (topS 48), defD "_law_p_tried" (topS 49), defD "_law_due" (topS 50), defD "_law_later_due" (topS 51)] ++
  [defD "_law_later_right" (topS 52), defD "_law_changed_right" (topS 53), defD "_law_refused_right" (topS 54), defD "law" (topS 55), metD "BadPlaces" "__init__" "BadPlaces.__init__" (inClass (topS 7) 0), metD "BadRoads" "__init__" "BadRoads.__init__" (inClass (topS 8) 0), metD "BadDoors" "__init__" "BadDoors.__init__" (inClass (topS 9) 0), metD "BadSteps" "__init__" "BadSteps.__init__" (inClass (topS 10) 0), metD "BadTurns" "__init__" "BadTurns.__init__" (inClass (topS 12) 0), metD "House" "__init__" "House.__init__" (inClass (topS 19) 0), metD "House" "__eq__" "House.__eq__" (inClass (topS 19) 4)]
def faD : List He.Fa := [.glo "change_from", .glo "change_by_steps", .glo "steps_of", .glo "is_integer", .glo "is_number", .glo "is_list", .glo "is_place", .glo "is_road", .glo "is_door", .glo "first_wrong_road", .glo "comes_to", .glo "first_wrong_door", .glo "is_steps", .glo "need_steps", .glo "together", .glo "later"] ++
  [.glo "_law_stream", .glo "_law_draw", .glo "_law_pick", .glo "_law_mixed", .glo "_law_same", .glo "_law_loose", .glo "_law_is_number", .glo "_law_is_list", .glo "_law_is_steps", .glo "_law_rate", .glo "_law_p_steps", .glo "_law_p_added", .glo "_law_p_parts", .glo "_law_p_deep", .glo "_law_p_odd", .glo "_law_p_bent"] ++
  [.glo "_law_p_shifted", .glo "_law_p_tried", .glo "_law_due", .glo "_law_later_due", .glo "_law_later_right", .glo "_law_changed_right", .glo "_law_refused_right", .glo "law", .glo "House", .glo "BadPlaces", .glo "BadRoads", .glo "BadDoors", .glo "BadSteps", .glo "BadTurns", .glo "BadHouse", .glo "BadTurn"] ++
  [.glo "BadPlan", .free "abs", .free "int", .free "list", .free "len", .free "isinstance", .free "tuple", .free "dict", .free "bool", .free "all", .free "zip", .free "range", .free "enumerate", .free "max", .free "str", .free "min"] ++
  [.free "repr", .free "sorted", .free "sum", .cls "House", .noat "House" "_places", .noat "House" "_roads", .noat "House" "_doors", .mkr "House", .meth "House" "__eq__", .exm "BadSteps" "BadHouse" false, .exm "BadSteps" "BadSteps" true, .exm "BadTurns" "BadHouse" false, .exm "BadTurns" "BadSteps" false, .exm "BadTurns" "BadTurn" false, .exm "BadTurns" "BadTurns" true]
def tfD : List He.Defn := [pR, pL]
def difB (K : PySem.W.Frag) : Bool := decide ((He.cT K pR).2 ≠ (He.cT K pL).2) && decide (PySem.W.typeIn K (.ref (He.ga K "_law_draw")) = some (.type "function"))
abbrev R : PySem.W.OpenRow := PySem.W.OpenLaw.row PySem.Challenge.rw_lastbell_k05_whole_added_and_later
def exA (K : PySem.W.Frag) : Bool := initB K && (houB K && difB K)
def nmN : List Str := (["change_from", "change_by_steps", "steps_of", "is_integer", "is_number", "is_list", "is_place", "is_road", "is_door", "first_wrong_road", "comes_to", "first_wrong_door"] : List Str) ++ (["is_steps", "need_steps", "together", "later", "_law_stream", "_law_draw", "_law_pick", "_law_mixed", "_law_same", "_law_loose", "_law_is_number", "_law_is_list"] : List Str) ++ (["_law_is_steps", "_law_rate", "_law_p_steps", "_law_p_added", "_law_p_parts", "_law_p_deep", "_law_p_odd", "_law_p_bent", "_law_p_shifted", "_law_p_tried", "_law_due", "_law_later_due"] : List Str) ++ (["_law_later_right", "_law_changed_right", "_law_refused_right", "law", "House", "BadPlaces", "BadRoads", "BadDoors", "BadSteps", "BadTurns", "BadHouse", "BadTurn"] : List Str) ++ (["BadPlan"] : List Str)
abbrev hk : PySem.W.Hook := hookY (asN nmN 3) faD fnD [] tfD exA
def ob (s : PySem.W.SharedT) : He.AlX := obsY (asN nmN 3) faD fnD [] tfD exA (HandSHeadRun.getT s)
theorem ob_eq (s : PySem.W.SharedT) : ob s = hk.obs s.abs := obsY_eq (asN nmN 3) (HandSHeadRun.getT_eq s)
end K05

set_option Elab.async false
set_option linter.all false
set_option maxRecDepth 100000
set_option maxHeartbeats 0
namespace K05
open PySem PySem.Spec PyProof.Rows L2 Own
def looseN : List Str := (["__name__", "change_from", "change_by_steps", "steps_of", "BellError", "BadHouse", "BadPlaces", "BadRoads", "BadDoors", "BadSteps", "BadTurn", "BadTurns"] : List Str) ++ (["BadPlan", "is_integer", "is_number", "is_list", "House", "is_place", "is_road", "is_door", "first_wrong_road", "comes_to", "first_wrong_door", "is_steps"] : List Str) ++ (["need_steps", "together", "later", "_law_stream", "_law_draw", "_law_pick", "_law_mixed", "_law_same", "_law_loose", "_law_is_number", "_law_is_list", "_law_is_steps"] : List Str) ++ (["_law_rate", "_law_p_steps", "_law_p_added", "_law_p_parts", "_law_p_deep", "_law_p_odd", "_law_p_bent", "_law_p_shifted", "_law_p_tried", "_law_due", "_law_later_due", "_law_later_right"] : List Str) ++ (["_law_changed_right", "_law_refused_right"] : List Str)
theorem run (w : World) : HandSHeadRun.RunEq R (PySem.W.view R.prog [55]) hk ob 9000 looseN w := by
  intro os
  kernel_rfl
end K05

set_option Elab.async false
set_option linter.all false
set_option maxRecDepth 100000
set_option maxHeartbeats 4000000
/-! the law's call, where its def's promise asks that no repr is under way -/
namespace Own
open PySem PySem.Spec PyProof.Rows L2 LamX
section
variable {K : PySem.W.Frag} {mg mb : Str → Option Value} {s : Shared} {H : Hp} {a : Addr} {vs : List Value} {cs : List (Addr × Addr)}
/-- what is tracked at the start: the script, the empty tables -/
structure Few (K : PySem.W.Frag) (s : Shared) (H : Hp) (a : Addr) (vs : List Value) (cs : List (Addr × Addr)) : Prop where
  of : ∀ b u, H b = some u → (b = a ∧ K.lookup a = none) ∨ ∃ p ∈ cs, b = p.2
  scr : s.heap.get? a = some { cls := .type "list", data := .seq vs.toArray }
  tab : ∀ p ∈ cs, s.heap.get? p.2 = some { cls := .none, data := .fields #[] }
  out : ∀ p ∈ cs, K.lookup p.2 = none
/-- an object of another kind is not tracked -/
theorem Few.off (f : Few K s H a vs cs) {b : Addr} {o : Obj} (e : s.heap.get? b = some o) (n1 : ∀ xs n, o.data ≠ .seq xs n) (n2 : o.data ≠ .fields #[]) : H b = none := by
  cases q : H b with
  | none => rfl
  | some u =>
    exfalso
    rcases f.of b u q with ⟨rfl, _⟩ | ⟨p, hp, rfl⟩
    · have z := f.scr.symm.trans e
      rw [← Option.some.inj z] at n1
      exact n1 _ _ rfl
    · have z := (f.tab p hp).symm.trans e
      rw [← Option.some.inj z] at n2
      exact n2 rfl
theorem Few.ns (f : Few K s H a vs cs) {b : Addr} {m : Str → Option Value} (h : s.heap.Ns b m) : (hidT s.heap H).Ns b m := by
  obtain ⟨o, es, ep, e, d, r⟩ := h
  refine ⟨o, es, ep, hidT_get e (f.off e (fun xs n z => ?_) fun z => ?_), d, r⟩ <;> (rw [d] at z; cases z)
theorem Few.kin (f : Few K s H a vs cs) (X : K.In s.heap) : K.In (hidT s.heap H) := fun b o e => hidT_get (X b o e) (by
  cases q : H b with
  | none => rfl
  | some u =>
    rcases f.of b u q with ⟨rfl, k⟩ | ⟨p, hp, rfl⟩
    · rw [k] at e
      cases e
    · rw [f.out p hp] at e
      cases e)
theorem Few.tabB (f : Few K s H a vs cs) (hns : s.heap.Ns mainGlobals mg) (hbm : ∃ (bm : Addr) (ob : Obj), mg "__builtins__" = some (.ref bm) ∧ bm ≠ builtinsNs ∧ s.heap.get? bm = some ob ∧ ob.cls = .type "module" ∧ ob.dict = some builtinsNs ∧ ob.data = .plain)
    {p : Addr × Addr} (hp : p ∈ cs) (C : PySem.W.CodeHd s.heap p.1 p.2) : TabB (hidT s.heap H) mg p.1 p.2 where
  code := by
    obtain ⟨o, us, file, tf, flags, tg, inF, text, tt, e1, r1, r2, r3, rest⟩ := C
    refine ⟨o, us, file, tf, flags, tg, inF, text, tt, hidT_get e1 (f.off e1 (fun xs n z => ?_) fun z => ?_), r1, r2, r3, rest⟩
    · rw [r2] at z
      cases z
    · rw [r2] at z
      injection z with z
      subst z
      simp at r3
  bm := by
    obtain ⟨bm, ob, b1, b2, b3, b4, b5, b6⟩ := hbm
    have off : H bm = none := by
      refine f.off b3 (fun xs n z => ?_) fun z => ?_ <;> (rw [b6] at z; cases z)
    refine ⟨bm, ob, b1, b2, fun q => ?_, fun q => ?_, hidT_get b3 off, b4, b5, b6⟩
    · obtain ⟨o, es, ep, e, d, _⟩ := hns
      rw [← q, b3] at e
      rw [← Option.some.inj e, b6] at d
      cases d
    · have z := f.tab p hp
      rw [← q, b3] at z
      rw [Option.some.inj z] at b6
      cases b6
  gP := fun q => by
    obtain ⟨o, es, ep, e, d, _⟩ := hns
    have z := f.tab p hp
    rw [← q, e] at z
    rw [Option.some.inj z] at d
    cases d
end
/-- the start: which objects are tracked depends on whether the script stands in K -/
theorem few_start {K : PySem.W.Frag} {s : Shared} {a : Addr} {vs : List Value} {ns : List Int} {cs : List (Addr × Addr)} (P : Program) (w : World) (KX : K.In s.heap) (ha : s.heap.get? a = some { cls := .type "list", data := .seq vs.toArray }) (hi : IntsAre vs ns) (hl : ns.length ≤ sizeLine)
    (hT : ∀ p ∈ cs, s.heap.get? p.2 = some { cls := .none, data := .fields #[] }) (nT : ∀ p ∈ cs, K.lookup p.2 = none) :
    ∃ H : Hp, Few K s H a vs cs ∧ (∀ p ∈ cs, H p.2 = some (.tbl #[])) ∧ SqL K H a (ns.map V.int) ∧ HOk P w H s.heap ∧ ∀ b u, H b = some u → (∃ o xs, u = .frz o (.lst xs)) ∨ ∃ p ∈ cs, b = p.2 := by
  have rv := vals_ints hi
  have aT : ∀ p ∈ cs, p.2 ≠ a := fun p hp z => by
    have q := hT p hp
    rw [z, ha] at q
    cases q
  classical
  cases hk : K.lookup a with
  | some o =>
    refine ⟨fun b => if ∃ p ∈ cs, b = p.2 then some (.tbl #[]) else none, ⟨fun b u z => ?_, ha, hT, nT⟩, fun p hp => if_pos ⟨p, hp, rfl⟩, ?_, fun b u z => ?_, fun b u z => ?_⟩
    · try dsimp only at z
      by_cases h : ∃ p ∈ cs, b = p.2
      · exact .inr h
      · rw [if_neg h] at z
        cases z
    · have e := (KX a o hk).symm.trans ha
      obtain rfl := Option.some.inj e
      exact .inr ⟨_, vs.toArray, _, hk, rfl, rfl, rfl, by rw [List.size_toArray, hi.length]; exact hl, by simpa using rv⟩
    · try dsimp only at z
      by_cases h : ∃ p ∈ cs, b = p.2
      · rw [if_pos h] at z
        obtain rfl := Option.some.inj z
        obtain ⟨p, hp, rfl⟩ := h
        exact hT p hp
      · rw [if_neg h] at z
        cases z
    · try dsimp only at z
      by_cases h : ∃ p ∈ cs, b = p.2
      · exact .inr h
      · rw [if_neg h] at z
        cases z
  | none =>
    refine ⟨fun b => if b = a then some (.frz { cls := .type "list", data := .seq vs.toArray } (.lst (ns.map V.int))) else if ∃ p ∈ cs, b = p.2 then some (.tbl #[]) else none, ⟨fun b u z => ?_, ha, hT, nT⟩,
      fun p hp => (if_neg (aT p hp)).trans (if_pos ⟨p, hp, rfl⟩), .inl (.inr ⟨_, if_pos rfl⟩), fun b u z => ?_, fun b u z => ?_⟩
    · try dsimp only at z
      by_cases h0 : b = a
      · exact .inl ⟨h0, hk⟩
      · by_cases h : ∃ p ∈ cs, b = p.2
        · exact .inr h
        · rw [if_neg h0, if_neg h] at z
          cases z
    · try dsimp only at z
      by_cases h0 : b = a
      · subst h0
        rw [if_pos rfl] at z
        obtain rfl := Option.some.inj z
        exact ⟨ha, by rw [List.length_map]; exact hl, vs, _, rv, ha⟩
      · by_cases h : ∃ p ∈ cs, b = p.2
        · rw [if_neg h0, if_pos h] at z
          obtain rfl := Option.some.inj z
          obtain ⟨p, hp, rfl⟩ := h
          exact hT p hp
        · rw [if_neg h0, if_neg h] at z
          cases z
    · try dsimp only at z
      by_cases h0 : b = a
      · rw [if_pos h0] at z
        exact .inl ⟨_, _, (Option.some.inj z).symm⟩
      · by_cases h : ∃ p ∈ cs, b = p.2
        · exact .inr h
        · rw [if_neg h0, if_neg h] at z
          cases z
/-- the law's facts, its promise by FnG -/
def LawG (l : PySem.W.OpenLaw) (w : World) (K : PySem.W.Frag) (k n : Nat) (x : Str) (mg : Str → Option Value) (fa : Addr) (h : Heap) : Prop :=
  ∃ (fd : FuncData) (cs : List (Addr × Addr)) (sp : Sp), (∀ p ∈ cs, h.get? p.2 = some { cls := .none, data := .fields #[] }) ∧ (∀ p ∈ cs, K.lookup p.2 = none) ∧ (∀ p ∈ cs, PySem.W.CodeHd h p.1 p.2) ∧ (∀ (s : Shared) (u : Value), BindsTo s fd ⟨[u], []⟩ [(x, u)]) ∧
    (∀ (H : Hp) (a : Addr) (ns : List Int), ns.length ≤ n → (∀ p ∈ cs, H p.2 = some (.tbl #[])) → SqL K H a (ns.map V.int) → sp [.ref a] H (fun v _ => v = .bl true) fun _ _ _ => False) ∧
    ∀ base : Heap, K.In base → base.Ns mainGlobals mg → (∀ p ∈ cs, TabB base mg p.1 p.2) → FnG l.prog w K mg base CX0 k fa fd [x] sp
theorem walk_G {l : PySem.W.OpenLaw} {n k : Nat} {q : Program} {loose : List Str} {XP : (Str → Option Value) → Heap → Prop} {YP : World → Heap → Prop} {d : DefRec} {x : Str} (hn : l.most = some n) (hn2 : n ≤ sizeLine) (hdf : d.params.defaults = []) (hr : Room k callerA)
    (F : ∀ (w : World) (mg : Str → Option Value) (fa : Addr) (h : Heap), YP w h → h.Ns mainGlobals mg → mg d.name = some (.ref fa) → ∃ K : PySem.W.Frag, K.In h ∧ LawG l w K k n x mg fa h) :
    PySem.W.WalkO q loose XP YP l.row.toRowW d [] (fun f vs => PySem.call f vs) := by
  refine Att.attach_callB hn hdf fun w s₀ s mg mb fa o pm cd doc a vs ns G Y ho hd hcd hmg ha hi hl _ hg => ?_
  obtain ⟨K, KX, fd, cs, sp, hT, nT, C, hb, hsp, hF⟩ := F w mg fa _ Y G.T.g hmg
  obtain ⟨H, f, hH, hS, hok, hO⟩ := few_start l.prog w KX ha hi (Nat.le_trans hl hn2) hT nT
  have hM : L2.Mod K mg (hidT s.heap H) := ⟨f.kin KX, f.ns G.T.g, ⟨mb, f.ns G.T.b, G.T.builtins⟩, let ⟨mc, h1, h2⟩ := G.T.nolimit; ⟨mc, f.ns h1, h2⟩⟩
  have e0 : Env0 l.prog w K mg (hidT s.heap H) callerA [] s H := ⟨rfl, hM, fun b o e => of_hidT e, Nat.le_of_eq (hidT_size _ _), trivial, (fun b hb => by cases (show b ∈ ([] : List Addr) from hb)), hok, .of_eq hg⟩
  refine codeAny_mono ((hF _ (f.kin KX) (f.ns G.T.g) fun p hp => f.tabB G.T.g G.T.bmain hp (C p hp)).run callerA [] s H ⟨[.ref a], []⟩ [.ref a] [.ref a] _ _ rfl hr e0 (hb s (.ref a)) (.cons rfl .nil) (hsp H a ns hl hH hS)) fun r s' h => ?_
  cases r with
  | error e => exact False.elim h
  | ok fl =>
    cases fl with
    | next => exact False.elim h
    | brk => exact False.elim h
    | cont => exact False.elim h
    | ret u =>
      obtain ⟨v, H', os, bare, un, hok', rv, rfl⟩ := h
      obtain rfl : u = Value.bool true := rv
      have kept : ∀ b o, s.heap.get? b = some o → (∀ p ∈ cs, b ≠ p.2) → s'.heap.get? b = some o := fun b o e nb => by
        cases z : H b with
        | none => exact un.keep b o e z (fun y => by cases (show b ∈ ([] : List Addr) from y)) (by simp)
        | some u =>
          rcases hO b u z with ⟨ob, xs, rfl⟩ | ⟨p, hp, y⟩
          · obtain ⟨y1, _⟩ := hok b _ z
            obtain ⟨y2, _⟩ := hok' b _ (un.frzs b ob _ z)
            rw [← Option.some.inj (y1.symm.trans e)]
            exact y2
          · exact absurd y (nb p hp)
      have longer : ∀ p ∈ cs, ∃ m : Array Value, s'.heap.get? p.2 = some { cls := .none, data := .fields m } := fun p hp =>
        let ⟨_, y⟩ := un.tbls p.2 #[] (hH p hp)
        ⟨_, hok' p.2 _ y⟩
      refine ⟨rfl, ⟨fun b o e => ?_, fun b o e => ?_⟩, os, bare⟩
      · by_cases hb : ∃ p ∈ cs, b = p.2
        · obtain ⟨p, hp, rfl⟩ := hb
          obtain ⟨m, hm⟩ := longer p hp
          obtain rfl := Option.some.inj ((hT p hp).symm.trans e)
          refine .inr (.inl ⟨((C p hp).tab (hT p hp)).isCodeTable, rfl, #[], m, rfl, by rw [Array.empty_append]; exact hm⟩)
        · exact .inl (kept b o e fun p hp z => hb ⟨p, hp, z⟩)
      · by_cases hb : ∃ p ∈ cs, b = p.2
        · obtain ⟨p, hp, rfl⟩ := hb
          obtain ⟨m, hm⟩ := longer p hp
          exact ⟨_, hm⟩
        · exact ⟨o, kept b o e fun p hp z => hb ⟨p, hp, z⟩⟩
end Own

set_option Elab.async false
set_option linter.all false
set_option maxRecDepth 100000
set_option maxHeartbeats 8000000
namespace K05
open PySem PySem.Spec PyProof.Rows L2 Own LamX
theorem fun_ofD {K : PySem.W.Frag} {x q : Str} {st : Stmt} {f : Addr} (h : ∃ fd, FunD K x q (defArgs st) (defBody st) (defScope st) [] [] f fd) : ∃ fd, Fun K x q st f fd := by
  obtain ⟨fd, F⟩ := h
  obtain ⟨oc, od, dV, kV, doc, pm, an, cdv, ct, osl, rfl, lk, hcd, hD, _⟩ := F.ex
  rcases hD with ⟨_, rfl⟩ | ⟨e, _⟩
  · exact ⟨_, ⟨oc, od, kV, doc, pm, an, cdv, ct, osl, rfl, lk, hcd⟩, F.kp⟩
  · exact absurd rfl e
theorem funC_ofD {K : PySem.W.Frag} {x q : Str} {st : Stmt} {p : He.Defn} (h : ∃ fd, FunD K x q (defArgs st) (defBody st) (defScope st) [] [] (He.fAd K p) fd) : ∃ fd, FunC K x q st (He.fAd K p) fd (He.codeOf K p) := by
  obtain ⟨fd, F⟩ := h
  obtain ⟨oc, od, dV, kV, doc, pm, an, cdv, ct, osl, rfl, lk, hcd, hD, _⟩ := F.ex
  obtain ⟨c, rfl⟩ := He.codeIn_ref hcd
  have e := He.codeOf_eq lk rfl
  rw [e]
  rcases hD with ⟨_, rfl⟩ | ⟨e, _⟩
  · exact ⟨_, ⟨oc, od, kV, doc, pm, an, ct, osl, rfl, lk, hcd⟩, F.kp⟩
  · exact absurd rfl e
def spLaw (K : PySem.W.Frag) (T : List (Addr × Str)) : Sp := fun vs H Q _ => ∃ (a : Addr) (ns : List Int), vs = [.ref a] ∧ SqL K H a (ns.map V.int) ∧ ns.length ≤ 63 ∧ Tabs T H ∧ ∀ H', Q (.bl true) H'
def tT (K : PySem.W.Frag) : List (Addr × Str) := [((He.cT K pR).2, qRef), ((He.cT K pL).2, qLw)]
theorem all_mem {α : Type} {p : α → Bool} {l : List α} (h : l.all p = true) {x : α} (hx : x ∈ l) : p x = true := List.all_eq_true.mp h x hx
theorem initB_at {K : PySem.W.Frag} (h : initB K = true) {c f : Str} (hm : (c, f) ∈ nIn) : ExcI K (He.ga K c) (He.ma K (He.ga K c) "__init__") ∧ XfC K (He.ga K c) ∧ PySem.W.findIn K (.ref (He.ga K c)) f = some none := by
  obtain ⟨z1, z2⟩ := He.ba (all_mem h hm)
  obtain ⟨z3, z4⟩ := He.ba z1
  obtain ⟨z5, z6⟩ := He.ba z2
  obtain ⟨z7, z8⟩ := He.ba z6
  exact ⟨⟨(clsB_ok z3).1, He.eqO_ok z5, of_decide_eq_true z7⟩, xfB_ok z4, He.eqO_ok z8⟩
theorem houB_ok {K : PySem.W.Frag} (h : houB K = true) (hC : HC K (He.ga K "House")) : HKn K (He.ga K "House") ∧ PySem.W.findIn K (.ref (He.ga K "House")) "__ne__" = some (some (.builtin "object.__ne__")) := by
  obtain ⟨z1, z2⟩ := He.ba h
  obtain ⟨z3, z4⟩ := He.ba z2
  obtain ⟨z5, z6⟩ := He.ba z4
  obtain ⟨z7, z8⟩ := He.ba z6
  obtain ⟨z9, z10⟩ := He.ba z8
  refine ⟨⟨hC, ?_, He.eqO_ok z1, He.eqO_ok z3, of_decide_eq_true z5, of_decide_eq_true z7, fun T hT => of_decide_eq_true (all_mem z10 hT)⟩, He.eqO_ok z9⟩
  unfold PySem.W.notFirst
  simp
theorem fn_obj {K : PySem.W.Frag} {f : Addr} (h : PySem.W.typeIn K (.ref f) = some (.type "function")) : ∃ o : Obj, K.lookup f = some o ∧ o.cls = .type "function" := by
  have h : (K.lookup f).map (·.cls) = some (.type "function") := h
  cases e : K.lookup f with
  | none =>
    rw [e] at h
    cases h
  | some o =>
    rw [e] at h
    exact ⟨o, rfl, Option.some.inj h⟩
section
variable {w : World} {K : PySem.W.Frag} {h : Heap} {mg : Str → Option Value}
theorem facts (KX : K.In h) (G : h.Ns mainGlobals mg) {fa : Addr} (hfa : mg "law" = some (.ref fa)) (c : He.SaysX faD fnD [] tfD exA w h K) : LawG PySem.Challenge.rw_lastbell_k05_whole_added_and_later w K 60 63 "_law_script" mg fa h := by
  have d := c.t.d
  obtain ⟨m1, m23⟩ := He.ba c.more
  obtain ⟨m2, m3⟩ := He.ba m23
  obtain ⟨m4, m5⟩ := He.ba m3
  have d0 := of_decide_eq_true m4
  have od := fn_obj (of_decide_eq_true m5)
  obtain ⟨fdCF, FCF⟩ := fun_ofD (x := "change_from") (q := "change_from") (st := topS 1) (f := He.ga K "change_from") (d.def_ 0 rfl)
  obtain ⟨fdCB, FCB⟩ := fun_ofD (x := "change_by_steps") (q := "change_by_steps") (st := topS 2) (f := He.ga K "change_by_steps") (d.def_ 1 rfl)
  obtain ⟨fdSO, FSO⟩ := fun_ofD (x := "steps_of") (q := "steps_of") (st := topS 3) (f := He.ga K "steps_of") (d.def_ 2 rfl)
  obtain ⟨fdI, FI⟩ := fun_ofD (x := "is_integer") (q := "is_integer") (st := topS 15) (f := He.ga K "is_integer") (d.def_ 3 rfl)
  obtain ⟨fdN, FN⟩ := fun_ofD (x := "is_number") (q := "is_number") (st := topS 16) (f := He.ga K "is_number") (d.def_ 4 rfl)
  obtain ⟨fdL, FL⟩ := fun_ofD (x := "is_list") (q := "is_list") (st := topS 17) (f := He.ga K "is_list") (d.def_ 5 rfl)
  obtain ⟨fdPl, FPl⟩ := fun_ofD (x := "is_place") (q := "is_place") (st := topS 20) (f := He.ga K "is_place") (d.def_ 6 rfl)
  obtain ⟨fdR, FR⟩ := fun_ofD (x := "is_road") (q := "is_road") (st := topS 21) (f := He.ga K "is_road") (d.def_ 7 rfl)
  obtain ⟨fdD0, FD0⟩ := fun_ofD (x := "is_door") (q := "is_door") (st := topS 22) (f := He.ga K "is_door") (d.def_ 8 rfl)
  obtain ⟨fdWR, FWR⟩ := fun_ofD (x := "first_wrong_road") (q := "first_wrong_road") (st := topS 23) (f := He.ga K "first_wrong_road") (d.def_ 9 rfl)
  obtain ⟨fdCo, FCo⟩ := fun_ofD (x := "comes_to") (q := "comes_to") (st := topS 24) (f := He.ga K "comes_to") (d.def_ 10 rfl)
  obtain ⟨fdWD, FWD⟩ := fun_ofD (x := "first_wrong_door") (q := "first_wrong_door") (st := topS 25) (f := He.ga K "first_wrong_door") (d.def_ 11 rfl)
  obtain ⟨fdIs, FIs⟩ := fun_ofD (x := "is_steps") (q := "is_steps") (st := topS 27) (f := He.ga K "is_steps") (d.def_ 12 rfl)
  obtain ⟨fdNS, FNS⟩ := fun_ofD (x := "need_steps") (q := "need_steps") (st := topS 28) (f := He.ga K "need_steps") (d.def_ 13 rfl)
  obtain ⟨fdTg, FTg⟩ := fun_ofD (x := "together") (q := "together") (st := topS 29) (f := He.ga K "together") (d.def_ 14 rfl)
  obtain ⟨fdLt, FLt⟩ := fun_ofD (x := "later") (q := "later") (st := topS 30) (f := He.ga K "later") (d.def_ 15 rfl)
  obtain ⟨fdSt, FSt⟩ := fun_ofD (x := "_law_stream") (q := "_law_stream") (st := topS 32) (f := He.ga K "_law_stream") (d.def_ 16 rfl)
  obtain ⟨fdD, FD⟩ := fun_ofD (x := "_law_draw") (q := "_law_draw") (st := topS 33) (f := He.ga K "_law_draw") (d.def_ 17 rfl)
  obtain ⟨fdP, FP⟩ := fun_ofD (x := "_law_pick") (q := "_law_pick") (st := topS 34) (f := He.ga K "_law_pick") (d.def_ 18 rfl)
  obtain ⟨fdMx, FMx⟩ := fun_ofD (x := "_law_mixed") (q := "_law_mixed") (st := topS 35) (f := He.ga K "_law_mixed") (d.def_ 19 rfl)
  obtain ⟨fdSm, FSm⟩ := fun_ofD (x := "_law_same") (q := "_law_same") (st := topS 36) (f := He.ga K "_law_same") (d.def_ 20 rfl)
  obtain ⟨fdLo, FLo⟩ := fun_ofD (x := "_law_loose") (q := "_law_loose") (st := topS 37) (f := He.ga K "_law_loose") (d.def_ 21 rfl)
  obtain ⟨fdLN, FLN⟩ := fun_ofD (x := "_law_is_number") (q := "_law_is_number") (st := topS 38) (f := He.ga K "_law_is_number") (d.def_ 22 rfl)
  obtain ⟨fdLL, FLL⟩ := fun_ofD (x := "_law_is_list") (q := "_law_is_list") (st := topS 39) (f := He.ga K "_law_is_list") (d.def_ 23 rfl)
  obtain ⟨fdLS, FLS⟩ := fun_ofD (x := "_law_is_steps") (q := "_law_is_steps") (st := topS 40) (f := He.ga K "_law_is_steps") (d.def_ 24 rfl)
  obtain ⟨fdLR, FLR⟩ := fun_ofD (x := "_law_rate") (q := "_law_rate") (st := topS 41) (f := He.ga K "_law_rate") (d.def_ 25 rfl)
  obtain ⟨fdPs, FPs⟩ := fun_ofD (x := "_law_p_steps") (q := "_law_p_steps") (st := topS 42) (f := He.ga K "_law_p_steps") (d.def_ 26 rfl)
  obtain ⟨fdAd, FAd⟩ := fun_ofD (x := "_law_p_added") (q := "_law_p_added") (st := topS 43) (f := He.ga K "_law_p_added") (d.def_ 27 rfl)
  obtain ⟨fdPt, FPt⟩ := fun_ofD (x := "_law_p_parts") (q := "_law_p_parts") (st := topS 44) (f := He.ga K "_law_p_parts") (d.def_ 28 rfl)
  obtain ⟨fdDe, FDe⟩ := fun_ofD (x := "_law_p_deep") (q := "_law_p_deep") (st := topS 45) (f := He.ga K "_law_p_deep") (d.def_ 29 rfl)
  obtain ⟨fdO, FO⟩ := fun_ofD (x := "_law_p_odd") (q := "_law_p_odd") (st := topS 46) (f := He.ga K "_law_p_odd") (d.def_ 30 rfl)
  obtain ⟨fdBe, FBe⟩ := fun_ofD (x := "_law_p_bent") (q := "_law_p_bent") (st := topS 47) (f := He.ga K "_law_p_bent") (d.def_ 31 rfl)
  obtain ⟨fdSh, FSh⟩ := fun_ofD (x := "_law_p_shifted") (q := "_law_p_shifted") (st := topS 48) (f := He.ga K "_law_p_shifted") (d.def_ 32 rfl)
  obtain ⟨fdTr, FTr⟩ := fun_ofD (x := "_law_p_tried") (q := "_law_p_tried") (st := topS 49) (f := He.ga K "_law_p_tried") (d.def_ 33 rfl)
  obtain ⟨fdDu, FDu⟩ := fun_ofD (x := "_law_due") (q := "_law_due") (st := topS 50) (f := He.ga K "_law_due") (d.def_ 34 rfl)
  obtain ⟨fdLD, FLD⟩ := fun_ofD (x := "_law_later_due") (q := "_law_later_due") (st := topS 51) (f := He.ga K "_law_later_due") (d.def_ 35 rfl)
  obtain ⟨fdLa, FLa⟩ := fun_ofD (x := "_law_later_right") (q := "_law_later_right") (st := topS 52) (f := He.ga K "_law_later_right") (d.def_ 36 rfl)
  obtain ⟨fdCh, FCh⟩ := fun_ofD (x := "_law_changed_right") (q := "_law_changed_right") (st := topS 53) (f := He.ga K "_law_changed_right") (d.def_ 37 rfl)
  obtain ⟨fdRe, FRe⟩ := funC_ofD (x := "_law_refused_right") (q := "_law_refused_right") (st := topS 54) (p := pR) (d.def_ 38 rfl)
  obtain ⟨fdLw, FLw⟩ := funC_ofD (x := "law") (q := "law") (st := topS 55) (p := pL) (d.def_ 39 rfl)
  obtain ⟨fiEp, IEp⟩ := fun_ofD (x := "__init__") (q := "BadPlaces.__init__") (st := inClass (topS 7) 0) (f := He.ma K (He.ga K "BadPlaces") "__init__") (d.def_ 40 rfl)
  obtain ⟨fiEr, IEr⟩ := fun_ofD (x := "__init__") (q := "BadRoads.__init__") (st := inClass (topS 8) 0) (f := He.ma K (He.ga K "BadRoads") "__init__") (d.def_ 41 rfl)
  obtain ⟨fiEd, IEd⟩ := fun_ofD (x := "__init__") (q := "BadDoors.__init__") (st := inClass (topS 9) 0) (f := He.ma K (He.ga K "BadDoors") "__init__") (d.def_ 42 rfl)
  obtain ⟨fiEs, IEs⟩ := fun_ofD (x := "__init__") (q := "BadSteps.__init__") (st := inClass (topS 10) 0) (f := He.ma K (He.ga K "BadSteps") "__init__") (d.def_ 43 rfl)
  obtain ⟨fiEu, IEu⟩ := fun_ofD (x := "__init__") (q := "BadTurns.__init__") (st := inClass (topS 12) 0) (f := He.ma K (He.ga K "BadTurns") "__init__") (d.def_ 44 rfl)
  obtain ⟨fiHo, IHo⟩ := fun_ofD (x := "__init__") (q := "House.__init__") (st := inClass (topS 19) 0) (f := He.ma K (He.ga K "House") "__init__") (d.def_ 45 rfl)
  obtain ⟨fme, Me⟩ := fun_ofD (x := "__eq__") (q := "House.__eq__") (st := inClass (topS 19) 4) (f := He.ma K (He.ga K "House") "__eq__") (d.def_ 46 rfl)
  have gCF : mg "change_from" = some (.ref (He.ga K "change_from")) := He.glo_ok KX G (d.fact 0 (f := .glo "change_from") rfl)
  have gCB : mg "change_by_steps" = some (.ref (He.ga K "change_by_steps")) := He.glo_ok KX G (d.fact 1 (f := .glo "change_by_steps") rfl)
  have gSO : mg "steps_of" = some (.ref (He.ga K "steps_of")) := He.glo_ok KX G (d.fact 2 (f := .glo "steps_of") rfl)
  have gI : mg "is_integer" = some (.ref (He.ga K "is_integer")) := He.glo_ok KX G (d.fact 3 (f := .glo "is_integer") rfl)
  have gN : mg "is_number" = some (.ref (He.ga K "is_number")) := He.glo_ok KX G (d.fact 4 (f := .glo "is_number") rfl)
  have gL : mg "is_list" = some (.ref (He.ga K "is_list")) := He.glo_ok KX G (d.fact 5 (f := .glo "is_list") rfl)
  have gPl : mg "is_place" = some (.ref (He.ga K "is_place")) := He.glo_ok KX G (d.fact 6 (f := .glo "is_place") rfl)
  have gR : mg "is_road" = some (.ref (He.ga K "is_road")) := He.glo_ok KX G (d.fact 7 (f := .glo "is_road") rfl)
  have gD0 : mg "is_door" = some (.ref (He.ga K "is_door")) := He.glo_ok KX G (d.fact 8 (f := .glo "is_door") rfl)
  have gWR : mg "first_wrong_road" = some (.ref (He.ga K "first_wrong_road")) := He.glo_ok KX G (d.fact 9 (f := .glo "first_wrong_road") rfl)
  have gCo : mg "comes_to" = some (.ref (He.ga K "comes_to")) := He.glo_ok KX G (d.fact 10 (f := .glo "comes_to") rfl)
  have gWD : mg "first_wrong_door" = some (.ref (He.ga K "first_wrong_door")) := He.glo_ok KX G (d.fact 11 (f := .glo "first_wrong_door") rfl)
  have gIs : mg "is_steps" = some (.ref (He.ga K "is_steps")) := He.glo_ok KX G (d.fact 12 (f := .glo "is_steps") rfl)
  have gNS : mg "need_steps" = some (.ref (He.ga K "need_steps")) := He.glo_ok KX G (d.fact 13 (f := .glo "need_steps") rfl)
  have gTg : mg "together" = some (.ref (He.ga K "together")) := He.glo_ok KX G (d.fact 14 (f := .glo "together") rfl)
  have gLt : mg "later" = some (.ref (He.ga K "later")) := He.glo_ok KX G (d.fact 15 (f := .glo "later") rfl)
  have gSt : mg "_law_stream" = some (.ref (He.ga K "_law_stream")) := He.glo_ok KX G (d.fact 16 (f := .glo "_law_stream") rfl)
  have gD : mg "_law_draw" = some (.ref (He.ga K "_law_draw")) := He.glo_ok KX G (d.fact 17 (f := .glo "_law_draw") rfl)
  have gP : mg "_law_pick" = some (.ref (He.ga K "_law_pick")) := He.glo_ok KX G (d.fact 18 (f := .glo "_law_pick") rfl)
  have gMx : mg "_law_mixed" = some (.ref (He.ga K "_law_mixed")) := He.glo_ok KX G (d.fact 19 (f := .glo "_law_mixed") rfl)
  have gSm : mg "_law_same" = some (.ref (He.ga K "_law_same")) := He.glo_ok KX G (d.fact 20 (f := .glo "_law_same") rfl)
  have gLo : mg "_law_loose" = some (.ref (He.ga K "_law_loose")) := He.glo_ok KX G (d.fact 21 (f := .glo "_law_loose") rfl)
  have gLN : mg "_law_is_number" = some (.ref (He.ga K "_law_is_number")) := He.glo_ok KX G (d.fact 22 (f := .glo "_law_is_number") rfl)
  have gLL : mg "_law_is_list" = some (.ref (He.ga K "_law_is_list")) := He.glo_ok KX G (d.fact 23 (f := .glo "_law_is_list") rfl)
  have gLS : mg "_law_is_steps" = some (.ref (He.ga K "_law_is_steps")) := He.glo_ok KX G (d.fact 24 (f := .glo "_law_is_steps") rfl)
  have gLR : mg "_law_rate" = some (.ref (He.ga K "_law_rate")) := He.glo_ok KX G (d.fact 25 (f := .glo "_law_rate") rfl)
  have gPs : mg "_law_p_steps" = some (.ref (He.ga K "_law_p_steps")) := He.glo_ok KX G (d.fact 26 (f := .glo "_law_p_steps") rfl)
  have gAd : mg "_law_p_added" = some (.ref (He.ga K "_law_p_added")) := He.glo_ok KX G (d.fact 27 (f := .glo "_law_p_added") rfl)
  have gPt : mg "_law_p_parts" = some (.ref (He.ga K "_law_p_parts")) := He.glo_ok KX G (d.fact 28 (f := .glo "_law_p_parts") rfl)
  have gDe : mg "_law_p_deep" = some (.ref (He.ga K "_law_p_deep")) := He.glo_ok KX G (d.fact 29 (f := .glo "_law_p_deep") rfl)
  have gO : mg "_law_p_odd" = some (.ref (He.ga K "_law_p_odd")) := He.glo_ok KX G (d.fact 30 (f := .glo "_law_p_odd") rfl)
  have gBe : mg "_law_p_bent" = some (.ref (He.ga K "_law_p_bent")) := He.glo_ok KX G (d.fact 31 (f := .glo "_law_p_bent") rfl)
  have gSh : mg "_law_p_shifted" = some (.ref (He.ga K "_law_p_shifted")) := He.glo_ok KX G (d.fact 32 (f := .glo "_law_p_shifted") rfl)
  have gTr : mg "_law_p_tried" = some (.ref (He.ga K "_law_p_tried")) := He.glo_ok KX G (d.fact 33 (f := .glo "_law_p_tried") rfl)
  have gDu : mg "_law_due" = some (.ref (He.ga K "_law_due")) := He.glo_ok KX G (d.fact 34 (f := .glo "_law_due") rfl)
  have gLD : mg "_law_later_due" = some (.ref (He.ga K "_law_later_due")) := He.glo_ok KX G (d.fact 35 (f := .glo "_law_later_due") rfl)
  have gLa : mg "_law_later_right" = some (.ref (He.ga K "_law_later_right")) := He.glo_ok KX G (d.fact 36 (f := .glo "_law_later_right") rfl)
  have gCh : mg "_law_changed_right" = some (.ref (He.ga K "_law_changed_right")) := He.glo_ok KX G (d.fact 37 (f := .glo "_law_changed_right") rfl)
  have gRe : mg "_law_refused_right" = some (.ref (He.ga K "_law_refused_right")) := He.glo_ok KX G (d.fact 38 (f := .glo "_law_refused_right") rfl)
  have gLw : mg "law" = some (.ref (He.ga K "law")) := He.glo_ok KX G (d.fact 39 (f := .glo "law") rfl)
  have gHo : mg "House" = some (.ref (He.ga K "House")) := He.glo_ok KX G (d.fact 40 (f := .glo "House") rfl)
  have gEp : mg "BadPlaces" = some (.ref (He.ga K "BadPlaces")) := He.glo_ok KX G (d.fact 41 (f := .glo "BadPlaces") rfl)
  have gEr : mg "BadRoads" = some (.ref (He.ga K "BadRoads")) := He.glo_ok KX G (d.fact 42 (f := .glo "BadRoads") rfl)
  have gEd : mg "BadDoors" = some (.ref (He.ga K "BadDoors")) := He.glo_ok KX G (d.fact 43 (f := .glo "BadDoors") rfl)
  have gEs : mg "BadSteps" = some (.ref (He.ga K "BadSteps")) := He.glo_ok KX G (d.fact 44 (f := .glo "BadSteps") rfl)
  have gEu : mg "BadTurns" = some (.ref (He.ga K "BadTurns")) := He.glo_ok KX G (d.fact 45 (f := .glo "BadTurns") rfl)
  have gEh : mg "BadHouse" = some (.ref (He.ga K "BadHouse")) := He.glo_ok KX G (d.fact 46 (f := .glo "BadHouse") rfl)
  have gEt : mg "BadTurn" = some (.ref (He.ga K "BadTurn")) := He.glo_ok KX G (d.fact 47 (f := .glo "BadTurn") rfl)
  have gEl : mg "BadPlan" = some (.ref (He.ga K "BadPlan")) := He.glo_ok KX G (d.fact 48 (f := .glo "BadPlan") rfl)
  have z0 : mg "abs" = none := He.free_ok KX G (d.fact 49 (f := .free "abs") rfl)
  have z1 : mg "int" = none := He.free_ok KX G (d.fact 50 (f := .free "int") rfl)
  have z2 : mg "list" = none := He.free_ok KX G (d.fact 51 (f := .free "list") rfl)
  have z3 : mg "len" = none := He.free_ok KX G (d.fact 52 (f := .free "len") rfl)
  have z4 : mg "isinstance" = none := He.free_ok KX G (d.fact 53 (f := .free "isinstance") rfl)
  have z5 : mg "tuple" = none := He.free_ok KX G (d.fact 54 (f := .free "tuple") rfl)
  have z6 : mg "dict" = none := He.free_ok KX G (d.fact 55 (f := .free "dict") rfl)
  have z7 : mg "bool" = none := He.free_ok KX G (d.fact 56 (f := .free "bool") rfl)
  have z8 : mg "all" = none := He.free_ok KX G (d.fact 57 (f := .free "all") rfl)
  have z9 : mg "zip" = none := He.free_ok KX G (d.fact 58 (f := .free "zip") rfl)
  have z10 : mg "range" = none := He.free_ok KX G (d.fact 59 (f := .free "range") rfl)
  have z11 : mg "enumerate" = none := He.free_ok KX G (d.fact 60 (f := .free "enumerate") rfl)
  have z12 : mg "max" = none := He.free_ok KX G (d.fact 61 (f := .free "max") rfl)
  have z13 : mg "str" = none := He.free_ok KX G (d.fact 62 (f := .free "str") rfl)
  have z14 : mg "min" = none := He.free_ok KX G (d.fact 63 (f := .free "min") rfl)
  have z15 : mg "repr" = none := He.free_ok KX G (d.fact 64 (f := .free "repr") rfl)
  have z16 : mg "sorted" = none := He.free_ok KX G (d.fact 65 (f := .free "sorted") rfl)
  have z17 : mg "sum" = none := He.free_ok KX G (d.fact 66 (f := .free "sum") rfl)
  have cl := He.cls_ok (d.fact 67 (f := .cls "House") rfl)
  have n1 := He.noat_ok (d.fact 68 (f := .noat "House" "_places") rfl)
  have n2 := He.noat_ok (d.fact 69 (f := .noat "House" "_roads") rfl)
  have n3 := He.noat_ok (d.fact 70 (f := .noat "House" "_doors") rfl)
  have mk := He.mkr_ok (d.fact 71 (f := .mkr "House") rfl)
  have te := He.meth_ok (d.fact 72 (f := .meth "House" "__eq__") rfl)
  have xm0 := He.exm_ok (d.fact 73 (f := .exm "BadSteps" "BadHouse" false) rfl)
  have xm1 := He.exm_ok (d.fact 74 (f := .exm "BadSteps" "BadSteps" true) rfl)
  have xm2 := He.exm_ok (d.fact 75 (f := .exm "BadTurns" "BadHouse" false) rfl)
  have xm3 := He.exm_ok (d.fact 76 (f := .exm "BadTurns" "BadSteps" false) rfl)
  have xm4 := He.exm_ok (d.fact 77 (f := .exm "BadTurns" "BadTurn" false) rfl)
  have xm5 := He.exm_ok (d.fact 78 (f := .exm "BadTurns" "BadTurns" true) rfl)
  have B : Bt mg := ⟨z0, z1, z2, z3, z4, z5, z6, z7, z8, z9, z10, z11, z12, z13, z14⟩
  obtain ⟨iEp, xfEp, noEp⟩ := initB_at m1 (c := "BadPlaces") (f := "places") (by decide +kernel)
  obtain ⟨iEr, xfEr, noEr⟩ := initB_at m1 (c := "BadRoads") (f := "index") (by decide +kernel)
  obtain ⟨iEd, xfEd, noEd⟩ := initB_at m1 (c := "BadDoors") (f := "index") (by decide +kernel)
  obtain ⟨iEs, xfEs, noEs⟩ := initB_at m1 (c := "BadSteps") (f := "steps") (by decide +kernel)
  obtain ⟨iEu, xfEu, noEu⟩ := initB_at m1 (c := "BadTurns") (f := "turns") (by decide +kernel)
  have bCF := FCF.binds (ps := ["changes", "turn", "amount"]) fun _ _ _ _ _ _ us hl => match us, hl with | [_, _, _], _ => rfl
  have bCB := FCB.binds (ps := ["changes", "steps", "turns", "times"]) fun _ _ _ _ _ _ us hl => match us, hl with | [_, _, _, _], _ => rfl
  have bSO := FSO.binds (ps := ["changes"]) fun _ _ _ _ _ _ us hl => match us, hl with | [_], _ => rfl
  have bI := FI.binds (ps := ["thing"]) fun _ _ _ _ _ _ us hl => match us, hl with | [_], _ => rfl
  have bN := FN.binds (ps := ["thing"]) fun _ _ _ _ _ _ us hl => match us, hl with | [_], _ => rfl
  have bL := FL.binds (ps := ["thing"]) fun _ _ _ _ _ _ us hl => match us, hl with | [_], _ => rfl
  have bPl := FPl.binds (ps := ["places", "thing"]) fun _ _ _ _ _ _ us hl => match us, hl with | [_, _], _ => rfl
  have bR := FR.binds (ps := ["places", "thing"]) fun _ _ _ _ _ _ us hl => match us, hl with | [_, _], _ => rfl
  have bD0 := FD0.binds (ps := ["places", "thing"]) fun _ _ _ _ _ _ us hl => match us, hl with | [_, _], _ => rfl
  have bWR := FWR.binds (ps := ["places", "roads"]) fun _ _ _ _ _ _ us hl => match us, hl with | [_, _], _ => rfl
  have bCo := FCo.binds (ps := ["onward", "begin", "end"]) fun _ _ _ _ _ _ us hl => match us, hl with | [_, _, _], _ => rfl
  have bWD := FWD.binds (ps := ["places", "doors"]) fun _ _ _ _ _ _ us hl => match us, hl with | [_, _], _ => rfl
  have bIs := FIs.binds (ps := ["thing"]) fun _ _ _ _ _ _ us hl => match us, hl with | [_], _ => rfl
  have bNS := FNS.binds (ps := ["steps"]) fun _ _ _ _ _ _ us hl => match us, hl with | [_], _ => rfl
  have bTg := FTg.binds (ps := ["lists"]) fun _ _ _ _ _ _ us hl => match us, hl with | [_], _ => rfl
  have bLt := FLt.binds (ps := ["steps", "turns"]) fun _ _ _ _ _ _ us hl => match us, hl with | [_, _], _ => rfl
  have bSt := FSt.binds (ps := ["_law_script"]) fun _ _ _ _ _ _ us hl => match us, hl with | [_], _ => rfl
  have bD := FD.binds (ps := ["_law_stream_here", "_law_many"]) fun _ _ _ _ _ _ us hl => match us, hl with | [_, _], _ => rfl
  have bP := FP.binds (ps := ["_law_stream_here", "_law_things"]) fun _ _ _ _ _ _ us hl => match us, hl with | [_, _], _ => rfl
  have bMx := FMx.binds (ps := ["_law_stream_here", "_law_things"]) fun _ _ _ _ _ _ us hl => match us, hl with | [_, _], _ => rfl
  have bSm := FSm.binds (ps := ["_law_found", "_law_due_here"]) fun _ _ _ _ _ _ us hl => match us, hl with | [_, _], _ => rfl
  have bLo := FLo.binds (ps := ["_law_stream_here", "_law_thing"]) fun _ _ _ _ _ _ us hl => match us, hl with | [_, _], _ => rfl
  have bLN := FLN.binds (ps := ["_law_thing"]) fun _ _ _ _ _ _ us hl => match us, hl with | [_], _ => rfl
  have bLL := FLL.binds (ps := ["_law_thing"]) fun _ _ _ _ _ _ us hl => match us, hl with | [_], _ => rfl
  have bLS := FLS.binds (ps := ["_law_thing"]) fun _ _ _ _ _ _ us hl => match us, hl with | [_], _ => rfl
  have bLR := FLR.binds (ps := ["_law_steps", "_law_turn"]) fun _ _ _ _ _ _ us hl => match us, hl with | [_, _], _ => rfl
  have bPs := FPs.binds (ps := ["_law_stream_here", "_law_many", "_law_wide", "_law_high"]) fun _ _ _ _ _ _ us hl => match us, hl with | [_, _, _, _], _ => rfl
  have bAd := FAd.binds (ps := ["_law_lists"]) fun _ _ _ _ _ _ us hl => match us, hl with | [_], _ => rfl
  have bPt := FPt.binds (ps := ["_law_stream_here", "_law_steps"]) fun _ _ _ _ _ _ us hl => match us, hl with | [_, _], _ => rfl
  have bDe := FDe.binds (ps := []) fun _ _ _ _ _ _ us hl => match us, hl with | [], _ => rfl
  have bO := FO.binds (ps := ["_law_stream_here"]) fun _ _ _ _ _ _ us hl => match us, hl with | [_], _ => rfl
  have bBe := FBe.binds (ps := ["_law_stream_here", "_law_steps"]) fun _ _ _ _ _ _ us hl => match us, hl with | [_, _], _ => rfl
  have bSh := FSh.binds (ps := ["_law_steps", "_law_turns"]) fun _ _ _ _ _ _ us hl => match us, hl with | [_, _], _ => rfl
  have bTr := FTr.binds (ps := ["_law_ask"]) fun _ _ _ _ _ _ us hl => match us, hl with | [_], _ => rfl
  have bDu := FDu.binds (ps := ["_law_lists"]) fun _ _ _ _ _ _ us hl => match us, hl with | [_], _ => rfl
  have bLD := FLD.binds (ps := ["_law_steps", "_law_turns"]) fun _ _ _ _ _ _ us hl => match us, hl with | [_, _], _ => rfl
  have bLa := FLa.binds (ps := ["_law_stream_here", "_law_steps", "_law_turns"]) fun _ _ _ _ _ _ us hl => match us, hl with | [_, _, _], _ => rfl
  have bCh := FCh.binds (ps := ["_law_stream_here", "_law_some"]) fun _ _ _ _ _ _ us hl => match us, hl with | [_, _], _ => rfl
  have bRe := FRe.binds (ps := ["_law_stream_here", "_law_lists"]) fun _ _ _ _ _ _ us hl => match us, hl with | [_, _], _ => rfl
  have bLw := FLw.binds (ps := ["_law_script"]) fun _ _ _ _ _ _ us hl => match us, hl with | [_], _ => rfl
  have bHo := IHo.binds (ps := ["self", "places", "roads", "doors"]) fun _ _ _ _ _ _ us hl => match us, hl with | [_, _, _, _], _ => rfl
  have be := Me.binds (ps := ["self", "other"]) fun _ _ _ _ _ _ us hl => match us, hl with | [_, _], _ => rfl
  have e := hfa.symm.trans gLw
  cases e
  have hC : HC K (He.ga K "House") := ⟨cl, n1, n2, n3⟩
  obtain ⟨k0, ne⟩ := houB_ok m2 hC
  have S0 : Eqs K (He.ga K "House") (He.ma K (He.ga K "House") "__eq__") := ⟨te.at_, te.fn, ne, k0.hm⟩
  have hm0 : ((He.cT K pR).2, qRef) ∈ tT K := by simp [tT]
  have hm1 : ((He.cT K pL).2, qLw) ∈ tT K := by simp [tT]
  have hu0 : ∀ p ∈ tT K, p.1 = (He.cT K pR).2 → p.2 = qRef := fun p hp e => by
    simp only [tT, List.mem_cons, List.not_mem_nil, or_false] at hp
    rcases hp with rfl | rfl
    · rfl
    · exact absurd e.symm d0
  have hu1 : ∀ p ∈ tT K, p.1 = (He.cT K pL).2 → p.2 = qLw := fun p hp e => by
    simp only [tT, List.mem_cons, List.not_mem_nil, or_false] at hp
    rcases hp with rfl | rfl
    · exact absurd e d0
    · rfl
  have two : ∀ {p : Addr × Addr}, p ∈ [He.cT K pR, He.cT K pL] → ∃ q, q ∈ tfD ∧ p = He.cT K q := fun {p} hp => by
    simp only [List.mem_cons, List.not_mem_nil, or_false] at hp
    rcases hp with rfl | rfl
    · exact ⟨pR, by simp [tfD], rfl⟩
    · exact ⟨pL, by simp [tfD], rfl⟩
  refine ⟨fdLw, [He.cT K pR, He.cT K pL], spLaw K (tT K), fun p hp => ?_, fun p hp => ?_, fun p hp => ?_, fun s u => ?_, fun H a ns hl hH hS => ⟨a, ns, rfl, hS, hl, fun p hp => ?_, fun _ => rfl⟩, fun base KB GB TB => ?_⟩
  · obtain ⟨q, hq, rfl⟩ := two hp
    exact c.empty q hq
  · obtain ⟨q, hq, rfl⟩ := two hp
    exact c.out q hq
  · obtain ⟨q, hq, rfl⟩ := two hp
    exact PySem.W.codeHd_of_K KX (c.hd q hq)
  · obtain ⟨oc, od, kV, doc, pm, an, ct, osl, rfl, _, _⟩ := FLw.ex
    exact .of_eq rfl
  · simp only [tT, List.mem_cons, List.not_mem_nil, or_false] at hp
    rcases hp with rfl | rfl
    · exact TabS.nil (hH (He.cT K pR) (by simp))
    · exact TabS.nil (hH (He.cT K pL) (by simp))
  · have tb0 := TB (He.cT K pR) (by simp)
    have tb1 := TB (He.cT K pL) (by simp)
    have EP := ei_BadPlaces (P := PySem.Challenge.rw_lastbell_k05_whole_added_and_later.prog) (w := w) (base := base) (mg := mg) IEp gEp iEp noEp
    have ER := ei_BadRoads (P := PySem.Challenge.rw_lastbell_k05_whole_added_and_later.prog) (w := w) (base := base) (mg := mg) IEr gEr iEr noEr
    have ED := ei_BadDoors (P := PySem.Challenge.rw_lastbell_k05_whole_added_and_later.prog) (w := w) (base := base) (mg := mg) IEd gEd iEd noEd
    have ES := ei_BadSteps (P := PySem.Challenge.rw_lastbell_k05_whole_added_and_later.prog) (w := w) (base := base) (mg := mg) IEs gEs iEs noEs
    have EU := ei_BadTurns (P := PySem.Challenge.rw_lastbell_k05_whole_added_and_later.prog) (w := w) (base := base) (mg := mg) IEu gEu iEu noEu
    have CA : Cau K mg _ _ _ _ _ := ⟨gEh, gEs, gEt, gEu, gEl, xfEs, xfEu, noEs, noEu, xm0, xm1, xm2, xm3, xm4, xm5⟩
    have GI := ok_hinit IHo B FI gI bI FN gN bN FL gL bL FPl gPl bPl FR gR bR FCo gCo bCo FD0 gD0 bD0 FWR gWR bWR FWD gWD bWD EP ER ED
    have GN := ok_isNumY (P := PySem.Challenge.rw_lastbell_k05_whole_added_and_later.prog) (w := w) (base := base) (mg := mg) k0 FN B FI gI bI
    have GL := ok_isLstY (P := PySem.Challenge.rw_lastbell_k05_whole_added_and_later.prog) (w := w) (base := base) (mg := mg) k0 FL B
    have GIs := ok_isSteps (P := PySem.Challenge.rw_lastbell_k05_whole_added_and_later.prog) (w := w) (base := base) (mg := mg) k0 FIs B FI gI bI FN gN bN FL gL bL
    have GNS := ok_NS5 FNS FIs gIs bIs GIs ES
    have GCF := ok_CF (P := PySem.Challenge.rw_lastbell_k05_whole_added_and_later.prog) (w := w) (base := base) (mg := mg) FCF
    have GCB := ok_CBS (P := PySem.Challenge.rw_lastbell_k05_whole_added_and_later.prog) (w := w) (base := base) (mg := mg) (C := He.ga K "House") FCB FCF gCF bCF
    have GSO := ok_SO (P := PySem.Challenge.rw_lastbell_k05_whole_added_and_later.prog) (w := w) (base := base) (mg := mg) FSO z16
    have GTg := ok_tog FTg FL gL bL GL FNS gNS bNS GNS FCB gCB bCB GCB FSO gSO bSO GSO ES
    have GLt := ok_later FLt FN gN bN GN FNS gNS bNS GNS EU
    have GE := ok_heq4 (P := PySem.Challenge.rw_lastbell_k05_whole_added_and_later.prog) (w := w) (base := base) (mg := mg) k0 Me B gHo
    have GS5 := ok_same k0 S0 GE be FSm B gSm bSm 50
    have GLN := ok_LNum (P := PySem.Challenge.rw_lastbell_k05_whole_added_and_later.prog) (w := w) (base := base) (mg := mg) k0 FLN B
    have GLL := ok_LLst (P := PySem.Challenge.rw_lastbell_k05_whole_added_and_later.prog) (w := w) (base := base) (mg := mg) k0 FLL B
    have GLS := ok_LSteps FLS B FLN gLN bLN GLN FLL gLL bLL GLL
    have GLR := ok_LRate (P := PySem.Challenge.rw_lastbell_k05_whole_added_and_later.prog) (w := w) (base := base) (mg := mg) (C := He.ga K "House") FLR
    have GPs := ok_pst (P := PySem.Challenge.rw_lastbell_k05_whole_added_and_later.prog) (w := w) (base := base) (mg := mg) FPs B FD gD bD
    have GAd := ok_LAd FAd z16 z17 FLR gLR bLR GLR
    have GPt := ok_pts (P := PySem.Challenge.rw_lastbell_k05_whole_added_and_later.prog) (w := w) (base := base) (mg := mg) (C := He.ga K "House") FPt B FD gD bD FP gP bP FLR gLR bLR
    have GLo := ok_lo (P := PySem.Challenge.rw_lastbell_k05_whole_added_and_later.prog) (w := w) (base := base) (mg := mg) k0 FLo B FD gD bD gLo bLo 48
    have GO := ok_odd FO B FD gD bD FP gP bP FDe gDe bDe mk hC GI gHo bHo od
    have GBe := ok_bent FBe B FD gD bD FP gP bP FO gO bO GO
    have GSh := ok_LSh (P := PySem.Challenge.rw_lastbell_k05_whole_added_and_later.prog) (w := w) (base := base) (mg := mg) (C := He.ga K "House") FSh
    have GDu := ok_due FDu FLL gLL bLL GLL FLS gLS bLS GLS FAd gAd bAd GAd
    have GLD := ok_ldue FLD FLN gLN bLN GLN FLS gLS bLS GLS FSh gSh bSh GSh
    have GLa := ok_LR FLa B z15 FD gD bD FLo gLo bLo GLo FSh gSh bSh GSh FLt gLt bLt GLt FSm gSm bSm GS5
    have GCh := ok_chg FCh B FD gD bD FLo gLo bLo GLo FSh gSh bSh GSh FAd gAd bAd GAd FLt gLt bLt GLt FTg gTg bTg GTg FSm gSm bSm GS5
    have GRe := ok_ref (T0 := tT K) FRe B FD gD bD FP gP bP FBe gBe bBe (GBe.mono (by decide)) FO gO bO GO FLo gLo bLo GLo FDu gDu bDu GDu FLD gLD bLD GLD FLt gLt bLt GLt FTg gTg bTg GTg FSm gSm bSm GS5 FTr gTr bTr CA tb0 hm0 hu0
    obtain ⟨oc, od2, kV, doc, pm, an, ct, osl, rfl, lk, hcd⟩ := FLw.ex
    refine ⟨fun vs H Q E h => ?_, fun A outer s H args us vs Q E hG0 hr0 e0 hb r hsp => ?_⟩
    · obtain ⟨a, ns, rfl, _⟩ := h
      rfl
    · obtain ⟨a, ns, rfl, hS, hl, hT, k⟩ := hsp
      refine LamX.run_ofS (k := 59) (N := NLaw) (ps := ["_law_script"]) lk hcd scLaw hr0 e0 hb r rfl fun hr => ?_
      obtain ⟨t, ht, hq⟩ := law_body B z15 FSt gSt bSt FD gD bD FP gP bP FPs gPs bPs GPs FPt gPt bPt GPt FMx gMx bMx FAd gAd bAd GAd FLo gLo bLo GLo FLa gLa bLa GLa FCh gCh bCh GCh FRe.kp gRe bRe GRe FSm gSm bSm GS5 FLt gLt bLt GLt FTg gTg bTg GTg FTr gTr bTr CA tb1 hm1 hu1 (outer := outer) (E := E) hr hG0 hS hl hT k
      exact ⟨t, ht.nox, hq⟩
end
end K05
open PySem PySem.W PySem.Calls PyProof.Rows
theorem PySem.Challenge.cw_lastbell_k05_whole_added_and_later_holds : PySem.Challenge.rw_lastbell_k05_whole_added_and_later.Holds := by
  w_on; o_law
  refine HandSHeadRun.head_any (r := K05.R) (q := view K05.R.prog [55]) (H := K05.hk) (ob := K05.ob) (M := 9000) (loose := K05.looseN) (d := HandSHeadRun.topDef K05.R.prog 55) (kwd := []) K05.ob_eq
    (by kernel_rfl) (fun s => by kernel_rfl) K05.run (by kernel_rfl) (by kernel_rfl) (by kernel_rfl) (by rfl) (by first | assumption | decide +kernel) (by decide +kernel) ⟨rfl, rfl, rfl, rfl, rfl, by decide +kernel⟩ ?hw ?hc
  case hw => w_witness2
  case hc =>
    refine Own.walk_G (l := PySem.Challenge.rw_lastbell_k05_whole_added_and_later) (n := 63) (k := 60) (x := "_law_script") rfl (by decide) (by kernel_rfl) ⟨rfl, by decide, by decide⟩ ?F
    intro w mg fa h Y G hmg0
    obtain ⟨K, KX, c⟩ := Y
    have hmg : mg ("law" : PySem.Str) = some (.ref fa) := by
      have e : (HandSHeadRun.topDef K05.R.prog 55).name = ("law" : PySem.Str) := by kernel_rfl
      rw [← e]
      exact hmg0
    exact ⟨K, KX, K05.facts KX G hmg c⟩

