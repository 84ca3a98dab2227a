import PyProof.Rows.All
import Wide.All
import OpenK.AllK
import Wide.FinOn
import HandS.ForMost
import HandS.Exc
import HandS.TryOnly
import HandS.ExcOwn
import HandS.WordsExc
import PyProof.ReprRoads
import HandS.Ends
import HandS.ExcInit
import HandS.ExcIs
import HandS.ExcField
import HandS.IsInst
import HandS.TupMul
import HandS.TupAny
import HandS.Wide
import HandS.Evl
import KE.KTypeName
import HandS.FStrTup
import HandS.Style
import HandS.Iter
import HandS.Zip
import HandS.Walk
import KE.GoesEnum
import KE.GoesNew
import HandS.SortInts
import KE.KNestM
import KE.KLam
import HandS.Lambda
import HandS.CallLocal
import HandS.EndBits
import PyProof.P3In
import HandS.Conv
import HandS.ClsMeth
import KE.SortKeyHeap
import HandS.SortKw
import HandS.More
import PyProof.P3Eq
import PyProof.TupleOfSeq
import PySem.Challenge.RW_twicemany_k14_racks_their_cells_and_refu
set_option Elab.async false
set_option linter.all false
set_option maxRecDepth 100000
set_option maxHeartbeats 4000000
namespace Own
open PySem PySem.Spec PyProof.Rows L2
/-! ### the text of data -/
def rShow (K : PySem.W.Frag) : List V → Hp → VK → Prop := fun xs H Q => ∃ (x : V) (d : PyData), xs = [x] ∧ Dp K H x d ∧
  (d.showable = true ∧ d.hasDict = false ∧ d.depth ≤ 60 ∧ d.shown.length ≤ sizeLine) ∧ Q (.str d.shown) H
theorem call_show {X : Cx} (hg : X.A.guards = some []) (hu : X.A.units + 64 < cLine) : CallR X (.builtin "repr") (rShow X.K) := by
  intro pins s σ H xs us Q I rv hh
  obtain ⟨x, d, rfl, hd, ⟨h1, h2, h3, h4⟩, q⟩ := hh
  obtain ⟨u, rfl, ru⟩ := vals1 rv
  cases hd with
  | non => cases ru; exact PySem.P.repr_of_none ⟨.str _, H, I.tok _, ⟨_, rfl⟩, q⟩
  | bl b => cases ru; exact PySem.P.repr_of_bool ⟨.str _, H, I.tok _, ⟨_, rfl⟩, by simpa only [PyData.shown] using q⟩
  | int i =>
    obtain ⟨t, rfl⟩ := ru
    exact PySem.P.repr_of_int (by simpa [PyData.showable] using h1) ⟨.str _, H, I.tok _, ⟨_, rfl⟩, by simpa only [PyData.shown] using q⟩
  | str z =>
    obtain ⟨t, rfl⟩ := ru
    exact PySem.P.repr_of_str ⟨.str _, H, I.tok _, ⟨_, rfl⟩, by simpa only [PyData.shown] using q⟩ (by simpa only [PyData.shown] using h4)
  | lst hs ha =>
    cases ru
    obtain ⟨as, rd⟩ := Dp.reads I _ _ _ (Dp.lst hs ha) rfl
    exact repr_of_reads' rd h1 (PyData.noDict_hsm h2) hg (by omega) (fun _ _ e => e) (fun h' u tk hk => ⟨.str _, H, I.kept hk, ⟨_, rfl⟩, q⟩) h4
  | tup hs ha =>
    cases ru
    obtain ⟨as, rd⟩ := Dp.reads I _ _ _ (Dp.tup hs ha) rfl
    exact repr_of_reads' rd h1 (PyData.noDict_hsm h2) hg (by omega) (fun _ _ e => e) (fun h' u tk hk => ⟨.str _, H, I.kept hk, ⟨_, rfl⟩, q⟩) h4
theorem guards_deeper {A : Around} {env : Env} : (A.deeper env).guards = A.guards := by
  unfold Around.deeper
  rfl
end Own


namespace Own
open PySem PySem.Spec PyProof.Rows L2
/-! ### a def's promise where no text of data is being made around the call -/
structure FnG (P : Program) (w : World) (K : PySem.W.Frag) (mg : Str → Option Value) (base : Heap) (C : CXT) (k : Nat) (f : Addr) (fd : FuncData) (ps : List Str) (sp : Sp) : Prop where
  size : ∀ vs H Q E, sp vs H Q E → vs.length = ps.length
  goes : ∀ (A : Around) (outer : List Env) (s : Shared) (H : Hp) (args : Args) (us : List Value) (vs : List V) (Q : VK) (E : XK),
    A.guards = some [] → Room k A → Env0 P w K mg base A outer s H → BindsTo s fd args (ps.zip us) → Vals vs us → sp vs H Q E →
      codeAny (model P w) A (.call (.ref f) args) (CR C outer P w H s Q E) s
theorem FnG.of {P : Program} {w : World} {K : PySem.W.Frag} {mg : Str → Option Value} {base : Heap} {C : CXT} {k : Nat} {f : Addr} {fd : FuncData} {ps : List Str} {sp : Sp}
    (F : FnOk P w K mg base C k f fd ps sp) : FnG P w K mg base C k f fd ps sp := ⟨F.len, fun A o s H args us vs Q E _ => F.run A o s H args us vs Q E⟩
section
variable {P : Program} {w : World} {K : PySem.W.Frag} {mg : Str → Option Value} {base : Heap}
theorem fnG_mk {C : CXT} {x qual : Str} {st : Stmt} {f : Addr} {fd : FuncData} {N ps : List Str} {k : Nat} {sp : Sp} (F : Fun K x qual st f fd) (S : FnScope N ps (defScope st)) (sz : ∀ vs H Q E, sp vs H Q E → vs.length = ps.length)
    (hb : ∀ (cdv : Value) (A : Around) (outer : List Env) (s : Shared) (H : Hp) (vs : List V) (Q : VK) (E : XK),
      (A.deeper (envOfC qual (defScope st) s.heap.objs.size f cdv)).guards = some [] → Room k (A.deeper (envOfC qual (defScope st) s.heap.objs.size f cdv)) → sp vs H Q E →
        ∃ t, PSs (cxOf C P w K mg base N qual (defScope st) f cdv A outer s H E) (defBody st) t ∧ t { nx := fun _ H' => Q .non H', rt := Q } (start N vs) H) :
    FnG P w K mg base C (k + 1) f fd ps sp := by
  obtain ⟨oc, od, kV, doc, pm, an, cdv, ct, osl, efd, look, code⟩ := F.ex
  subst efd
  refine ⟨sz, fun A o s H args us vs Q E gA room e0 bind rv pre => ?_⟩
  have inside : K.In s.heap := e0.mod.kin.keeps fun b u q => (e0.bs b u q).1
  have free : s.heap.NoLimit := e0.mod.nolimit.keeps fun b u q => (e0.bs b u q).1
  refine codeAny_call_function room.depth (inside _ _ look) rfl S.co S.gen rfl (PySem.W.codeRec_of inside code) (bind _ _ _ _ ?_)
  refine wpAny_newFunctionEnv_cells S.kind (fun y hy => ?_) fun env he s1 x => ?_
  · have m := (List.of_mem_zip (show (y.1, y.2) ∈ ps.zip us from hy)).1
    exact (S.par y.1 m).elim Or.inl fun q => Or.inr ⟨q, PySem.W.cellsFrom_some _ _ _ (.inl q)⟩
  · subst he
    refine ⟨free.keeps x.toInCall.keep, codeAny_func ?_⟩
    obtain ⟨t, ht, rd⟩ := hb cdv A o s H vs Q E (guards_deeper.trans gA) (room.deeper _) pre
    have I := inv_start (CX := C) (P := P) (w := w) (mg := mg) (E := E) (N := N) S room.hd e0 (sz _ _ _ _ pre) rv x
    refine wpAny_mono (ht.run [] s1 (start N vs) H _ I rd) (fun fl s' hs => ?_) fun _ _ z => z
    match fl, hs with
    | .ret u, hs => exact (let ⟨v, _, H', J, r2, q⟩ := hs; ⟨v, H', J.os, J.bare, J.base, J.hok, r2, q⟩)
    | .next, hs => exact (let ⟨_, H', J, q⟩ := hs; ⟨V.non, H', J.os, J.bare, J.base, J.hok, rfl, q⟩)
    | .brk, hs => exact (let ⟨_, _, _, z⟩ := hs; z.elim)
    | .cont, hs => exact (let ⟨_, _, _, z⟩ := hs; z.elim)
/-- nothing is let out -/
theorem fnG_ok {x qual : Str} {st : Stmt} {f : Addr} {fd : FuncData} {N ps : List Str} {k : Nat} {sp : Sp} (F : Fun K x qual st f fd) (S : FnScope N ps (defScope st)) (sz : ∀ vs H Q E, sp vs H Q E → vs.length = ps.length)
    (hb : ∀ (cdv : Value) (A : Around) (outer : List Env) (s : Shared) (H : Hp) (vs : List V) (Q : VK) (E : XK),
      (A.deeper (envOfC qual (defScope st) s.heap.objs.size f cdv)).guards = some [] → Room k (A.deeper (envOfC qual (defScope st) s.heap.objs.size f cdv)) → sp vs H Q E →
        ∃ t, PSs (cxOf CX0 P w K mg base N qual (defScope st) f cdv A outer s H E).nox (defBody st) t ∧ t { nx := fun _ H' => Q .non H', rt := Q } (start N vs) H) :
    FnG P w K mg base CX0 (k + 1) f fd ps sp :=
  fnG_mk F S sz fun cdv A o s H vs Q E g r h => let ⟨t, p, q⟩ := hb cdv A o s H vs Q E g r h; ⟨t, p.nox, q⟩
end
section
variable {X : Cx} {C : CXT} {k : Nat} {f : Addr} {fd : FuncData} {ps : List Str} {sp : Sp} {dvs : List V} {ds : List Value} {E : XK} {x : Str} {p pos : Pos} {e : Expr} {es : List Expr} {t : TA}
theorem goesG {pins : List (Addr × Obj)} {σ : L2.St} {H : Hp} {s : Shared} {Q : VK} {us : List Value} {vs : List V} (F : FnG X.prog X.w X.K X.mg X.base C k f fd ps sp) (hg : X.A.guards = some []) (hr : Room k X.A) (hb : Binds X.K fd ps []) (hx : Passes C X E)
    (I : Inv X pins σ H s) (rv : Vals vs us) (h : sp vs H Q E) : wpAny (model X.prog X.w) X.A (call (.ref f) us) (EP X pins σ Q) X.xe s := by
  have n : (us ++ []).length = ps.length := by rw [List.append_nil, ← rv.length, F.size _ _ _ _ h]
  have bt := hb s us I.kIn n
  rw [List.append_nil] at bt
  refine wpAny_call (codeAny_mono (F.goes X.A X.stack s H ⟨us, []⟩ us vs Q E hg hr I.env0 bt rv h) fun r s' z => ?_)
  match r, z with
  | .error e, z => exact hx pins σ H s e s' I z
  | .ok (.ret u), z => exact I.after z
  | .ok .next, z => exact z.elim
  | .ok .brk, z => exact z.elim
  | .ok .cont, z => exact z.elim
/-- f(e, ..), by such a promise -/
theorem pe_callG (F : FnG X.prog X.w X.K X.mg X.base C k f fd ps sp) (hg : X.A.guards = some []) (hr : Room k X.A) (gl : Gl X x) (hm : X.mg x = some (.ref f)) (hk : PySem.W.keepIn X.K (.ref f) = true) (hb : Binds X.K fd ps []) (hx : Passes C X E)
    (ha : PA X (e :: es) t) (hdb : (x == ("__debug__" : Str)) = false := by decide) (hst : starEach (e :: es) X.env = (false, eval e X.env) :: starEach es X.env := by rfl) (hpl : (backTo pos (starEach es X.env)).any (·.1) = false := by rfl) :
    PE X (.Call (.Name x p) (e :: es) [] pos) (fun σ H Q => t σ H fun vs H1 => sp vs H1 Q E) :=
  ⟨fun pins s σ H Q I h => wpAny_Call_Name_kw (ld_glob I gl hm
    (PySem.W.callWith_K (h₀ := X.base) I.ok.mod.kin hk (thn (ha.run pos pins s σ H _ I h) fun us s1 ⟨vs, H1, J, rv, q⟩ => ⟨J.kIn, goesG F hg hr hb hx J rv q⟩) hst hpl) hdb)⟩
end
end Own


namespace Own
open PySem PySem.Spec PyProof.Rows L2
/-! ### the law's own call -/
/-- what stands at the law's entry, seen with nothing but the script tracked -/
structure Entry (K : PySem.W.Frag) (s : Shared) (a : Addr) (vs : List Value) (ns : List Int) (H : Hp) : Prop where
  only : Only H
  seq : SqL K H a (ns.map V.int)
  none_ : ∀ b, b ≠ a → H b = none
  own : H a ≠ none → K.lookup a = none
theorem entry_ok {P : Program} {w : World} {K : PySem.W.Frag} {s : Shared} {a : Addr} {vs : List Value} {ns : List Int} (KX : K.In s.heap)
    (ha : s.heap.get? a = some { cls := .type "list", data := .seq vs.toArray }) (hi : IntsAre vs ns) (hl : ns.length ≤ sizeLine) : ∃ H, Entry K s a vs ns H ∧ HOk P w H s.heap := by
  have rv := vals_ints hi
  have ln : vs.length = ns.length := hi.length
  by_cases hk : K.lookup a = none
  · refine ⟨fun b => if b = a then some (.frz { cls := .type "list", data := .seq vs.toArray } (.lst (ns.map V.int))) else none, ⟨fun b => ?_, .inl (.inr ⟨_, if_pos rfl⟩), fun b nb => if_neg nb, fun _ => hk⟩, fun b u e => ?_⟩
    · by_cases q : b = a
      · exact .inr ⟨_, _, if_pos q⟩
      · exact .inl (if_neg q)
    · by_cases q : b = a
      · have e' := (if_pos q).symm.trans e
        injection e' with e'
        subst e' q
        exact ⟨ha, by rw [List.length_map]; exact hl, vs, _, rv, ha⟩
      · exact absurd ((if_neg q).symm.trans e) (by intro z; cases z)
  · obtain ⟨o, ho⟩ := Option.ne_none_iff_exists'.mp hk
    have e := (KX a o ho).symm.trans ha
    injection e with e
    subst e
    exact ⟨fun _ => none, ⟨fun _ => .inl rfl, .inr ⟨_, vs.toArray, _, ho, rfl, rfl, rfl, by rw [List.size_toArray, ln]; exact hl, by simpa using rv⟩, fun _ _ => rfl, fun z => absurd rfl z⟩,
      fun b u z => by cases z⟩
theorem lawG {P : Program} {w : World} {K : PySem.W.Frag} {mg mb : Str → Option Value} {k : Nat} {fa a : Addr} {fd : FuncData} {x : Str} {sp : Sp} {s : Shared} {vs : List Value} {ns : List Int}
    (KX : K.In s.heap) (g1 : s.heap.Ns mainGlobals mg) (g2 : s.heap.Ns builtinsNs mb) (g3 : ∀ x : Str, x ≠ "__name__" → mb x = bootBuiltins x) (g4 : s.heap.NoLimit) (hg : s.gens = #[])
    (ha : s.heap.get? a = some { cls := .type "list", data := .seq vs.toArray }) (hi : IntsAre vs ns) (hl : ns.length ≤ sizeLine) (hr : Room k callerA)
    (F : ∀ base : Heap, K.In base → base.Ns mainGlobals mg → FnG P w K mg base CX0 k fa fd [x] sp) (hb : ∀ (s : Shared) (u : Value), BindsTo s fd ⟨[u], []⟩ [(x, u)])
    (hsp : ∀ H : Hp, Only H → SqL K H a (ns.map V.int) → sp [.ref a] H (fun v _ => v = .bl true) E0) :
    codeAny (model P w) callerA (.call (.ref fa) ⟨[.ref a], []⟩) (fun r s' => r = .ok (.ret (.bool true)) ∧ OldK s.heap s'.heap ∧ s'.os = s.os ∧ AllBare s'.gens) s := by
  obtain ⟨H, e, hok⟩ := entry_ok (P := P) (w := w) KX ha hi hl
  -- the base: what isn't tracked
  have un : ∀ {b : Addr} {m : Str → Option Value}, s.heap.Ns b m → H b = none := fun {b m} ⟨o, es, ep, q, d, _⟩ => by
    by_cases z : b = a
    · subst z
      rw [ha] at q
      injection q with q
      subst q
      exact absurd d (by intro z; cases z)
    · exact e.none_ b z
  have nsB : ∀ {b : Addr} {m : Str → Option Value}, s.heap.Ns b m → (hidT s.heap H).Ns b m := fun {b m} n => by
    have hn := un n
    obtain ⟨o, es, ep, q, d, r⟩ := n
    exact ⟨o, es, ep, hidT_get q hn, d, r⟩
  have KB : K.In (hidT s.heap H) := fun b o q => hidT_get (KX b o q) (by
    by_cases z : b = a
    · subst z
      by_cases y : H b = none
      · exact y
      · have n := e.own y
        rw [q] at n
        cases n
    · exact e.none_ b z)
  have e0 : Env0 P w K mg (hidT s.heap H) callerA [] s H :=
    ⟨rfl, ⟨KB, nsB g1, ⟨mb, nsB g2, g3⟩, (let ⟨mc, h1, h2⟩ := g4; ⟨mc, nsB h1, h2⟩)⟩, fun b o q => of_hidT q, Nat.le_of_eq (hidT_size _ _), trivial, fun b z => absurd z (List.not_mem_nil), hok, .of_eq hg⟩
  refine codeAny_mono ((F _ KB (nsB g1)).goes callerA [] s H ⟨[.ref a], []⟩ [.ref a] [.ref a] _ _ rfl hr e0 (hb s (.ref a)) (.cons rfl .nil) (hsp H e.only e.seq)) fun r s' z => ?_
  match r, z with
  | .error _, z => exact z.elim
  | .ok .next, z => exact z.elim
  | .ok .brk, z => exact z.elim
  | .ok .cont, z => exact z.elim
  | .ok (.ret u), z =>
    obtain ⟨v, H', os, bare, ch, hok', ru, q⟩ := z
    have q : v = .bl true := q
    subst q
    have eu : u = Value.bool true := ru
    refine ⟨by rw [eu], OldK.of_keep fun b o q => ?_, os, bare⟩
    cases y : H b with
    | none => exact ch.keep b o q y (fun z => by cases z) (fun z => by cases z)
    | some u' =>
      rcases e.only b with z | ⟨ob, xs, z⟩
      · rw [y] at z
        cases z
      · have o1 := (hok b _ z).1
        have o2 := (hok' b _ (ch.frzs b ob _ z)).1
        rw [q] at o1
        injection o1 with o1
        rw [o1]
        exact o2
theorem walkG {l : PySem.W.OpenLaw} {n k : Nat} {q : Program} {loose : List Str} {XP : (Str → Option Value) → Heap → Prop} {YP : World → Heap → Prop} {d : DefRec} {K : Params → PySem.W.Frag} {sp : PySem.W.Frag → Sp} {x : Str}
    (h1 : l.most = some n) (h2 : n ≤ sizeLine) (h3 : d.params.defaults = []) (hr : Room k callerA) (hY : ∀ (w : World) (h : Heap), YP w h → (K w.params).In h)
    (F : ∀ (w : World) (mg : Str → Option Value) (fa : Addr) (h : Heap), (K w.params).In h → h.Ns mainGlobals mg → mg d.name = some (.ref fa) →
      ∃ fd : FuncData, (∀ (s : Shared) (u : Value), BindsTo s fd ⟨[u], []⟩ [(x, u)]) ∧
        ∀ base : Heap, (K w.params).In base → base.Ns mainGlobals mg → FnG l.prog w (K w.params) mg base CX0 k fa fd [x] (sp (K w.params)))
    (hsp : ∀ (K : PySem.W.Frag) (H : Hp) (a : Addr) (ns : List Int), ns.length ≤ n → Only H → SqL K H a (ns.map V.int) → sp K [.ref a] H (fun v _ => v = .bl true) E0) :
    PySem.W.WalkO q loose XP YP l.row.toRowW d [] (fun f vs => PySem.call f vs) :=
  Att.attach_call h1 h3 fun w s₀ s₁ mg mb fa o pm cd doc a vs ns G Y ho hd hcd hmg hobj hints hlen hg =>
    let ⟨fd, hb, hF⟩ := F w mg fa _ (hY w _ Y) G.T.g hmg
    lawG (hY w _ Y) G.T.g G.T.b G.T.builtins G.T.nolimit hg hobj hints (Nat.le_trans hlen h2) hr hF hb fun H hO hS => hsp _ H a ns hlen hO hS
end Own


namespace Own
open PySem PySem.Spec PyProof.Rows L2
/-! ### isinstance of a caught error that has a dict of its own -/
section
open PySem.W PySem.Calls
variable {prog : Program} {w : World} {A : Around} {E : Value → Shared → Prop} {s : Shared} {K : Frag} {x D : Addr} {ox : Obj} {od : Option Obj}
theorem asks_class {Q : Option Value → Shared → Prop} (T : ExcC K D) (hf : findObj K D od "__class__" = some (.bind (.builtin "getset_descriptor.__get__") (.builtin "object.__class__")))
    (KX : K.In s.heap) (I : PySem.W.InstAt s.heap x ox D od) (h : Q (some (.ref D)) { s with toks := s.toks + 1 }) : wpAny (model prog w) A (getAttr? (.ref x) "__class__") Q E s := by
  obtain ⟨hp, g, d, t, os⟩ := s
  have a0 := I.type (M := model prog w)
  have a1 := looks_findIn (M := model prog w) KX T.hg
  have a2 := looks_findIn (M := model prog w) KX T.hk
  have a3 := looks_find (M := model prog w) KX I hf
  have a4 : Looks (model prog w) hp (isInstance (.ref x) (.type "BaseException")) true := a0.andThen (looks_subIn KX T.hs)
  have n1 : (Value.builtin "BaseException.__getattribute__" == Value.builtin "object.__getattribute__") = false := by decide +kernel
  have n2 : (onTheHeap (Value.ref D) && Value.builtin "BaseException.__getattribute__" == Value.builtin "object.__getattribute__") = false := by rw [n1]; rfl
  have n3 : (false && onTheHeap (Value.builtin "BaseException.__getattribute__")) = false := rfl
  unfold getAttr? getAttrBy? getAttrBy
  refine wpAny_bind (wpAny_mkText (wpAny_bind (wpAny_attempt (wpAny_holding (wpAny_bind (a0.at (wpAny_bind (a1.at ?_))))))))
  simp only [n2, Bool.false_eq_true, if_false]
  unfold getAttrByItsOwn hookBefore
  refine wpAny_bind ?_
  rw [if_pos (show onTheHeap (Value.ref D) = true from rfl)]
  refine a2.at (wpAny_bind (wpAny_attempt (wpAny_holding ?_)))
  unfold callGetattribute
  simp only [n3, Bool.false_eq_true, if_false]
  unfold boundAndCalled
  rw [PySem.F.excAttr_ValueError.ga.bind (.ref x)]
  refine wpAny_bind (wpAny_pure ?_)
  show wpAny _ _ (call (.builtin "BaseException.__getattribute__") [.ref x, .str "__class__" t]) _ _ _
  refine wpAny_call (codeAny_call_builtin PySem.F.excAttr_ValueError.ga.plain PySem.F.entry_bexc_ga ?_)
  refine @check_slot (model prog w) _ _ ⟨hp, g, d, t + 1, os⟩ "BaseException.__getattribute__" "BaseException" "__getattribute__" (.ref x) [.str "__class__" t] [] _ (by decide +kernel) (by decide +kernel) a4
    (PySem.F.args_bexc_ga (.ref x) (.str "__class__" t)) ?_
  unfold Builtin.«object.__getattribute__»
  refine wpAny_bind (wpAny_of_eq (a := ((Value.ref x : Value), [Value.str "__class__" t])) (by first | rfl | (simp only [slotArgs]; rfl)) ?_)
  refine wpAny_bind (wpAny_pure (wpAny_bind (a0.at (wpAny_bind (a3.at ?_)))))
  show wpAny _ _ (holding [Value.builtin "object.__class__"] (call (.builtin "getset_descriptor.__get__") [.builtin "object.__class__", .ref x, .ref D]) >>= ret) _ _ _
  refine wpAny_bind (wpAny_holding (wpAny_call (class_get (s := ⟨hp, g, d, t + 1, os⟩) (ox := ox) (od := od) KX I T.hm (wpAny_pure ?_))))
  show wpAny _ _ (handedOut (.ref D)) _ _ _
  rw [handedOut_of (v := .ref D) rfl]
  first
    | exact wpAny_pure h
    | exact wpAny_pure (wpAny_pure h)
    | exact wpAny_pure (wpAny_bind (wpAny_pure (wpAny_pure h)))
theorem cls_there (T : ExcC K D) : ∃ c' d' cd' sl', K.lookup D = some ⟨c', d', .cls cd', sl'⟩ := by
  obtain ⟨cd, hc, _⟩ := any_some T.hd
  unfold clsIn at hc
  split at hc
  · rename_i c' d' cd' sl' ho
    exact ⟨_, _, _, _, ho⟩
  · cases hc
theorem kit_exc (T : ExcC K D) : KitX K (.ref x) (.ref D) (fun h => ∃ od, PySem.W.InstAt h x ox D (some od)) where
  ty := fun _ _ _ ⟨_, I⟩ => I.type
  it := fun _ _ KX _ A' Q' E' s' k q => by
    obtain ⟨_, _, _, _, ho⟩ := cls_there T
    unfold isType loadHead
    exact wpAny_bind (wpAny_loadPart (k _ _ (KX _ _ ho)) (wpAny_pure q))
  ne := fun h tp dd its n sl KX htp => Bool.eq_false_iff.mpr fun q => by
    obtain ⟨_, _, _, _, ho⟩ := cls_there T
    have e : D = tp := Value.ref.inj (beq_iff_eq.mp q)
    subst e
    exact absurd ((KX _ _ ho).symm.trans htp) (by intro z; cases z)
  ca := fun KX ⟨od, I⟩ q => asks_class T (findObj_data (by obtain ⟨cd, hc, _⟩ := any_some T.hd; rw [hc]; rfl) T.ha T.hn T.ht) KX I q
end
/-- isinstance(e, c), e the error that the suite holds: its class cls is D, its dict told by d -/
def rIsD (K : PySem.W.Frag) (D a : Addr) (cls : Value) (d : Option Addr) : List V → Hp → VK → Prop := fun xs H Q => cls = .ref D ∧ ∃ (c : V) (cv : Value) (b : Bool) (dd : Addr) (fs : List (Str × V)),
  xs = [.ref a, c] ∧ ClsV c cv ∧ PySem.W.kitOne K (.ref D) cv = some b ∧ d = some dd ∧ H dd = some (.xd fs) ∧ Q (.bl b) H
theorem call_isD {X : Cx} {a D : Addr} {cls : Value} {d : Option Addr} {oe : Obj} {pn : List (Addr × Obj)} (T : ExcC X.K D) (hz : Zc cls d oe) (hf : ∃ vs, oe.data = .fields vs) :
    CallR (X.suite a ((a, oe) :: pn)) (.builtin "isinstance") (rIsD X.K D a cls d) := by
  intro pins s σ H xs us Q I rv h
  obtain ⟨ec, c, cv, b, dd, fs, rfl, kc, e, e1, ed, q⟩ := h
  subst ec e1
  obtain ⟨u1, u2, rfl, r1, r2⟩ := vals2 rv
  cases r1
  have e2 := kc.eq r2
  subst e2
  obtain ⟨at_, _⟩ := I.pin (a, oe) (List.mem_append.mpr (.inl List.mem_cons_self))
  obtain ⟨vs, hv⟩ := hf
  obtain ⟨mA, hns, _⟩ := I.hok dd _ ed
  obtain ⟨od, ho, _⟩ := lookIn_ns hns
  have J : PySem.W.InstAt s.heap a oe D (some od) := ⟨at_, hz.1, by unfold PySem.W.notCls; rw [hv] <;> rfl, by rw [hz.2]; exact ho⟩
  exact PySem.W.kia_one (kit_exc T) I.kIn ⟨od, J⟩ e (fun z => nomatch z) fun tk => ⟨.bl b, H, I.kept (t' := tk) fun _ _ z => z, rfl, q⟩
/-! ### f(k = e, ..) without a positional argument, in a try's body -/
section
variable {X : Cx} {C : CXT} {k : Nat} {f : Addr} {fd : FuncData} {ps ks : List Str} {sp : Sp} {E : L2.St → XK} {x : Str} {p pos : Pos} {kws : List Keyword} {tk : TA}
theorem pe_callKS (F : FnOk X.prog X.w X.K X.mg X.base C k f fd ps sp) (hr : Room k X.A) (hg : Gl X x) (hm : X.mg x = some (.ref f)) (hk : PySem.W.keepIn X.K (.ref f) = true)
    (hb : ∀ (s : Shared) (ws : List Value), X.K.In s.heap → ws.length = ps.length → BindsTo s fd ⟨[], ks.zip ws⟩ (ps.zip ws)) (hx : ∀ σ, PassesAt C X σ (E σ))
    (hkw : PK X kws tk) (hall : (backToKw pos (keywordEach kws X.env)).all (·.1.isSome) = true := by rfl) (hks : (backToKw pos (keywordEach kws X.env)).filterMap (·.1) = ks := by rfl)
    (hpl : ((backTo pos (starEach [] X.env)).any (·.1) || (backToKw pos (keywordEach kws X.env)).any (·.1.isNone)) = false := by rfl) (hdb : (x == ("__debug__" : Str)) = false := by decide) :
    PE X (.Call (.Name x p) [] kws pos) (fun σ H Q => tk σ H fun vs H1 => sp vs H1 Q (E σ)) := by
  refine ⟨fun pins s σ H Q I h => wpAny_Call_Name_kw (ld_glob I hg hm ?_ hdb)⟩
  refine PySem.W.callWith_KW0 (h₀ := X.base) I.ok.mod.kin hk hall (thn (hkw.run pos pins s σ H _ I h) fun ws s1 ⟨zs, H1, J, rz, q⟩ => ⟨J.kIn, ?_⟩) ?_
  · rw [hks]
    have n : ws.length = ps.length := by rw [← rz.length]; exact F.len _ _ _ _ q
    refine wpAny_call (codeAny_mono (F.run X.A X.stack s1 H1 ⟨[], ks.zip ws⟩ ws zs Q (E σ) hr J.env0 (hb s1 ws J.kIn n) rz q) fun r s' z => ?_)
    match r, z with
    | .error e, z => exact hx σ pins H1 s1 e s' J z
    | .ok (.ret u), z => exact J.after z
    | .ok .next, z => exact z.elim
    | .ok .brk, z => exact z.elim
    | .ok .cont, z => exact z.elim
  · exact hpl
end
end Own


namespace Own
open PySem PySem.Spec PyProof.Rows L2
/-! ### t * 1 is t itself -/
theorem tuple_once (l : Addr) (items : Array Value) (n : Nat) (dd : Option Addr) (sl : Array (Option Value)) (u : Tok) :
    Meets (Builtin.«tuple.__mul__» ⟨[.ref l, .int 1 u], []⟩) (fun _ R s => s.heap.get? l = some { cls := .type "tuple", dict := dd, data := .seq items n, slots := sl } ∧ R (.ok (.ret (.ref l))) s) :=
  .of_wp fun prog w A R s h => by
    obtain ⟨hp, g, d, tk, os⟩ := s
    obtain ⟨hl, h⟩ := h
    have f1 := AutoSeq1.idx_int
    have c0 : (decide ((1 : Int) < -(2 ^ 63)) || decide ((1 : Int) ≥ 2 ^ 63)) = false := by decide
    have c1 : (items.isEmpty || (1 : Int) == 1) = true := by rw [show ((1 : Int) == 1) = true from rfl, Bool.or_true]
    wp_walk using wpAny_loadPart' hl
    repeat (first
      | (refine wpAny_ite_false (decide_eq_false (by rw [c0]; exact Bool.false_ne_true)) ?_; wp_walk using wpAny_loadPart' hl)
      | (refine wpAny_ite_true (decide_eq_true c1) ?_; wp_walk using wpAny_loadPart' hl))
    exact ⟨_, rfl, h⟩
/-- t * 1 -/
def rOnce (K : PySem.W.Frag) : R2 := fun x y H Q => ∃ l xs, x = .ref l ∧ y = .int 1 ∧ SqT K H l xs ∧ Q (.ref l) H
theorem op_once {X : Cx} : OpR X (binaryOp .Mult) (rOnce X.K) := by
  intro pins s σ H x y v u Q I rx ry h
  obtain ⟨l, xs, rfl, rfl, hT, q⟩ := h
  cases rx
  obtain ⟨t, rfl⟩ := ry
  obtain ⟨its, r, ⟨⟨cls, dd, data, sl⟩, ho, hc, n, hd⟩, hs⟩ := I.tuple hT
  simp only at hc hd
  subst hc hd
  exact wpAny_binaryOp_repeat_ref (T := "tuple") (U := "int") (by decide) ⟨_, ho, rfl⟩ (fun s' => typeIs_int s' 1 t) noFill_tuple_mul F.fills_int_mul F.slot_int_rmul repeat_tuple F.slot_int_index.lookup
    (call_meets F.slot_int_rmul (typeIs_int s 1 t) F.entry_int_rmul (F.args_int_rmul_2 _ _) (int_rmul_tuple 1 t l its.toArray n dd sl)
      ⟨ho, rfl, ⟨_, ho, rfl⟩, call_meets F.slot_tuple_mul ⟨_, ho, rfl⟩ F.entry_tuple_mul (F.args_tuple_mul_2 _ _) (tuple_once l its.toArray n dd sl t) ⟨ho, ⟨.ref l, H, I, rfl, q⟩⟩⟩)
/-- t * k, k from 1 on -/
theorem op_times {X : Cx} : OpR X (binaryOp .Mult) (fun x y H Q => rRepT X.K x y H Q ∨ rOnce X.K x y H Q) := OpR.or op_repT op_once
end Own


namespace Own
open PySem PySem.Spec PyProof.Rows L2
/-! ### self.__class__.__name__ of an error that is being made -/
section
open PySem.W PySem.Calls Builtin Builtin.Getset_descriptor
variable {prog : Program} {w : World} {A : Around} {E : Value → Shared → Prop} {s : Shared} {K : Frag} {x D : Addr} {ox : Obj} {od : Option Obj}
/-- what the written part says of an error's class and of its name -/
structure NmC (K : Frag) (D : Addr) (nm : Str) : Prop where
  e : ExcC K D
  rd : readsIn K D (.type "type") = true
  ty : typeIn K (.ref D) = some (.type "type")
  fc : findCls K (.ref D) (.type "type") "__name__" = some (.get (.builtin "getset_descriptor.__get__") (.builtin "type.__name__") (.ref D) (.type "type"))
  sl : ∃ o tk, K.lookup D = some o ∧ (o.slots[2]?).join = some (.str nm tk)
  fn : findIn K (.ref D) "name" = some none
theorem takes_class {Q : Value → Shared → Prop} (T : ExcC K D) (hf : findObj K D od "__class__" = some (.bind (.builtin "getset_descriptor.__get__") (.builtin "object.__class__")))
    (KX : K.In s.heap) (I : PySem.W.InstAt s.heap x ox D od) (h : Q (.ref D) { s with toks := s.toks + 1 }) : wpAny (model prog w) A (getAttr (.ref x) "__class__" true) Q E s := by
  obtain ⟨hp, g, d, t, os⟩ := s
  have a0 := I.type (M := model prog w)
  have a1 := looks_findIn (M := model prog w) KX T.hg
  have a2 := looks_findIn (M := model prog w) KX T.hk
  have a3 := looks_find (M := model prog w) KX I hf
  have a4 : Looks (model prog w) hp (isInstance (.ref x) (.type "BaseException")) true := a0.andThen (looks_subIn KX T.hs)
  have n1 : (Value.builtin "BaseException.__getattribute__" == Value.builtin "object.__getattribute__") = false := by decide +kernel
  have n2 : (onTheHeap (Value.ref D) && Value.builtin "BaseException.__getattribute__" == Value.builtin "object.__getattribute__") = false := by rw [n1]; rfl
  have n3 : (true && onTheHeap (Value.builtin "BaseException.__getattribute__")) = false := rfl
  unfold getAttr getAttrBy
  refine wpAny_bind (wpAny_mkText (wpAny_holding (wpAny_bind (a0.at (wpAny_bind (a1.at ?_))))))
  simp only [n2, Bool.false_eq_true, if_false]
  unfold getAttrByItsOwn hookBefore
  refine wpAny_bind ?_
  rw [if_pos (show onTheHeap (Value.ref D) = true from rfl)]
  refine a2.at (wpAny_bind (wpAny_attempt (wpAny_holding ?_)))
  unfold callGetattribute
  simp only [n3, Bool.false_eq_true, if_false]
  unfold boundAndCalled
  rw [PySem.F.excAttr_ValueError.ga.bind (.ref x)]
  refine wpAny_bind (wpAny_pure ?_)
  show wpAny _ _ (call (.builtin "BaseException.__getattribute__") [.ref x, .str "__class__" t]) _ _ _
  refine wpAny_call (codeAny_call_builtin PySem.F.excAttr_ValueError.ga.plain PySem.F.entry_bexc_ga ?_)
  refine @check_slot (model prog w) _ _ ⟨hp, g, d, t + 1, os⟩ "BaseException.__getattribute__" "BaseException" "__getattribute__" (.ref x) [.str "__class__" t] [] _ (by decide +kernel) (by decide +kernel) a4
    (PySem.F.args_bexc_ga (.ref x) (.str "__class__" t)) ?_
  unfold Builtin.«object.__getattribute__»
  refine wpAny_bind (wpAny_of_eq (a := ((Value.ref x : Value), [Value.str "__class__" t])) (by first | rfl | (simp only [slotArgs]; rfl)) ?_)
  refine wpAny_bind (wpAny_pure (wpAny_bind (a0.at (wpAny_bind (a3.at ?_)))))
  show wpAny _ _ (holding [Value.builtin "object.__class__"] (call (.builtin "getset_descriptor.__get__") [.builtin "object.__class__", .ref x, .ref D]) >>= ret) _ _ _
  refine wpAny_bind (wpAny_holding (wpAny_call (class_get (s := ⟨hp, g, d, t + 1, os⟩) (ox := ox) (od := od) KX I T.hm (wpAny_pure ?_))))
  show wpAny _ _ (handedOut (.ref D)) _ _ _
  rw [handedOut_of (v := .ref D) rfl]
  exact wpAny_pure h
theorem name_get {tp : Value} {nm : Str} {R : Result → Shared → Prop} {o : Obj} {tk : Tok} (KX : K.In s.heap) (ht : typeIn K (.ref D) = some (.type "type")) (ho : K.lookup D = some o) (hs : (o.slots[2]?).join = some (.str nm tk))
    (h : R (.ok (.ret (.str nm tk))) s) : codeAny (model prog w) A (.call (.builtin "getset_descriptor.__get__") ⟨[.builtin "type.__name__", .ref D, tp], []⟩) R s := by
  obtain ⟨hp, g, d, t, os⟩ := s
  have a0 : Looks (model prog w) hp (typeOf (.ref D)) (.type "type") := looks_typeIn KX ht
  have a1 : Looks (model prog w) hp (isSubtype (.type "type") (.type "type")) true := Looks.of_pure (by rw [isSubtype_type]; kernel_rfl)
  refine codeAny_call_builtin KF.slot_gs.plain KF.entry_gs (KF.slot_gs.check _ _ _ _ _ _ _ _ ktyn_type (KF.args_gs _ _ _) ?_)
  unfold Builtin.«getset_descriptor.__get__» descrGet
  rw [dga_obj]
  refine wpAny_bind (wpAny_pure ?_)
  unfold descrGetter descrCheckInstance descrNameAndClass isInstance
  simp only [ktyn_owner]
  repeat lk
  refine ⟨Code.quiet_builtin _ (by decide +kernel), codeAny_builtin ktyn_entry ?_⟩
  unfold Builtin.«type.__name__»
  dsimp only
  unfold keptObject slotAt
  refine wpAny_bind (wpAny_bind (wpAny_loadPart (KX _ _ ho) (wpAny_pure ?_)))
  rw [hs]
  exact wpAny_pure h
theorem takes_name {nm : Str} {Q : Value → Shared → Prop} (N : NmC K D nm) (KX : K.In s.heap) (h : ∀ tk, Q (.str nm tk) { s with toks := s.toks + 1 }) :
    wpAny (model prog w) A (getAttr (.ref D) "__name__" true) Q E s := by
  obtain ⟨o, tk, ho, hs⟩ := N.sl
  refine cls_bind KX N.rd N.fc ?_
  exact wpAny_call (name_get (s := { s with toks := s.toks + 1 }) KX N.ty ho hs (handed_on rfl (h tk)))
end
/-- what is told of the class of an error whose __init__ keeps "what" and "name" -/
def WhC (K : PySem.W.Frag) (C : Addr) : Prop := PySem.W.findIn K (.ref C) "what" = some none ∧ ∃ nm, NmC K C nm
/-- at dd: the dict of such an error -/
def Wh (H : Hp) (dd : Addr) (v : V) : Prop := ∃ nm : Str, H dd = some (.xd [(("name" : Str), .str nm), (("what" : Str), v)])
/-- e.__class__.__name__, e an error that is being made and has its dict -/
def tNameOf (K : PySem.W.Frag) (te : TE) : TE := fun σ H Q => te σ H fun v H1 => ∃ (a C dx : Addr) (fs : List (Str × V)) (nm : Str), v = .ref a ∧ NmC K C nm ∧ H1 a = some (exo a C (some dx)) ∧ H1 dx = some (exd dx fs) ∧ Q (.str nm) H1
theorem pe_nameOf {X : Cx} {e : Expr} {te : TE} {p1 p2 : Pos} (he : PE X e te) (h1 : attributeBase e "__class__" X.env (eval e X.env) = eval e X.env := by rfl)
    (h2 : attributeBase (.Attribute e "__class__" p1) "__name__" X.env (eval (.Attribute e "__class__" p1) X.env) = eval (.Attribute e "__class__" p1) X.env := by rfl) :
    PE X (.Attribute (.Attribute e "__class__" p1) "__name__" p2) (tNameOf X.K te) := by
  refine ⟨fun pins s σ H Q I h => ?_⟩
  refine attr_of h2 (attr_of h1 (thn (he.run pins s σ H _ I h) fun u s1 ⟨v, H1, J, r, a, C, dx, fs, nm, ev, N, ea, ed, q⟩ => ?_))
  subst ev
  obtain rfl : u = Value.ref a := r
  obtain ⟨t1, ho⟩ := exo_at J.hok ea
  obtain ⟨mA, hns, rel⟩ := exd_at J.hok ed
  obtain ⟨oD, _, _, hoD, _, _⟩ := hns.count (within_of rel)
  have W : PySem.W.InstAt s1.heap a _ C (some oD) := ⟨ho, rfl, rfl, hoD⟩
  have T := N.e
  refine takes_class T (PySem.W.findObj_data (by obtain ⟨cd, hc, _⟩ := PySem.W.any_some T.hd; rw [hc]; rfl) T.ha T.hn T.ht) J.kIn W ?_
  refine takes_name N (s := { s1 with toks := s1.toks + 1 }) J.kIn fun tk => ?_
  exact ⟨.str nm, H1, J.kept (t' := s1.toks + 1 + 1) fun _ _ z => z, ⟨tk, rfl⟩, q⟩
end Own


namespace Own
open PySem PySem.Spec PyProof.Rows L2
/-! ### short names of readings -/
abbrev rAddI : R2 := rI0 fun i j => .int (i + j)
abbrev rSubI : R2 := rI0 fun i j => .int (i - j)
abbrev rMulI : R2 := rI CMul fun i j => .int (i * j)
abbrev rModI : R2 := rI (fun _ j => 0 < j) fun i j => .int (i % j)
abbrev rDivI : R2 := rI CDiv fun i j => .int (i / j)
abbrev rPowI : R2 := rI CPow fun i j => .int (i ^ j.toNat)
abbrev rNegI : V → Hp → VK → Prop := rU fun i => .int (-i)
abbrev rLtI : R2 := rI0 fun i j => .bl (decide (i < j))
abbrev rLeI : R2 := rI0 fun i j => .bl (decide (i ≤ j))
abbrev rGtI : R2 := rI0 fun i j => .bl (decide (j < i))
abbrev rGeI : R2 := rI0 fun i j => .bl (decide (j ≤ i))
abbrev rIsN : R2 := fun x y H Q => y = .non ∧ Q (.bl (decide (x = .non))) H
abbrev rNotN : R2 := fun x y H Q => y = .non ∧ Q (.bl (!decide (x = .non))) H
abbrev rTimes (K : PySem.W.Frag) : R2 := fun x y H Q => rRepT K x y H Q ∨ rOnce K x y H Q
abbrev rLenV (K : PySem.W.Frag) : List V → Hp → VK → Prop := fun xs H Q => ∃ x n, xs = [x] ∧ LenV K x H n ∧ Q (.int n) H
abbrev rMax2 : List V → Hp → VK → Prop := fun xs H Q => ∃ i j, xs = [.int i, .int j] ∧ Q (.int (if j > i then j else i)) H
abbrev rMin2 : List V → Hp → VK → Prop := fun xs H Q => ∃ i j, xs = [.int i, .int j] ∧ Q (.int (if j < i then j else i)) H
abbrev rInt1 : List V → Hp → VK → Prop := fun xs H Q => (∃ i, xs = [.int i] ∧ Q (.int i) H) ∨ ∃ k, xs = [.bl k] ∧ Q (.int (if k then 1 else 0)) H
abbrev rListOf (K : PySem.W.Frag) : List V → Hp → VK → Prop := fun xs H Q => ∃ p ys, xs = [.ref p] ∧ (SqL K H p ys ∨ SqT K H p ys) ∧ ∀ l, H l = none → Q (.ref l) (upd H l (.lst ys))
abbrev rTupOf (K : PySem.W.Frag) : List V → Hp → VK → Prop := fun xs H Q => ∃ p ys, xs = [.ref p] ∧ ((SqL K H p ys ∧ ∀ l, H l = none → Q (.ref l) (upd H l (.tup ys))) ∨ (SqT K H p ys ∧ Q (.ref p) H))
def tGo (sp : Sp) (t : TA) : TE := fun σ H Q => t σ H fun vs H1 => sp vs H1 Q E0
def tRaise (E : XK) (t : L2.St → Hp → XK → Prop) : TS := fun _ σ H => t σ H fun cls d H' => E cls d H'
def tTry (K : PySem.W.Frag) (C : Addr) (i : Nat) (tb : WX → TS) (ts : Addr → Value → Option Addr → TS) : TS := fun D σ H => tb (wAs K (.ref C) i ts (fun _ _ _ _ => False) D) D σ H
/-- a def of the text, at f, under its name -/
structure DefAt (K : PySem.W.Frag) (mg : Str → Option Value) (x : Str) (st : Stmt) (ps : List Str) (f : Addr) (fd : FuncData) : Prop where
  F : Fun K x x st f fd
  g : mg x = some (.ref f)
  b : Binds K fd ps []
/-- the __init__ of an error's class: self.what = what, self.name = its class's name -/
def spInit (K : PySem.W.Frag) : Sp := fun vs H Q _ => ∃ (a C : Addr) (v : V) (nm : Str), vs = [.ref a, v] ∧ OexC K C ∧ PySem.W.findIn K (.ref C) "what" = some none ∧ NmC K C nm ∧ H a = some (exo a C none) ∧
  ∀ dx, H dx = none → dx ≠ a → Q .non (upd (upd (upd H dx (exd dx [(("what" : Str), v)])) a (exo a C (some dx))) dx (exd dx [(("name" : Str), .str nm), (("what" : Str), v)]))
end Own


namespace Own
open PySem PySem.Spec PyProof.Rows L2
open Evl (Ex RetV)
/-! ### data without lists, of a bounded text -/
def fine : Nat → PyData → Bool
  | _, .none => true
  | _, .bool _ => true
  | _, .int i => decide (i.natAbs < 2 ^ 64)
  | _, .str x => decide ((reprText x).length ≤ 50) && PyData.canLay0 (.str x)
  | 0, _ => false
  | k + 1, .tuple xs => decide (xs.length ≤ 20) && xs.all (fine k)
  | _ + 1, _ => false
/-- no list, no table of code objects -/
structure Fx (o : HO) : Prop where
  l : ∀ xs, o ≠ .lst xs
  t : ∀ ps, o ≠ .tbl ps
/-- all but lists (and tables of code objects) is kept -/
def Kp (H H' : Hp) : Prop := ∀ a o, H a = some o → Fx o → H' a = some o
theorem Kp.refl (H : Hp) : Kp H H := fun _ _ h _ => h
theorem Kp.trans {H H1 H2 : Hp} (a : Kp H H1) (b : Kp H1 H2) : Kp H H2 := fun x o h n => b x o (a x o h n) n
theorem Kp.ex {H H' : Hp} (e : Ex H H') : Kp H H' := fun a o h _ => e a o h
theorem Kp.lst {H : Hp} {l : Addr} {xs ys : List V} (h : H l = some (.lst xs)) : Kp H (upd H l (.lst ys)) := fun a o q n => by
  by_cases e : a = l
  · subst e
    rw [h] at q
    injection q with q
    exact absurd q.symm (n.l xs)
  · rw [upd_ne e]
    exact q
theorem Kp.new {H : Hp} {l : Addr} {o : HO} (h : H l = none) : Kp H (upd H l o) := .ex (Evl.Ex.new h)
theorem Kp.rd {H H' : Hp} {a : Addr} {xs : List V} (e : Kp H H') (h : Rd H a (.tup xs)) : Rd H' a (.tup xs) := by
  rcases h with h | ⟨o, h⟩
  · exact .inl (e a _ h ⟨(fun _ z => by cases z), (fun _ z => by cases z)⟩)
  · exact .inr ⟨o, e a _ h ⟨(fun _ z => by cases z), (fun _ z => by cases z)⟩⟩
theorem Kp.sqT {K : PySem.W.Frag} {H H' : Hp} {a : Addr} {xs : List V} (e : Kp H H') (h : SqT K H a xs) : SqT K H' a xs := h.elim (fun h => .inl (e.rd h)) .inr
/-- v reads as d -/
structure Gd (K : PySem.W.Frag) (H : Hp) (k : Nat) (v : V) (d : PyData) : Prop where
  dp : Dp K H v d
  fn : fine k d = true
mutual
theorem dp_kp {K : PySem.W.Frag} {H H' : Hp} (e : Kp H H') : ∀ (d : PyData) (k : Nat) (v : V), Dp K H v d → fine k d = true → Dp K H' v d
  | .none, _, _, h, _ => by cases h; exact .non
  | .bool b, _, _, h, _ => by cases h; exact .bl b
  | .int i, _, _, h, _ => by cases h; exact .int i
  | .str x, _, _, h, _ => by cases h; exact .str x
  | .list ds, k, _, _, f => by cases k <;> simp [fine] at f
  | .tuple ds, 0, _, _, f => by simp [fine] at f
  | .tuple ds, k + 1, _, h, f => by
    cases h with
    | tup hs ha =>
      simp only [fine, Bool.and_eq_true, decide_eq_true_eq] at f
      exact .tup (e.sqT hs) (dpAll_kp e ds k _ ha (List.all_eq_true.mp f.2))
  | .dict _, _, _, h, _ => by cases h
theorem dpAll_kp {K : PySem.W.Frag} {H H' : Hp} (e : Kp H H') : ∀ (ds : List PyData) (k : Nat) (vs : List V), DpAll K H vs ds → (∀ d ∈ ds, fine k d = true) → DpAll K H' vs ds
  | [], _, _, h, _ => by cases h; exact .nil
  | d :: ds, k, _, h, f => by
    cases h with
    | cons h1 h2 => exact .cons (dp_kp e d k _ h1 (f d List.mem_cons_self)) (dpAll_kp e ds k _ h2 fun x hx => f x (List.mem_cons_of_mem _ hx))
end
theorem Gd.kp {K : PySem.W.Frag} {H H' : Hp} {k : Nat} {v : V} {d : PyData} (e : Kp H H') (g : Gd K H k v d) : Gd K H' k v d := ⟨dp_kp e d k v g.dp g.fn, g.fn⟩
theorem Gd.ex {K : PySem.W.Frag} {H H' : Hp} {k : Nat} {v : V} {d : PyData} (e : Ex H H') (g : Gd K H k v d) : Gd K H' k v d := g.kp (.ex e)
theorem fine_up : ∀ {k j : Nat} {d : PyData}, k ≤ j → fine k d = true → fine j d = true
  | k, j, .none, _, _ => by cases j <;> rfl
  | k, j, .bool _, _, _ => by cases j <;> rfl
  | k, j, .int i, _, h => by cases k <;> cases j <;> exact h
  | k, j, .str x, _, h => by cases k <;> cases j <;> exact h
  | 0, _, .list _, _, h => by simp [fine] at h
  | _ + 1, _, .list _, _, h => by simp [fine] at h
  | 0, _, .dict _, _, h => by simp [fine] at h
  | _ + 1, _, .dict _, _, h => by simp [fine] at h
  | 0, _, .tuple _, _, h => by simp [fine] at h
  | k + 1, 0, .tuple _, l, _ => by omega
  | k + 1, j + 1, .tuple xs, l, h => by
    simp only [fine, Bool.and_eq_true, decide_eq_true_eq, List.all_eq_true] at h ⊢
    exact ⟨h.1, fun d hd => fine_up (by omega) (h.2 d hd)⟩
theorem Gd.up {K : PySem.W.Frag} {H : Hp} {k j : Nat} {v : V} {d : PyData} (l : k ≤ j) (g : Gd K H k v d) : Gd K H j v d := ⟨g.dp, fine_up l g.fn⟩
/-! ### its text -/
def mostText : Nat → Nat
  | 0 => 50
  | k + 1 => 20 * (mostText k + 2) + 2
theorem mostText_ge : ∀ k, 50 ≤ mostText k
  | 0 => Nat.le_refl _
  | k + 1 => by have := mostText_ge k; show 50 ≤ 20 * (mostText k + 2) + 2; omega
theorem tuple_text (ts : List Str) : (tupleText ts).length ≤ piled ts + 2 := PySem.fmt_text ts
end Own
namespace Own
open PySem PySem.Spec PyProof.Rows L2
open Evl (Ex RetV)
theorem digits_len (i : Int) (h : i.natAbs < 2 ^ 64) : ((toString i : String) : Str).length ≤ 50 := by
  have e := int_text_length_le10 (a := i) (k := 20) (by decide) (Nat.lt_of_lt_of_le h (by decide))
  rw [PySem.ofString_length]
  omega
mutual
theorem text_le : ∀ (d : PyData) (k : Nat), fine k d = true → d.shown.length ≤ mostText k
  | .none, k, _ => Nat.le_trans (by simp only [PyData.shown]; decide +kernel) (mostText_ge k)
  | .bool true, k, _ => Nat.le_trans (by simp only [PyData.shown]; decide +kernel) (mostText_ge k)
  | .bool false, k, _ => Nat.le_trans (by simp only [PyData.shown]; decide +kernel) (mostText_ge k)
  | .int i, k, f => by
    have h : i.natAbs < 2 ^ 64 := by cases k <;> simpa [fine] using f
    simp only [PyData.shown]
    exact Nat.le_trans (digits_len i h) (mostText_ge k)
  | .str x, k, f => by
    have h : (reprText x).length ≤ 50 := by cases k <;> exact of_decide_eq_true (Bool.and_eq_true_iff.mp f).1
    simp only [PyData.shown]
    exact Nat.le_trans h (mostText_ge k)
  | .list _, k, f => by cases k <;> simp [fine] at f
  | .dict _, k, f => by cases k <;> simp [fine] at f
  | .tuple _, 0, f => by simp [fine] at f
  | .tuple xs, k + 1, f => by
    simp only [fine, Bool.and_eq_true, decide_eq_true_eq] at f
    have h1 := texts_le xs k (List.all_eq_true.mp f.2)
    have h2 := tuple_text (PyData.shownAll xs)
    simp only [PyData.shown]
    have h3 : xs.length * (mostText k + 2) ≤ 20 * (mostText k + 2) := Nat.mul_le_mul_right _ f.1
    show _ ≤ 20 * (mostText k + 2) + 2
    omega
theorem texts_le : ∀ (ds : List PyData) (k : Nat), (∀ d ∈ ds, fine k d = true) → piled (PyData.shownAll ds) ≤ ds.length * (mostText k + 2)
  | [], _, _ => by simp [PyData.shownAll, piled]
  | d :: ds, k, f => by
    have h1 := text_le d k (f d List.mem_cons_self)
    have h2 := texts_le ds k fun x hx => f x (List.mem_cons_of_mem _ hx)
    simp only [PyData.shownAll, piled_cons, List.length_cons, Nat.succ_mul]
    omega
end
mutual
theorem shows : ∀ (d : PyData) (k : Nat), fine k d = true → d.showable = true ∧ d.hasDict = false ∧ d.depth ≤ k + 1
  | .none, k, _ => ⟨rfl, rfl, by simp [PyData.depth]⟩
  | .bool _, k, _ => ⟨rfl, rfl, by simp [PyData.depth]⟩
  | .str x, k, _ => ⟨rfl, rfl, by simp [PyData.depth]⟩
  | .int i, k, f => by
    have h : i.natAbs < 2 ^ 64 := by cases k <;> simpa [fine] using f
    refine ⟨?_, rfl, by simp [PyData.depth]⟩
    simp only [PyData.showable, decide_eq_true_eq]
    by_cases z : i.natAbs = 0
    · rw [z]; decide
    · have := (Nat.log2_lt z).mpr h
      omega
  | .list _, k, f => by cases k <;> simp [fine] at f
  | .dict _, k, f => by cases k <;> simp [fine] at f
  | .tuple _, 0, f => by simp [fine] at f
  | .tuple xs, k + 1, f => by
    simp only [fine, Bool.and_eq_true, decide_eq_true_eq] at f
    have h := showsAll xs k (List.all_eq_true.mp f.2)
    refine ⟨by simpa only [PyData.showable] using h.1, by simpa only [PyData.hasDict] using h.2.1, ?_⟩
    simp only [PyData.depth]
    omega
theorem showsAll : ∀ (ds : List PyData) (k : Nat), (∀ d ∈ ds, fine k d = true) → PyData.showableAll ds = true ∧ PyData.hasDictAll ds = false ∧ PyData.depthAll ds ≤ k + 1
  | [], k, _ => ⟨rfl, rfl, by simp [PyData.depthAll]⟩
  | d :: ds, k, f => by
    have h1 := shows d k (f d List.mem_cons_self)
    have h2 := showsAll ds k fun x hx => f x (List.mem_cons_of_mem _ hx)
    refine ⟨by simp [PyData.showableAll, h1.1, h2.1], by simp [PyData.hasDictAll, h1.2.1, h2.2.1], ?_⟩
    simp only [PyData.depthAll]
    omega
end
end Own


namespace Own
open PySem PySem.Spec PyProof.Rows L2
open Evl (Ex RetV)
theorem kit_self {K : PySem.W.Frag} {C : Addr} : PySem.W.kitOne K (.ref C) (.ref C) = some true := if_pos (beq_self_eq_true _)
/-! ### what is asked of data -/
def tyOf : PyData → String
  | .none => "NoneType"
  | .bool _ => "bool"
  | .int _ => "int"
  | .str _ => "str"
  | .list _ => "list"
  | .tuple _ => "tuple"
  | .dict _ => "dict"
theorem tyx {K : PySem.W.Frag} {H : Hp} {v : V} {d : PyData} (h : Dp K H v d) (n : ∀ xs, d ≠ .list xs) : TyX K H v (.type (tyOf d)) := by
  cases h with
  | non => exact .base .non
  | bl b => exact .base (.bl b)
  | int i => exact .base (.int i)
  | str x => exact .base (.str x)
  | lst hs _ => exact absurd rfl (n _)
  | tup hs _ =>
    rcases hs with (h | ⟨o, h⟩) | ⟨o, its, n, h, hc, _⟩
    · exact .base (.tup h)
    · exact .fTuple h
    · exact .kTuple h hc
theorem fine_nl {k : Nat} {d : PyData} (f : fine k d = true) : ∀ xs, d ≠ .list xs := fun xs e => by
  subst e
  cases k <;> simp [fine] at f
theorem fine_nd {k : Nat} {d : PyData} (f : fine k d = true) : ∀ xs, d ≠ .dict xs := fun xs e => by
  subst e
  cases k <;> simp [fine] at f
/-- isinstance of data and a built-in type -/
theorem isi_d {K : PySem.W.Frag} {H : Hp} {k : Nat} {v : V} {d : PyData} {t : String} {b : Bool} {Q : VK} (g : Gd K H k v d) (e : kitB (tyOf d) t = some b) (q : Q (.bl b) H) : rIsi K [v, .ty t] H Q :=
  ⟨v, .ty t, _, .type t, b, rfl, .ty t, tyx g.dp (fine_nl g.fn), kit_ty e, q⟩
def isI : PyData → Bool
  | .bool _ => true
  | .int _ => true
  | _ => false
def isB : PyData → Bool
  | .bool _ => true
  | _ => false
def isT : PyData → Bool
  | .tuple _ => true
  | _ => false
theorem isi_int {K : PySem.W.Frag} {H : Hp} {k : Nat} {v : V} {d : PyData} {Q : VK} (g : Gd K H k v d) (q : Q (.bl (isI d)) H) : rIsi K [v, .ty "int"] H Q := by
  refine isi_d (b := isI d) g ?_ q
  cases d with
  | none => exact (by decide +kernel : kitB "NoneType" "int" = some false)
  | bool b => exact (by decide +kernel : kitB "bool" "int" = some true)
  | int i => exact (by decide +kernel : kitB "int" "int" = some true)
  | str x => exact (by decide +kernel : kitB "str" "int" = some false)
  | list xs => exact (by decide +kernel : kitB "list" "int" = some false)
  | tuple xs => exact (by decide +kernel : kitB "tuple" "int" = some false)
  | dict xs => exact (by decide +kernel : kitB "dict" "int" = some false)
theorem isi_bool {K : PySem.W.Frag} {H : Hp} {k : Nat} {v : V} {d : PyData} {Q : VK} (g : Gd K H k v d) (q : Q (.bl (isB d)) H) : rIsi K [v, .ty "bool"] H Q := by
  refine isi_d (b := isB d) g ?_ q
  cases d with
  | none => exact (by decide +kernel : kitB "NoneType" "bool" = some false)
  | bool b => exact (by decide +kernel : kitB "bool" "bool" = some true)
  | int i => exact (by decide +kernel : kitB "int" "bool" = some false)
  | str x => exact (by decide +kernel : kitB "str" "bool" = some false)
  | list xs => exact (by decide +kernel : kitB "list" "bool" = some false)
  | tuple xs => exact (by decide +kernel : kitB "tuple" "bool" = some false)
  | dict xs => exact (by decide +kernel : kitB "dict" "bool" = some false)
theorem isi_tup {K : PySem.W.Frag} {H : Hp} {k : Nat} {v : V} {d : PyData} {Q : VK} (g : Gd K H k v d) (q : Q (.bl (isT d)) H) : rIsi K [v, .ty "tuple"] H Q := by
  refine isi_d (b := isT d) g ?_ q
  cases d with
  | none => exact (by decide +kernel : kitB "NoneType" "tuple" = some false)
  | bool b => exact (by decide +kernel : kitB "bool" "tuple" = some false)
  | int i => exact (by decide +kernel : kitB "int" "tuple" = some false)
  | str x => exact (by decide +kernel : kitB "str" "tuple" = some false)
  | list xs => exact (by decide +kernel : kitB "list" "tuple" = some false)
  | tuple xs => exact (by decide +kernel : kitB "tuple" "tuple" = some true)
  | dict xs => exact (by decide +kernel : kitB "dict" "tuple" = some false)
/-- a number from lo to hi -/
def within (d : PyData) (lo hi : Int) : Bool := match d with
  | .int i => decide (lo ≤ i) && decide (i ≤ hi)
  | _ => false
theorem dpAll_len {K : PySem.W.Frag} {H : Hp} : ∀ {vs : List V} {ds : List PyData}, DpAll K H vs ds → vs.length = ds.length
  | _, _, .nil => rfl
  | _, _, .cons _ t => congrArg Nat.succ (dpAll_len t)
theorem dpAll_get {K : PySem.W.Frag} {H : Hp} : ∀ {vs : List V} {ds : List PyData} {i : Nat} {v : V}, DpAll K H vs ds → vs[i]? = some v → ∃ d, ds[i]? = some d ∧ Dp K H v d
  | _, _, _, _, .nil, e => by simp at e
  | _, _, 0, _, .cons h _, e => by simp at e; subst e; exact ⟨_, rfl, h⟩
  | _, _, i + 1, v, .cons _ t, e => by
    obtain ⟨d, h1, h2⟩ := dpAll_get (i := i) (v := v) t (by simpa using e)
    exact ⟨d, by simpa using h1, h2⟩
/-- a tuple of data: where it stands, its items -/
theorem Gd.tup {K : PySem.W.Frag} {H : Hp} {k : Nat} {v : V} {ds : List PyData} (g : Gd K H k v (.tuple ds)) : ∃ a xs j, v = .ref a ∧ k = j + 1 ∧ SqT K H a xs ∧ xs.length = ds.length ∧ ds.length ≤ 20 ∧ DpAll K H xs ds ∧ (∀ d ∈ ds, fine j d = true) ∧
    ∀ (i : Nat) (x : V), xs[i]? = some x → ∃ d, ds[i]? = some d ∧ Gd K H j x d := by
  obtain ⟨h, f⟩ := g
  cases h with
  | tup hs ha =>
    rename_i a xs
    match k, f with
    | 0, f => simp [fine] at f
    | j + 1, f =>
      simp only [fine, Bool.and_eq_true, decide_eq_true_eq] at f
      have fa := List.all_eq_true.mp f.2
      exact ⟨a, xs, j, rfl, rfl, hs, dpAll_len ha, f.1, ha, fa, fun i x e => let ⟨d, h1, h2⟩ := dpAll_get ha e; ⟨d, h1, h2, fa d (List.mem_of_getElem? h1)⟩⟩
/-- the text of data, asked -/
theorem show_d {K : PySem.W.Frag} {H : Hp} {k : Nat} {v : V} {d : PyData} {Q : VK} (g : Gd K H k v d) (hk : k ≤ 4) (q : Q (.str d.shown) H) : rShow K [v] H Q := by
  obtain ⟨h1, h2, h3⟩ := shows d k g.fn
  have h4 := text_le d k g.fn
  have h5 : mostText k ≤ sizeLine := by
    match k, hk with
    | 0, _ => decide
    | 1, _ => decide
    | 2, _ => decide
    | 3, _ => decide
    | 4, _ => decide
  exact ⟨v, d, rfl, g.dp, ⟨h1, h2, by omega, by omega⟩, q⟩
theorem gd_bl {K : PySem.W.Frag} {H : Hp} {b : Bool} : Gd K H 0 (.bl b) (.bool b) := ⟨.bl b, rfl⟩
theorem gd_int {K : PySem.W.Frag} {H : Hp} {i : Int} (h : i.natAbs < 2 ^ 64) : Gd K H 0 (.int i) (.int i) := ⟨.int i, decide_eq_true h⟩
theorem gd_non {K : PySem.W.Frag} {H : Hp} : Gd K H 0 .non .none := ⟨.non, rfl⟩
theorem gd_str {K : PySem.W.Frag} {H : Hp} {x : Str} (h : fine 0 (.str x) = true) : Gd K H 0 (.str x) (.str x) := ⟨.str x, h⟩
end Own


namespace Own
open PySem PySem.Spec PyProof.Rows L2
open Evl
section
variable {K : PySem.W.Frag} {σ : L2.St} {H H' : Hp} {ta tb tc te : TE} {x y v : V} {k : Nat} {d : PyData} {D : Ends}
theorem ev_isi {t : String} {b : Bool} (h : Ev ta σ H x) (r : ∀ H1, Ex H H1 → ∀ Q : VK, Q (.bl b) H1 → rIsi K [x, .ty t] H1 Q) : Ev (tCB (rIsi K) (tCons ta (tCons (tC (.ty t)) tNil))) σ H (.bl b) :=
  fun H1 e Q q => h H1 e _ fun H2 e2 => r H2 (e.trans e2) Q (q H2 e2)
theorem ev_isI (h : Ev ta σ H x) (g : Gd K H k x d) : Ev (tCB (rIsi K) (tCons ta (tCons (tC (.ty "int")) tNil))) σ H (.bl (isI d)) := ev_isi h fun _ e _ q => isi_int (g.ex e) q
theorem ev_isB (h : Ev ta σ H x) (g : Gd K H k x d) : Ev (tCB (rIsi K) (tCons ta (tCons (tC (.ty "bool")) tNil))) σ H (.bl (isB d)) := ev_isi h fun _ e _ q => isi_bool (g.ex e) q
theorem ev_isT (h : Ev ta σ H x) (g : Gd K H k x d) : Ev (tCB (rIsi K) (tCons ta (tCons (tC (.ty "tuple")) tNil))) σ H (.bl (isT d)) := ev_isi h fun _ e _ q => isi_tup (g.ex e) q
theorem ev_chain {i j l : Int} (ha : Ev ta σ H (.int i)) (hb : Ev tb σ H (.int j)) (hc : Ev tc σ H (.int l)) : Ev (tChain rLeI rLeI ta tb tc) σ H (.bl (decide (i ≤ j) && decide (j ≤ l))) :=
  fun H1 e Q q => ha H1 e _ fun H2 e2 => hb H2 (e.trans e2) _ fun H3 e3 => ⟨i, j, rfl, rfl, _, rfl, by
    by_cases c : i ≤ j
    · rw [decide_eq_true c]
      exact iteT (hc H3 ((e.trans e2).trans e3) _ fun H4 e4 => ⟨j, l, rfl, rfl, by simpa [c] using q H4 ((e2.trans e3).trans e4)⟩)
    · rw [decide_eq_false c]
      exact iteF (by simpa [c] using q H3 (e2.trans e3))⟩
theorem ev_lenT {a : Addr} {xs : List V} (h : Ev ta σ H (.ref a)) (hs : SqT K H a xs) : Ev (tCB (rLenV K) (tCons ta tNil)) σ H (.int (xs.length : Int)) :=
  fun H1 e Q q => h H1 e _ fun H2 e2 => ⟨_, _, rfl, .inr ⟨xs, ex_t (e.trans e2) hs, rfl⟩, q H2 e2⟩
theorem ev_lenL {a : Addr} {xs : List V} (h : Ev ta σ H (.ref a)) (hs : SqL K H a xs) : Ev (tCB (rLenV K) (tCons ta tNil)) σ H (.int (xs.length : Int)) :=
  fun H1 e Q q => h H1 e _ fun H2 e2 => ⟨_, _, rfl, .inl ⟨xs, ex_l (e.trans e2) hs, rfl⟩, q H2 e2⟩
theorem ev_addI {i j : Int} (ha : Ev ta σ H (.int i)) (hb : Ev tb σ H (.int j)) : Ev (tOp rAddI ta tb) σ H (.int (i + j)) := ev_op ha hb rv_I0
theorem ev_subI {i j : Int} (ha : Ev ta σ H (.int i)) (hb : Ev tb σ H (.int j)) : Ev (tOp rSubI ta tb) σ H (.int (i - j)) := ev_op ha hb rv_I0
theorem ev_mulI {i j : Int} (ha : Ev ta σ H (.int i)) (hb : Ev tb σ H (.int j)) (c : CMul i j) : Ev (tOp rMulI ta tb) σ H (.int (i * j)) := ev_op ha hb (rv_I (C := CMul) c)
theorem ev_modI {i j : Int} (ha : Ev ta σ H (.int i)) (hb : Ev tb σ H (.int j)) (c : 0 < j) : Ev (tOp rModI ta tb) σ H (.int (i % j)) := ev_op ha hb (rv_I (C := fun _ j => 0 < j) c)
theorem ev_ltI {i j : Int} (ha : Ev ta σ H (.int i)) (hb : Ev tb σ H (.int j)) : EvT (tTest (tOp rLtI ta tb)) σ H (decide (i < j)) := et_test (ev_op ha hb rv_I0)
theorem ev_leI {i j : Int} (ha : Ev ta σ H (.int i)) (hb : Ev tb σ H (.int j)) : EvT (tTest (tOp rLeI ta tb)) σ H (decide (i ≤ j)) := et_test (ev_op ha hb rv_I0)
theorem ev_gtI {i j : Int} (ha : Ev ta σ H (.int i)) (hb : Ev tb σ H (.int j)) : EvT (tTest (tOp rGtI ta tb)) σ H (decide (j < i)) := et_test (ev_op ha hb rv_I0)
theorem ev_geI {i j : Int} (ha : Ev ta σ H (.int i)) (hb : Ev tb σ H (.int j)) : EvT (tTest (tOp rGeI ta tb)) σ H (decide (j ≤ i)) := et_test (ev_op ha hb rv_I0)
theorem dec_int' {i j : Int} : decide (V.int i = V.int j) = decide (i = j) := by
  by_cases h : i = j
  · subst h; simp
  · simp [h]
theorem ev_eqI {i j : Int} (ha : Ev ta σ H (.int i)) (hb : Ev tb σ H (.int j)) : Ev (tOp rEq ta tb) σ H (.bl (decide (i = j))) := by
  rw [← dec_int']
  exact ev_op ha hb (rv_eq rfl)
theorem ev_neI {i j : Int} (ha : Ev ta σ H (.int i)) (hb : Ev tb σ H (.int j)) : Ev (tOp rNe ta tb) σ H (.bl (!decide (i = j))) := by
  rw [← dec_int']
  exact ev_op ha hb (rv_ne rfl)
theorem et_eqI {i j : Int} (ha : Ev ta σ H (.int i)) (hb : Ev tb σ H (.int j)) : EvT (tTest (tOp rEq ta tb)) σ H (decide (i = j)) := et_test (ev_eqI ha hb)
theorem et_neI {i j : Int} (ha : Ev ta σ H (.int i)) (hb : Ev tb σ H (.int j)) : EvT (tTest (tOp rNe ta tb)) σ H (!decide (i = j)) := et_test (ev_neI ha hb)
theorem ev_isN (ha : Ev ta σ H x) : Ev (tOp rIsN ta (tC .non)) σ H (.bl (decide (x = .non))) := fun H1 e Q q => ha H1 e _ fun H2 e2 => ⟨rfl, q H2 e2⟩
theorem ev_notN (ha : Ev ta σ H x) : Ev (tOp rNotN ta (tC .non)) σ H (.bl (!decide (x = .non))) := fun H1 e Q q => ha H1 e _ fun H2 e2 => ⟨rfl, q H2 e2⟩
theorem ev_min2 {i j : Int} (ha : Ev ta σ H (.int i)) (hb : Ev tb σ H (.int j)) : Ev (tCB rMin2 (tCons ta (tCons tb tNil))) σ H (.int (if j < i then j else i)) :=
  fun H1 e Q q => ha H1 e _ fun H2 e2 => hb H2 (e.trans e2) _ fun H3 e3 => ⟨i, j, rfl, q H3 (e2.trans e3)⟩
theorem ev_max2 {i j : Int} (ha : Ev ta σ H (.int i)) (hb : Ev tb σ H (.int j)) : Ev (tCB rMax2 (tCons ta (tCons tb tNil))) σ H (.int (if j > i then j else i)) :=
  fun H1 e Q q => ha H1 e _ fun H2 e2 => hb H2 (e.trans e2) _ fun H3 e3 => ⟨i, j, rfl, q H3 (e2.trans e3)⟩
theorem ev_int1 {i : Int} (ha : Ev ta σ H (.int i)) : Ev (tCB rInt1 (tCons ta tNil)) σ H (.int i) := fun H1 e Q q => ha H1 e _ fun H2 e2 => .inl ⟨i, rfl, q H2 e2⟩
theorem ev_intB {b : Bool} (ha : Ev ta σ H (.bl b)) : Ev (tCB rInt1 (tCons ta tNil)) σ H (.int (if b then 1 else 0)) := fun H1 e Q q => ha H1 e _ fun H2 e2 => .inr ⟨b, rfl, q H2 e2⟩
theorem ev_ixL {a : Addr} {xs : List V} {i : Int} (ha : Ev ta σ H (.ref a)) (hb : Ev tb σ H (.int i)) (hs : SqL K H a xs) (h : atI xs i = some v) : Ev (tOp (rIxL K) ta tb) σ H v := ev_op ha hb (rv_ixL hs h)
theorem ev_ixT {a : Addr} {xs : List V} {i : Int} (ha : Ev ta σ H (.ref a)) (hb : Ev tb σ H (.int i)) (hs : SqT K H a xs) (h : atI xs i = some v) : Ev (tOp (rIxT K) ta tb) σ H v := ev_op ha hb (rv_ixT hs h)
theorem ea_1 (h : Ev ta σ H x) : EvA (tCons ta tNil) σ H [x] := ea_cons h ea_nil
theorem ea_2 (h : Ev ta σ H x) (h2 : Ev tb σ H y) : EvA (tCons ta (tCons tb tNil)) σ H [x, y] := ea_cons h (ea_1 h2)
theorem ea_3 (h : Ev ta σ H x) (h2 : Ev tb σ H y) (h3 : Ev tc σ H v) : EvA (tCons ta (tCons tb (tCons tc tNil))) σ H [x, y, v] := ea_cons h (ea_2 h2 h3)
/-- a promise of a value alone, as Evl has it -/
theorem spv {sp : Sp} {vs : List V} {z : V} (h : ∀ H1, Ex H H1 → ∀ Q : VK, RetV z H1 Q → ∀ E : XK, sp vs H1 Q E) : SpV sp vs H z := fun H1 e Q q E => h H1 e Q q E
end
end Own


namespace Own
open PySem PySem.Spec PyProof.Rows L2
open Evl
section
variable {K : PySem.W.Frag} {σ : L2.St} {H H' : Hp} {ta tb tc te : TE} {t : TT} {x y v : V} {k : Nat} {d : PyData} {D : Ends}
/-- over a range from lo -/
theorem el_lcRg {ta : TA} {j : Nat} {vs : List Nat} {lo hi : Int} (f : Nat → Bool) (v : Nat → V) (h : EvA ta σ H [.int lo, .int hi]) (h1 : 0 ≤ lo ∧ lo ≤ 100000) (h2 : lo ≤ hi ∧ hi ≤ lo + 40000) (hw : ∀ x, wipe ((wipe σ vs).set j (some x)) vs = wipe σ vs)
    (ht : ∀ (i : Nat) H1, Ex H H1 → (i : Int) < hi - lo → EvT t ((wipe σ vs).set j (some (.int (lo + (i : Int))))) H1 (f i)) (he : ∀ (i : Nat) H1, Ex H H1 → (i : Int) < hi - lo → f i = true → Ev te ((wipe σ vs).set j (some (.int (lo + (i : Int))))) H1 (v i)) :
    EvL (tLc (iRng2 ta) (gName j) t te vs) σ H (given (hi - lo).toNat f v) := fun H0 e Q q => h H0 e _ fun H1 e1 => ⟨lo, hi, rfl, ⟨by omega, by omega, by omega, by omega⟩, fun Dl hD =>
  lc_range (lo := lo) (n := (hi - lo).toNat) (Cw H1 f v Dl) ⟨hD, Ex.new hD, upd_same⟩
    (fun i H' hi p => ⟨hw _, cw_turn p (by omega) (ht i H1 (e.trans e1) (by omega)) (fun hf => he i H1 (e.trans e1) (by omega) hf)⟩) (fun H' p => q Dl H' (fresh_back e1 p.1) (e1.trans p.2.1) p.2.2)⟩
/-- over a tuple -/
theorem el_lcTp {a : Addr} {xs : List V} {tl : TE} {j : Nat} {vs : List Nat} (f : Nat → Bool) (v : Nat → V) (h : Ev tl σ H (.ref a)) (hx : SqT K H a xs) (hz : xs.length ≤ 40000) (hw : ∀ x, wipe ((wipe σ vs).set j (some x)) vs = wipe σ vs)
    (ht : ∀ (i : Nat) (x : V) H1, Ex H H1 → xs[i]? = some x → EvT t ((wipe σ vs).set j (some x)) H1 (f i)) (he : ∀ (i : Nat) (x : V) H1, Ex H H1 → xs[i]? = some x → f i = true → Ev te ((wipe σ vs).set j (some x)) H1 (v i)) :
    EvL (tLc (iTup K tl) (gName j) t te vs) σ H (given xs.length f v) := fun H0 e Q q => h H0 e _ fun H1 e1 => ⟨a, rfl, ⟨xs, ex_t (e.trans e1) hx⟩, fun Dl hD =>
  lc_tup (xs := xs) (Cw H1 f v Dl) ⟨hD, Ex.new hD, upd_same⟩ (fun i H' _ p => ex_t ((e.trans e1).trans p.2.1) hx)
    (fun i x H' hi p => ⟨hw x, cw_turn p (by have := (List.getElem?_eq_some_iff.mp hi).1; omega) (ht i x H1 (e.trans e1) hi) (fun hf => he i x H1 (e.trans e1) hi hf)⟩) (fun H' p => q Dl H' (fresh_back e1 p.1) (e1.trans p.2.1) p.2.2)⟩
theorem et_yes : EvT tYes σ H true := fun H1 e Q q => q H1 (.refl _)
mutual
theorem fine_lay : ∀ (d : PyData) (k : Nat), fine k d = true → d.canLay0 = true
  | .none, _, _ => rfl
  | .bool _, _, _ => rfl
  | .int _, _, _ => rfl
  | .str x, k, f => by cases k <;> exact (Bool.and_eq_true_iff.mp f).2
  | .list _, k, f => by cases k <;> simp [fine] at f
  | .dict _, k, f => by cases k <;> simp [fine] at f
  | .tuple _, 0, f => by simp [fine] at f
  | .tuple xs, k + 1, f => by
    simp only [fine, Bool.and_eq_true, decide_eq_true_eq] at f
    have h := fine_layAll xs k (List.all_eq_true.mp f.2)
    simpa only [PyData.canLay0] using h
theorem fine_layAll : ∀ (ds : List PyData) (k : Nat), (∀ d ∈ ds, fine k d = true) → PyData.canLayAll0 ds = true
  | [], _, _ => rfl
  | d :: ds, k, f => by
    have h1 := fine_lay d k (f d List.mem_cons_self)
    have h2 := fine_layAll ds k fun x hx => f x (List.mem_cons_of_mem _ hx)
    simp [PyData.canLayAll0, h1, h2]
end
theorem fine_shaped {d : PyData} {k : Nat} (hk : k ≤ 60) (f : fine k d = true) : SeqAt.shaped d = true := by
  unfold SeqAt.shaped
  rw [fine_lay d k f, decide_eq_true (show d.depth ≤ 64 by have := (shows d k f).2.2; omega)]
  rfl
/-- a list of data -/
inductive GdAll (K : PySem.W.Frag) (H : Hp) (k : Nat) : List V → List PyData → Prop
  | nil : GdAll K H k [] []
  | cons {v : V} {vs : List V} {d : PyData} {ds : List PyData} : Gd K H k v d → GdAll K H k vs ds → GdAll K H k (v :: vs) (d :: ds)
theorem GdAll.dp {k : Nat} : ∀ {vs : List V} {ds : List PyData}, GdAll K H k vs ds → DpAll K H vs ds ∧ ∀ d ∈ ds, fine k d = true
  | _, _, .nil => ⟨.nil, fun _ h => absurd h List.not_mem_nil⟩
  | _, _, .cons g t => ⟨.cons g.dp t.dp.1, fun d h => by
    rcases List.mem_cons.mp h with e | e
    · rw [e]; exact g.fn
    · exact t.dp.2 d e⟩
theorem gdAll_of {k : Nat} : ∀ {vs : List V}, (∀ v ∈ vs, ∃ d, Gd K H k v d) → ∃ ds, GdAll K H k vs ds
  | [], _ => ⟨[], .nil⟩
  | v :: vs, h => by
    obtain ⟨d, g⟩ := h v List.mem_cons_self
    obtain ⟨ds, gs⟩ := gdAll_of (vs := vs) fun x hx => h x (List.mem_cons_of_mem _ hx)
    exact ⟨d :: ds, .cons g gs⟩
theorem gdAll_len {k : Nat} : ∀ {vs : List V} {ds : List PyData}, GdAll K H k vs ds → vs.length = ds.length
  | _, _, .nil => rfl
  | _, _, .cons _ t => congrArg Nat.succ (gdAll_len t)
theorem GdAll.kp {k : Nat} (e : Kp H H') : ∀ {vs : List V} {ds : List PyData}, GdAll K H k vs ds → GdAll K H' k vs ds
  | _, _, .nil => .nil
  | _, _, .cons g t => .cons (g.kp e) (t.kp e)
theorem GdAll.up {k j : Nat} (l : k ≤ j) : ∀ {vs : List V} {ds : List PyData}, GdAll K H k vs ds → GdAll K H j vs ds
  | _, _, .nil => .nil
  | _, _, .cons g t => .cons (g.up l) (t.up l)
theorem GdAll.app {k : Nat} : ∀ {vs ws : List V} {ds es : List PyData}, GdAll K H k vs ds → GdAll K H k ws es → GdAll K H k (vs ++ ws) (ds ++ es)
  | _, _, _, _, .nil, h => h
  | _, _, _, _, .cons g t, h => .cons g (t.app h)
theorem gd_tup {k : Nat} {a : Addr} {vs : List V} {ds : List PyData} (hs : SqT K H a vs) (g : GdAll K H k vs ds) (hl : vs.length ≤ 20) : Gd K H (k + 1) (.ref a) (.tuple ds) :=
  ⟨.tup hs g.dp.1, by
    simp only [fine, Bool.and_eq_true, decide_eq_true_eq]
    exact ⟨by rw [← gdAll_len g]; exact hl, List.all_eq_true.mpr g.dp.2⟩⟩
theorem shaped_list {k : Nat} (hk : k ≤ 60) {ds : List PyData} (f : ∀ d ∈ ds, fine k d = true) : SeqAt.shaped (.list ds) = true := by
  unfold SeqAt.shaped
  have h1 : PyData.canLay0 (.list ds) = true := by simpa only [PyData.canLay0] using fine_layAll ds k f
  have h2 := (showsAll ds k f).2.2
  rw [h1, decide_eq_true (show (PyData.list ds).depth ≤ 64 by simp only [PyData.depth]; omega)]
  rfl
/-- a list of data against the empty one -/
theorem eqD_nil {p q : Addr} {vs : List V} {ds : List PyData} {k : Nat} {Q : VK} (hk : k ≤ 60) (h1 : SqL K H p vs) (g : GdAll K H k vs ds) (h2 : SqL K H q []) (w : Q (.bl (vs.isEmpty)) H) : rEqD K (.ref p) (.ref q) H Q :=
  ⟨.list ds, .list [], .lst h1 g.dp.1, .lst h2 .nil, shaped_list hk g.dp.2, rfl, by
    have e : PyData.eqv (.list ds) (.list []) = vs.isEmpty := by
      cases g <;> simp [PyData.eqv, PyData.eqvAll]
    rw [e]
    exact w⟩
theorem neD_nil {p q : Addr} {vs : List V} {ds : List PyData} {k : Nat} {Q : VK} (hk : k ≤ 60) (h1 : SqL K H p vs) (g : GdAll K H k vs ds) (h2 : SqL K H q []) (w : Q (.bl (!vs.isEmpty)) H) : rNeD K (.ref p) (.ref q) H Q :=
  ⟨.list ds, .list [], .lst h1 g.dp.1, .lst h2 .nil, shaped_list hk g.dp.2, rfl, by
    have e : PyData.eqv (.list ds) (.list []) = vs.isEmpty := by
      cases g <;> simp [PyData.eqv, PyData.eqvAll]
    rw [e]
    exact w⟩
theorem ev_eqNil {vs : List V} {ds : List PyData} {k : Nat} (hk : k ≤ 60) (h : EvL ta σ H vs) (g : GdAll K H k vs ds) : Ev (tOp (rEqD K) ta (tLst tNil)) σ H (.bl vs.isEmpty) :=
  ev_opLL h (el_lst ea_nil (Nat.zero_le _)) fun p q H1 hp hq e H2 e2 Q w => eqD_nil hk (sq_of (e2 p _ hp)) (g.kp (.ex (e.trans e2))) (sq_of (e2 q _ hq)) (w H2 (.refl _))
theorem ev_neNil {vs : List V} {ds : List PyData} {k : Nat} (hk : k ≤ 60) (h : EvL ta σ H vs) (g : GdAll K H k vs ds) : Ev (tOp (rNeD K) ta (tLst tNil)) σ H (.bl (!vs.isEmpty)) :=
  ev_opLL h (el_lst ea_nil (Nat.zero_le _)) fun p q H1 hp hq e H2 e2 Q w => neD_nil hk (sq_of (e2 p _ hp)) (g.kp (.ex (e.trans e2))) (sq_of (e2 q _ hq)) (w H2 (.refl _))
theorem given_empty : ∀ (n : Nat) (f : Nat → Bool) (v : Nat → V), (given n f v).isEmpty = (List.range n).all fun i => !f i := fun n f v => by
  unfold given
  induction n with
  | zero => rfl
  | succ n ih =>
    rw [List.range_succ, List.filter_append, List.map_append, List.all_append]
    cases h : f n with
    | true => simp [h]
    | false =>
      simp only [List.all_cons, List.all_nil, h, Bool.not_false, Bool.and_true]
      rw [← ih]
      simp [h]
theorem given_mem {n : Nat} {f : Nat → Bool} {v : Nat → V} {y : V} (h : y ∈ given n f v) : ∃ i, i < n ∧ f i = true ∧ y = v i := by
  unfold given at h
  obtain ⟨i, hi, e⟩ := List.mem_map.mp h
  obtain ⟨h1, h2⟩ := List.mem_filter.mp hi
  exact ⟨i, List.mem_range.mp h1, h2, e.symm⟩
end
end Own


namespace Own
/-! ### numbers that nothing divides -/
def noDiv (p : Int) : Bool := (List.range 999).all fun i => !(decide ((2 + (i : Int)) * (2 + (i : Int)) ≤ p) && decide (p % (2 + (i : Int)) = 0))
theorem noDiv_iff {p : Int} (hp : p ≤ 1000003) : noDiv p = true ↔ ∀ e : Int, 2 ≤ e → e * e ≤ p → p % e ≠ 0 := by
  unfold noDiv
  rw [List.all_eq_true]
  constructor
  · intro h e h2 hm z
    have he : e ≤ 1000 := by
      refine Int.not_lt.mp fun c => ?_
      have : 1001 * 1001 ≤ e * e := Int.mul_le_mul (by omega) (by omega) (by omega) (by omega)
      omega
    have := h (e - 2).toNat (List.mem_range.mpr (by omega))
    have e1 : (2 : Int) + ((e - 2).toNat : Int) = e := by omega
    rw [e1] at this
    simp [hm, z] at this
  · intro h i hi
    by_cases c : (2 + (i : Int)) * (2 + (i : Int)) ≤ p
    · have := h (2 + (i : Int)) (by omega) c
      simp [c, this]
    · simp [c]
theorem noDiv_small {p : Int} (h2 : 2 ≤ p) (h : p < 4) : noDiv p = true := (noDiv_iff (by omega)).mpr fun e h2 hm => by
  have : 2 * 2 ≤ e * e := Int.mul_le_mul h2 h2 (by omega) (by omega)
  omega
theorem noDiv_even {p : Int} (h4 : 4 ≤ p) (hp : p ≤ 1000003) (h : p % 2 = 0) : noDiv p = false := by
  refine Bool.eq_false_iff.mpr fun z => ?_
  exact (noDiv_iff hp).mp z 2 (by omega) (by omega) h
theorem noDiv_found {p m : Int} (hp : p ≤ 1000003) (h2 : 2 ≤ m) (hm : m * m ≤ p) (h : p % m = 0) : noDiv p = false := by
  refine Bool.eq_false_iff.mpr fun z => ?_
  exact (noDiv_iff hp).mp z m h2 hm h
/-- what the odd search knows at m -/
def Sought (p m : Int) : Prop := m % 2 = 1 ∧ 3 ≤ m ∧ ∀ e : Int, 2 ≤ e → e < m → p % e ≠ 0
theorem Sought.start {p : Int} (h : p % 2 ≠ 0) : Sought p 3 := ⟨by omega, by omega, fun e h1 h2 => by
  have : e = 2 := by omega
  rw [this]
  exact h⟩
theorem Sought.next {p m : Int} (h0 : p % 2 ≠ 0) (s : Sought p m) (h : p % m ≠ 0) : Sought p (m + 2) := by
  obtain ⟨a, b, c⟩ := s
  refine ⟨by omega, by omega, fun e h1 h2 => ?_⟩
  by_cases e1 : e < m
  · exact c e h1 e1
  · by_cases e2 : e = m
    · rw [e2]; exact h
    · have e3 : e = m + 1 := by omega
      intro z
      have d : e ∣ p := Int.dvd_of_emod_eq_zero z
      have d2 : (2 : Int) ∣ e := Int.dvd_of_emod_eq_zero (by omega)
      have d3 : (2 : Int) ∣ p := Int.dvd_trans d2 d
      have := Int.emod_eq_zero_of_dvd d3
      exact h0 this
theorem Sought.done {p m : Int} (hp : p ≤ 1000003) (s : Sought p m) (h : ¬ m * m ≤ p) : noDiv p = true := (noDiv_iff hp).mpr fun e h2 hm => by
  refine s.2.2 e h2 (Int.not_le.mp fun c => ?_)
  have : m * m ≤ e * e := Int.mul_le_mul c c (by have := s.2.1; omega) (by omega)
  omega
theorem Sought.small {p m : Int} (hp : p ≤ 1000003) (s : Sought p m) (h : m * m ≤ p) : m ≤ 1000 := by
  refine Int.not_lt.mp fun c => ?_
  have : 1001 * 1001 ≤ m * m := Int.mul_le_mul (by omega) (by omega) (by omega) (by omega)
  omega
end Own


namespace Own
open PySem PySem.Spec PyProof.Rows L2
open Evl
section
variable {K : PySem.W.Frag} {σ : L2.St} {H H' : Hp} {ta tb tc te : TE} {t u : TT} {x y v : V} {k : Nat} {d : PyData} {D : Ends}
theorem ev_allB {bs : List Bool} (h : EvL ta σ H (bs.map V.bl)) : Ev (tCB (rAll K) (tCons ta tNil)) σ H (.bl (bs.all id)) :=
  fun H1 e Q q => h H1 e _ fun p H2 hp e2 hl => ⟨p, bs, rfl, sq_of hl, q H2 e2⟩
theorem given_true (n : Nat) (v : Nat → V) : given n (fun _ => true) v = (List.range n).map v := by
  unfold given
  rw [List.filter_eq_self.mpr fun _ _ => rfl]
theorem range_getD {α β : Type} (ds : List α) (z : α) (f : α → β) : ((List.range ds.length).map fun i => f (ds.getD i z)) = ds.map f := by
  apply List.ext_getElem
  · simp
  · intro i h1 h2
    simp at h1
    simp [List.getD_eq_getElem?_getD, h1]
/-- all(f(x) for the items of a tuple of data) -/
theorem given_bools {α : Type} (ds : List α) (z : α) (f : α → Bool) : given ds.length (fun _ => true) (fun i => V.bl (f (ds.getD i z))) = (ds.map f).map V.bl := by
  rw [given_true, ← range_getD ds z f, List.map_map]
  rfl
theorem all_id {α : Type} (ds : List α) (f : α → Bool) : (ds.map f).all id = ds.all f := by
  rw [List.all_map]
  rfl
theorem getD_at {ds : List PyData} {i : Nat} {d : PyData} (h : ds[i]? = some d) (z : PyData) : ds.getD i z = d := by
  rw [List.getD_eq_getElem?_getD, h]
  rfl
theorem et_false_or {a : Bool} (h1 : EvT t σ H a) (e : a = true) : EvT (tOr t u) σ H true := by
  subst e
  exact fun H1 e Q q => h1 H1 e _ fun H2 e2 => iteT (q H2 e2)
/-- a number's test as an option's -/
def optV : Option Int → V
  | none => .non
  | some i => .int i
theorem optV_non (o : Option Int) : decide (optV o = .non) = o.isNone := by cases o <;> simp [optV]
end
end Own


namespace Own
open PySem PySem.Spec PyProof.Rows L2
open Evl
/-! ### a source of numbers: a list of two, that every draw changes -/
def Src (H : Hp) (a : Addr) : Prop := ∃ big mixed : Int, H a = some (.lst [.int big, .int mixed]) ∧ 0 ≤ big ∧ 0 ≤ mixed ∧ mixed < 2147483647
/-- all but the source at a is kept -/
structure Up (a : Addr) (H H' : Hp) : Prop where
  keep : ∀ b o, b ≠ a → H b = some o → H' b = some o
  src : Src H' a
theorem Up.refl {a : Addr} {H : Hp} (h : Src H a) : Up a H H := ⟨fun _ _ _ h => h, h⟩
theorem Up.trans {a : Addr} {H H1 H2 : Hp} (x : Up a H H1) (y : Up a H1 H2) : Up a H H2 := ⟨fun b o n h => y.keep b o n (x.keep b o n h), y.src⟩
theorem Src.ex {a : Addr} {H H' : Hp} (e : Ex H H') (s : Src H a) : Src H' a := let ⟨x, y, h, r⟩ := s; ⟨x, y, e a _ h, r⟩
theorem Up.ex {a : Addr} {H H' : Hp} (e : Ex H H') (s : Src H a) : Up a H H' := ⟨fun b o _ h => e b o h, s.ex e⟩
theorem Up.kp {a : Addr} {H H' : Hp} (s : Src H a) (u : Up a H H') : Kp H H' := fun b o h n => by
  by_cases e : b = a
  · subst e
    obtain ⟨x, y, q, _⟩ := s
    rw [h] at q
    injection q with q
    exact absurd q (n.l _)
  · exact u.keep b o e h
theorem Src.at {a b : Addr} {H : Hp} {o : HO} (s : Src H a) (h : H b = some o) (n : ∀ xs, o ≠ .lst xs) : b ≠ a := fun e => by
  subst e
  obtain ⟨x, y, q, _⟩ := s
  rw [h] at q
  injection q with q
  exact n _ q
theorem Src.new {a b : Addr} {H : Hp} (s : Src H a) (h : H b = none) : b ≠ a := fun e => by
  subst e
  obtain ⟨x, y, q, _⟩ := s
  rw [h] at q
  cases q
/-- a tuple stands -/
theorem Up.sqT {K : PySem.W.Frag} {a b : Addr} {H H' : Hp} {xs : List V} (s : Src H a) (u : Up a H H') (h : SqT K H b xs) : SqT K H' b xs := (u.kp s).sqT h
theorem Up.gd {K : PySem.W.Frag} {a : Addr} {H H' : Hp} {k : Nat} {v : V} {d : PyData} (s : Src H a) (u : Up a H H') (g : Gd K H k v d) : Gd K H' k v d := g.kp (u.kp s)
abbrev VP := V → Hp → Prop
def Mono (a : Addr) (P : VP) : Prop := ∀ v H H', Src H a → Up a H H' → P v H → P v H'
/-- te gives a value of which P is so, and changes nothing but the source -/
def EvS (a : Addr) (te : TE) (σ : L2.St) (H : Hp) (P : VP) : Prop := ∀ H1, Up a H H1 → ∀ Q : VK, (∀ v H2, Up a H1 H2 → P v H2 → Q v H2) → te σ H1 Q
/-- n values, of each of which P is so -/
def EvSA (a : Addr) (ta : TA) (σ : L2.St) (H : Hp) (n : Nat) (P : VP) : Prop := ∀ H1, Up a H H1 → ∀ Q : List V → Hp → Prop, (∀ vs H2, Up a H1 H2 → vs.length = n → (∀ v ∈ vs, P v H2) → Q vs H2) → ta σ H1 Q
def PInt (lo hi : Int) : VP := fun v _ => ∃ i, v = .int i ∧ lo ≤ i ∧ i ≤ hi
def PDat (K : PySem.W.Frag) (k : Nat) : VP := fun v H => ∃ d, Gd K H k v d
theorem mono_int {a : Addr} {lo hi : Int} : Mono a (PInt lo hi) := fun _ _ _ _ _ h => h
theorem mono_dat {K : PySem.W.Frag} {a : Addr} {k : Nat} : Mono a (PDat K k) := fun _ _ _ s u ⟨d, g⟩ => ⟨d, u.gd s g⟩
/-- a list at an address of its own, of things of which P is so -/
def PLst (a : Addr) (n : Nat) (P : VP) : VP := fun v H => ∃ b xs, v = .ref b ∧ b ≠ a ∧ H b = some (.lst xs) ∧ xs.length = n ∧ ∀ x ∈ xs, P x H
theorem mono_lst {a : Addr} {n : Nat} {P : VP} (m : Mono a P) : Mono a (PLst a n P) := fun _ _ _ s u ⟨b, xs, e, nb, hb, hl, hp⟩ => ⟨b, xs, e, nb, u.keep b _ nb hb, hl, fun x hx => m x _ _ s u (hp x hx)⟩
section
variable {K : PySem.W.Frag} {a : Addr} {σ : L2.St} {H H' : Hp} {te ta tb : TE} {P R S : VP} {D : Ends} {tz tu : TS}
theorem es_c {v : V} (h : ∀ H1, P v H1) : EvS a (tC v) σ H P := fun H1 u Q q => q v H1 (.refl u.src) (h H1)
theorem es_int {i lo hi : Int} (h1 : lo ≤ i) (h2 : i ≤ hi) : EvS a (tC (.int i)) σ H (PInt lo hi) := es_c fun _ => ⟨i, rfl, h1, h2⟩
theorem es_var {i : Nat} {v : V} (e : σ[i]? = some (some v)) (h : ∀ H1, Up a H H1 → P v H1) : EvS a (tVar i) σ H P := fun H1 u Q q => ⟨v, e, q v H1 (.refl u.src) (h H1 u)⟩
theorem es_vint {i : Nat} {j lo hi : Int} (e : σ[i]? = some (some (.int j))) (h1 : lo ≤ j) (h2 : j ≤ hi) : EvS a (tVar i) σ H (PInt lo hi) := es_var e fun _ _ => ⟨j, rfl, h1, h2⟩
theorem es_imp (h : EvS a te σ H P) (i : ∀ v H1, P v H1 → R v H1) : EvS a te σ H R := fun H1 u Q q => h H1 u Q fun v H2 u2 p => q v H2 u2 (i v H2 p)
theorem es_op {r : R2} (ha : EvS a ta σ H P) (hb : EvS a tb σ H R) (m : Mono a P) (hr : ∀ x y H1, Up a H H1 → P x H1 → R y H1 → ∀ Q : VK, (∀ z H2, Up a H1 H2 → S z H2 → Q z H2) → r x y H1 Q) : EvS a (tOp r ta tb) σ H S :=
  fun H1 u Q q => ha H1 u _ fun x H2 u2 p => hb H2 (u.trans u2) _ fun y H3 u3 p3 => hr x y H3 ((u.trans u2).trans u3) (m x H2 H3 u2.src u3 p) p3 Q fun z H4 u4 s => q z H4 ((u2.trans u3).trans u4) s
theorem es_add {l1 h1 l2 h2 : Int} (ha : EvS a ta σ H (PInt l1 h1)) (hb : EvS a tb σ H (PInt l2 h2)) : EvS a (tOp rAddI ta tb) σ H (PInt (l1 + l2) (h1 + h2)) :=
  es_op ha hb mono_int fun x y H1 u ⟨i, ei, a1, a2⟩ ⟨j, ej, b1, b2⟩ Q q => ⟨i, j, ei, ej, q _ H1 (.refl u.src) ⟨_, rfl, by omega, by omega⟩⟩
theorem es_sub {l1 h1 l2 h2 : Int} (ha : EvS a ta σ H (PInt l1 h1)) (hb : EvS a tb σ H (PInt l2 h2)) : EvS a (tOp rSubI ta tb) σ H (PInt (l1 - h2) (h1 - l2)) :=
  es_op ha hb mono_int fun x y H1 u ⟨i, ei, a1, a2⟩ ⟨j, ej, b1, b2⟩ Q q => ⟨i, j, ei, ej, q _ H1 (.refl u.src) ⟨_, rfl, by omega, by omega⟩⟩
theorem es_wide {l1 h1 l2 h2 : Int} (h : EvS a te σ H (PInt l1 h1)) (e1 : l2 ≤ l1) (e2 : h1 ≤ h2) : EvS a te σ H (PInt l2 h2) := es_imp h fun _ _ ⟨i, e, b1, b2⟩ => ⟨i, e, by omega, by omega⟩
theorem es_min {l1 h1 l2 h2 : Int} (ha : EvS a ta σ H (PInt l1 h1)) (hb : EvS a tb σ H (PInt l2 h2)) : EvS a (tCB rMin2 (tCons ta (tCons tb tNil))) σ H (PInt (min l1 l2) (min h1 h2)) :=
  fun H1 u Q q => ha H1 u _ fun x H2 u2 ⟨i, ei, a1, a2⟩ => hb H2 (u.trans u2) _ fun y H3 u3 ⟨j, ej, b1, b2⟩ => ⟨i, j, by rw [ei, ej], q _ H3 (u2.trans u3) ⟨_, rfl, by split <;> omega, by split <;> omega⟩⟩
theorem ea_nilS : EvSA a tNil σ H 0 P := fun H1 u Q q => q [] H1 (.refl u.src) rfl fun _ h => absurd h List.not_mem_nil
theorem ea_consS {ta : TA} {n : Nat} (h : EvS a te σ H P) (hr : EvSA a ta σ H n P) (m : Mono a P) : EvSA a (tCons te ta) σ H (n + 1) P :=
  fun H1 u Q q => h H1 u _ fun v H2 u2 p => hr H2 (u.trans u2) _ fun vs H3 u3 hl hp => q (v :: vs) H3 (u2.trans u3) (by rw [List.length_cons, hl]) fun x hx => by
    rcases List.mem_cons.mp hx with e | e
    · rw [e]; exact m v H2 H3 u2.src u3 p
    · exact hp x e
/-- a new list -/
theorem es_lst {ta : TA} {n : Nat} (h : EvSA a ta σ H n P) (hn : n ≤ 1000) (m : Mono a P) : EvS a (tLst ta) σ H (PLst a n P) :=
  fun H1 u Q q => h H1 u _ fun vs H2 u2 hl hp => ⟨sz_of (by omega), fun p np => q _ _ (u2.trans (.ex (Ex.new np) u2.src))
    ⟨p, vs, rfl, u2.src.new np, upd_same, hl, fun x hx => m x _ _ u2.src (.ex (Ex.new np) u2.src) (hp x hx)⟩⟩
/-- a new tuple -/
def PTup (K : PySem.W.Frag) (n : Nat) (P : VP) : VP := fun v H => ∃ b xs, v = .ref b ∧ SqT K H b xs ∧ xs.length = n ∧ ∀ x ∈ xs, P x H
theorem mono_tup {n : Nat} {P : VP} (m : Mono a P) : Mono a (PTup K n P) := fun _ _ _ s u ⟨b, xs, e, hb, hl, hp⟩ => ⟨b, xs, e, u.sqT s hb, hl, fun x hx => m x _ _ s u (hp x hx)⟩
theorem es_tup {ta : TA} {n : Nat} (h : EvSA a ta σ H n P) (hn : n ≤ 1000) (m : Mono a P) : EvS a (tTup ta) σ H (PTup K n P) :=
  fun H1 u Q q => h H1 u _ fun vs H2 u2 hl hp => ⟨sz_of (by omega), fun p np => q _ _ (u2.trans (.ex (Ex.new np) u2.src))
    ⟨p, vs, rfl, st_of upd_same, hl, fun x hx => m x _ _ u2.src (.ex (Ex.new np) u2.src) (hp x hx)⟩⟩
theorem ss_asg {i : Nat} (s : Src H a) (h : EvS a te σ H P) (k : ∀ v H1, Up a H H1 → P v H1 → tz D (σ.set i (some v)) H1) : tSeq (tAsg te (gName i)) tz D σ H := h H (.refl s) _ fun v H2 u p => k v H2 u p
theorem ss_last {i : Nat} (s : Src H a) (h : EvS a te σ H P) (k : ∀ v H1, Up a H H1 → P v H1 → D.nx (σ.set i (some v)) H1) : tAsg te (gName i) D σ H := h H (.refl s) _ fun v H2 u p => k v H2 u p
theorem ss_ret (s : Src H a) (h : EvS a te σ H P) (k : ∀ v H1, Up a H H1 → P v H1 → D.rt v H1) : tRet te D σ H := h H (.refl s) _ fun v H2 u p => k v H2 u p
/-! ### the promises of the three defs that draw -/
def spTake : Sp := fun vs H Q _ => ∃ (a : Addr) (top : Int), vs = [.ref a, .int top] ∧ Src H a ∧ 0 < top ∧ top < 1073741824 ∧ ∀ r H', 0 ≤ r → r < top → Up a H H' → Q (.int r) H'
def spOne (K : PySem.W.Frag) : Sp := fun vs H Q _ => ∃ (a b : Addr) (xs : List V), vs = [.ref a, .ref b] ∧ b ≠ a ∧ Src H a ∧ SqL K H b xs ∧ xs ≠ [] ∧ xs.length ≤ 100000 ∧ ∀ x ∈ xs, ∀ H', Up a H H' → Q x H'
def spPool (K : PySem.W.Frag) : Sp := fun vs H Q _ => ∃ (b : Addr) (ns : List Int) (k : Int), vs = [.ref b, .int k] ∧ SqL K H b (ns.map V.int) ∧ ns.length ≤ 63 ∧ 0 ≤ k ∧ k ≤ 1000 ∧ ∀ l H', H l = none → Ex H H' → Src H' l → Q (.ref l) H'
theorem es_take {lo hi : Int} {E : XK} {s0 : Nat} (e0 : σ[s0]? = some (some (.ref a))) (h : EvS a te σ H (PInt lo hi)) (h0 : 0 < lo) (h1 : hi < 1073741824) : EvS a (tCall spTake [] E (tCons (tVar s0) (tCons te tNil))) σ H (PInt 0 (hi - 1)) :=
  fun H1 u Q q => ⟨_, e0, h H1 u _ fun v H2 u2 ⟨i, ei, a1, a2⟩ => ⟨a, i, by rw [ei]; rfl, u2.src, by omega, by omega, fun r H3 r0 r1 u3 => q _ _ (u2.trans u3) ⟨r, rfl, r0, by omega⟩⟩⟩
theorem es_one {E : XK} {s0 n : Nat} (e0 : σ[s0]? = some (some (.ref a))) (h : EvS a te σ H (PLst a n P)) (h0 : 0 < n) (h1 : n ≤ 1000) (m : Mono a P) : EvS a (tCall (spOne K) [] E (tCons (tVar s0) (tCons te tNil))) σ H P :=
  fun H1 u Q q => ⟨_, e0, h H1 u _ fun v H2 u2 ⟨b, xs, ev, nb, hb, hl, hp⟩ => ⟨a, b, xs, by rw [ev]; rfl, nb, u2.src, sq_of hb, fun z => by rw [z] at hl; simp at hl; omega, by omega, fun x hx H3 u3 => q _ _ (u2.trans u3) (m x H2 H3 u2.src u3 (hp x hx))⟩⟩
end
end Own


namespace Own
open PySem PySem.Spec PyProof.Rows L2
open Evl
/-- stable where all but lists is kept -/
def MonoK (P : VP) : Prop := ∀ v H H', Kp H H' → P v H → P v H'
theorem MonoK.up {P : VP} {a : Addr} (m : MonoK P) : Mono a P := fun v _ _ s u p => m v _ _ (u.kp s) p
theorem monoK_int {lo hi : Int} : MonoK (PInt lo hi) := fun _ _ _ _ h => h
theorem monoK_dat {K : PySem.W.Frag} {k : Nat} : MonoK (PDat K k) := fun _ _ _ e ⟨d, g⟩ => ⟨d, g.kp e⟩
theorem monoK_tup {K : PySem.W.Frag} {n : Nat} {P : VP} (m : MonoK P) : MonoK (PTup K n P) := fun _ _ _ e ⟨b, xs, ev, hb, hl, hp⟩ => ⟨b, xs, ev, e.sqT hb, hl, fun x hx => m x _ _ e (hp x hx)⟩
/-- a list of at most n things of which P is so -/
def PLs (a : Addr) (n : Nat) (P : VP) : VP := fun v H => ∃ b xs, v = .ref b ∧ b ≠ a ∧ H b = some (.lst xs) ∧ xs.length ≤ n ∧ ∀ x ∈ xs, P x H
/-- a tuple of at most n things -/
def PTs (K : PySem.W.Frag) (n : Nat) (P : VP) : VP := fun v H => ∃ b xs, v = .ref b ∧ SqT K H b xs ∧ xs.length ≤ n ∧ ∀ x ∈ xs, P x H
theorem monoK_tups {K : PySem.W.Frag} {n : Nat} {P : VP} (m : MonoK P) : MonoK (PTs K n P) := fun _ _ _ e ⟨b, xs, ev, hb, hl, hp⟩ => ⟨b, xs, ev, e.sqT hb, hl, fun x hx => m x _ _ e (hp x hx)⟩
/-- a tuple of data is data -/
theorem tups_dat {K : PySem.W.Frag} {H : Hp} {n k : Nat} {v : V} (hn : n ≤ 20) (h : PTs K n (PDat K k) v H) : PDat K (k + 1) v H := by
  obtain ⟨b, xs, rfl, hb, hl, hp⟩ := h
  obtain ⟨ds, g⟩ := gdAll_of hp
  exact ⟨_, gd_tup hb g (by omega)⟩
theorem tup_dat {K : PySem.W.Frag} {H : Hp} {n k : Nat} {v : V} (hn : n ≤ 20) (h : PTup K n (PDat K k) v H) : PDat K (k + 1) v H :=
  tups_dat hn (let ⟨b, xs, e, hb, hl, hp⟩ := h; ⟨b, xs, e, hb, Nat.le_of_eq hl, hp⟩)
theorem int_dat {K : PySem.W.Frag} {H : Hp} {lo hi : Int} {v : V} (h1 : -1000000000 ≤ lo) (h2 : hi ≤ 1000000000) (h : PInt lo hi v H) : PDat K 0 v H := by
  obtain ⟨i, rfl, a, b⟩ := h
  exact ⟨_, gd_int (by omega)⟩
theorem dat_up {K : PySem.W.Frag} {H : Hp} {k j : Nat} {v : V} (l : k ≤ j) (h : PDat K k v H) : PDat K j v H := let ⟨d, g⟩ := h; ⟨d, g.up l⟩
section
variable {K : PySem.W.Frag} {a : Addr} {σ : L2.St} {H H' : Hp} {te ta tb : TE} {P R S : VP} {D : Ends} {tz tu t : TS}
theorem q_split (M : L2.St → Hp → Prop) (k : ∀ σ' H', M σ' H' → tz D σ' H') (h : (∀ σ' H', M σ' H' → tz D σ' H') → t { D with nx := tz D } σ H) : tSeq t tz D σ H := h k
theorem ev_divI {i j : Int} (ha : Ev ta σ H (.int i)) (hb : Ev tb σ H (.int j)) (c : CDiv i j) : Ev (tOp rDivI ta tb) σ H (.int (i / j)) := ev_op ha hb (rv_I (C := CDiv) c)
theorem ev_powI {i j : Int} (ha : Ev ta σ H (.int i)) (hb : Ev tb σ H (.int j)) (c : CPow i j) : Ev (tOp rPowI ta tb) σ H (.int (i ^ j.toNat)) := ev_op ha hb (rv_I (C := CPow) c)
theorem ev_negI {i : Int} (ha : Ev ta σ H (.int i)) : Ev (tUn rNegI ta) σ H (.int (-i)) := ev_un ha ru_neg
theorem ev_geV {i j : Int} (ha : Ev ta σ H (.int i)) (hb : Ev tb σ H (.int j)) : Ev (tOp rGeI ta tb) σ H (.bl (decide (j ≤ i))) := ev_op ha hb rv_I0
theorem ev_ltV {i j : Int} (ha : Ev ta σ H (.int i)) (hb : Ev tb σ H (.int j)) : Ev (tOp rLtI ta tb) σ H (.bl (decide (i < j))) := ev_op ha hb rv_I0
/-- a list of ints against the empty one -/
theorem dp_ints {H : Hp} : ∀ ns : List Int, DpAll K H (ns.map V.int) (ns.map PyData.int)
  | [] => .nil
  | n :: ns => .cons (.int n) (dp_ints ns)
theorem lay_ints : ∀ ns : List Int, PyData.canLayAll0 (ns.map PyData.int) = true ∧ PyData.depthAll (ns.map PyData.int) ≤ 1
  | [] => ⟨rfl, by simp [PyData.depthAll]⟩
  | n :: ns => ⟨by simp [PyData.canLayAll0, PyData.canLay0, (lay_ints ns).1], by have := (lay_ints ns).2; simp only [List.map_cons, PyData.depthAll, PyData.depth]; omega⟩
theorem shaped_ints (ns : List Int) : SeqAt.shaped (.list (ns.map PyData.int)) = true := by
  unfold SeqAt.shaped
  rw [show PyData.canLay0 (.list (ns.map PyData.int)) = true by simpa only [PyData.canLay0] using (lay_ints ns).1, decide_eq_true (show (PyData.list (ns.map PyData.int)).depth ≤ 64 by have := (lay_ints ns).2; simp only [PyData.depth]; omega)]
  rfl
theorem et_neInts {p : Addr} {ns : List Int} (h : Ev ta σ H (.ref p)) (hs : SqL K H p (ns.map V.int)) : EvT (tTest (tOp (rNeD K) ta (tLst tNil))) σ H (!ns.isEmpty) :=
  et_test (ev_opL h (el_lst ea_nil (Nat.zero_le _)) fun q H1 hq e H2 e2 Q w => ⟨.list (ns.map .int), .list [], .lst (ex_l (e.trans e2) hs) (dp_ints ns), .lst (sq_of (e2 q _ hq)) .nil, shaped_ints ns, rfl, by
    have z : PyData.eqv (.list (ns.map .int)) (.list []) = ns.isEmpty := by cases ns <;> simp [PyData.eqv, PyData.eqvAll]
    rw [z]
    exact w H2 (.refl _)⟩)
/-- for j in range(..), the count drawn -/
theorem ss_forR {j : Nat} {lo hi : Int} (s : Src H a) (h : EvS a te σ H (PInt lo hi)) (hlo : -1000 ≤ lo) (hhi : hi ≤ 100000) (Pv : Int → Nat → L2.St → Hp → Prop) (h0 : ∀ c H1, lo ≤ c → c ≤ hi → Up a H H1 → Pv c 0 σ H1)
    (hs : ∀ c (i : Nat) σ' H', (i : Int) < c → Pv c i σ' H' → tu { D with nx := Pv c (i + 1), ct := Pv c (i + 1), bk := tz D } (σ'.set j (some (.int (i : Int)))) H') (hd : ∀ c σ' H', Pv c c.toNat σ' H' → tz D σ' H') :
    tSeq (tFor (iRng1 (tCons te tNil)) (gName j) tu) tz D σ H :=
  h H (.refl s) _ fun v H2 u ⟨c, ev, c1, c2⟩ => ⟨c, by rw [ev], by omega, by omega, for_range (lo := 0) (n := c.toNat) (Pv c) (h0 c H2 c1 c2 u)
    (fun i σ' H' hi p => by
      show tu _ (σ'.set j (some (.int ((0 : Int) + (i : Int))))) H'
      rw [Int.zero_add]
      exact hs c i σ' H' (by omega) p) (hd c)⟩
/-- [e for j in range(..)], e drawing -/
theorem es_lc {elt : TE} {j : Nat} {vs : List Nat} {lo hi : Int} {m : Nat} (h : EvS a te σ H (PInt lo hi)) (hlo : -1000 ≤ lo) (hhi : hi ≤ (m : Int)) (hm : m ≤ 1000) (hw : ∀ x, wipe ((wipe σ vs).set j (some x)) vs = wipe σ vs)
    (he : ∀ (i : Nat) H1, Up a H H1 → (i : Int) < hi → EvS a elt ((wipe σ vs).set j (some (.int (i : Int)))) H1 P) (mk : MonoK P) : EvS a (tLc (iRng1 (tCons te tNil)) (gName j) tYes elt vs) σ H (PLs a m P) :=
  fun H1 u Q q => h H1 u _ fun v H2 u2 ⟨c, ev, c1, c2⟩ => ⟨c, by rw [ev], by omega, by omega, fun Dl hD =>
    lc_range (lo := 0) (n := c.toNat) (fun i H' => Up a H2 H' ∧ ∃ acc, H' Dl = some (.lst acc) ∧ acc.length = i ∧ ∀ x ∈ acc, P x H') ⟨.ex (Ex.new hD) u2.src, [], upd_same, rfl, fun _ z => absurd z List.not_mem_nil⟩
      (fun i H' hi ⟨u3, acc, hacc, hl, hp⟩ => by
        show wipe ((wipe σ vs).set j (some (.int ((0 : Int) + (i : Int))))) vs = wipe σ vs ∧ elt ((wipe σ vs).set j (some (.int ((0 : Int) + (i : Int))))) H' fun y H4 => ∃ acc, H4 Dl = some (.lst acc) ∧ acc.length < sizeLine ∧ (Up a H2 (upd H4 Dl (.lst (acc ++ [y]))) ∧ ∃ ac2, (upd H4 Dl (.lst (acc ++ [y]))) Dl = some (.lst ac2) ∧ ac2.length = i + 1 ∧ ∀ x ∈ ac2, P x (upd H4 Dl (.lst (acc ++ [y]))))
        rw [Int.zero_add]
        have nD : Dl ≠ a := u2.src.new hD
        refine ⟨hw _, he i H' ((u.trans u2).trans u3) (by omega) H' (.refl u3.src) _ fun y H4 u4 py => ?_⟩
        have h4 := u4.keep Dl _ nD hacc
        have kp : Kp H' (upd H4 Dl (.lst (acc ++ [y]))) := (u4.kp u3.src).trans (.lst h4)
        refine ⟨acc, h4, sz_lt (by omega), ⟨fun b o nb hb => ?_, ?_⟩, _, upd_same, by rw [List.length_append, hl]; rfl, fun x hx => ?_⟩
        · rw [upd_ne (ne_of_none hb hD)]
          exact u4.keep b o nb (u3.keep b o nb hb)
        · obtain ⟨big, mixed, e, r⟩ := u4.src
          exact ⟨big, mixed, by rw [upd_ne nD.symm]; exact e, r⟩
        · rcases List.mem_append.mp hx with z | z
          · exact mk x _ _ kp (hp x z)
          · rw [List.mem_singleton.mp z]
            exact mk y _ _ (.lst h4) py)
      (fun H' ⟨u3, acc, hacc, hl, hp⟩ => q _ _ (u2.trans u3) ⟨Dl, acc, rfl, u2.src.new hD, hacc, by omega, hp⟩)⟩
/-- tuple(a list) -/
theorem es_tupOf {n : Nat} (h : EvS a te σ H (PLs a n P)) (mk : MonoK P) : EvS a (tCB (rTupOf K) (tCons te tNil)) σ H (PTs K n P) :=
  fun H1 u Q q => h H1 u _ fun v H2 u2 ⟨b, xs, ev, nb, hb, hl, hp⟩ => ⟨b, xs, by rw [ev], .inl ⟨sq_of hb, fun l hl2 => q _ _ (u2.trans (.ex (Ex.new hl2) u2.src)) ⟨l, xs, rfl, st_of upd_same, hl, fun x hx => mk x _ _ (.new hl2) (hp x hx)⟩⟩⟩
/-- xs.append(e) -/
theorem ss_app {i : Nat} {l : Addr} {xs : List V} (s : Src H a) (nl : l ≠ a) (hl : H l = some (.lst xs)) (hv : σ[i]? = some (some (.ref l))) (h : EvS a te σ H P) (hz : xs.length < 100000)
    (k : ∀ y H1, Up a H H1 → P y H1 → D.nx σ (upd H1 l (.lst (xs ++ [y])))) : tDrop (tBM K "list" rAppend (tVar i) (tCons te tNil)) D σ H :=
  ⟨_, hv, .inl ⟨rfl, _, sq_of hl⟩, h H (.refl s) _ fun y H2 u p => ⟨l, xs, y, rfl, rfl, u.keep l _ nl hl, sz_lt hz, k y H2 u p⟩⟩
end
end Own


namespace Own
open PySem PySem.Spec PyProof.Rows L2
open Evl
section
variable {K : PySem.W.Frag} {a : Addr} {σ : L2.St} {H H' : Hp} {te ta tb : TE} {P R S : VP} {D : Ends} {tz tu t : TS}
theorem monoS_tups {n : Nat} (m : MonoK P) : Mono a (PTs K n P) := (monoK_tups m).up
/-- t + u -/
theorem es_cat {n k : Nat} (ha : EvS a ta σ H (PTs K n P)) (hb : EvS a tb σ H (PTs K k P)) (mk : MonoK P) (hz : n + k ≤ 1000) : EvS a (tOp (rCatA K) ta tb) σ H (PTs K (n + k) P) :=
  es_op ha hb (monoS_tups mk) fun x y H1 u ⟨b, xs, ex, hx, lx, px⟩ ⟨c, ys, ey, hy, ly, py⟩ Q q => ⟨b, c, xs, ys, ex, ey, hx, hy, sz_of (by omega),
    fun _ => q _ H1 (.refl u.src) ⟨c, ys, rfl, hy, by omega, py⟩, fun _ _ => q _ H1 (.refl u.src) ⟨b, xs, rfl, hx, by omega, px⟩,
    fun _ _ p np => q _ _ (.ex (Ex.new np) u.src) ⟨p, xs ++ ys, rfl, st_of upd_same, by rw [List.length_append]; omega, fun z hz => by
      rcases List.mem_append.mp hz with w | w
      · exact mk z _ _ (.new np) (px z w)
      · exact mk z _ _ (.new np) (py z w)⟩⟩
theorem cut_mem {xs : List V} {lo hi : Option Int} {x : V} (h : x ∈ cutV xs lo hi) : x ∈ xs := List.mem_of_mem_drop (List.mem_of_mem_take h)
/-- a part of a slice: none, or an int -/
def EvP (a : Addr) (to : TO) (σ : L2.St) (H : Hp) : Prop := ∀ H1, Up a H H1 → ∀ Q : Option Int → Hp → Prop, (∀ o H2, Up a H1 H2 → Q o H2) → to σ H1 Q
theorem ep_none : EvP a tNoPart σ H := fun H1 u Q q => q none H1 (.refl u.src)
theorem ep_some {lo hi : Int} (h : EvS a te σ H (PInt lo hi)) : EvP a (tPart te) σ H := fun H1 u Q q => h H1 u _ fun v H2 u2 ⟨i, e, _⟩ => ⟨i, e, q _ H2 u2⟩
/-- t[lo:hi] -/
theorem es_slice {n : Nat} {tl th : TO} (h : EvS a te σ H (PTs K n P)) (hl : EvP a tl σ H) (hh : EvP a th σ H) (mk : MonoK P) : EvS a (tSl (rSlA K) te tl th) σ H (PTs K n P) :=
  fun H1 u Q q => h H1 u _ fun x H2 u2 px => hl H2 (u.trans u2) _ fun lo H3 u3 => hh H3 ((u.trans u2).trans u3) _ fun hi H4 u4 => by
    obtain ⟨b, xs, ex, hx, lx, ps⟩ := monoS_tups mk x H2 H4 u2.src (u3.trans u4) px
    exact ⟨b, xs, ex, hx, fun _ => q _ H4 ((u2.trans u3).trans u4) ⟨b, xs, rfl, hx, lx, ps⟩, fun _ p np => q _ _ (((u2.trans u3).trans u4).trans (.ex (Ex.new np) u4.src))
      ⟨p, _, rfl, st_of upd_same, by have := cutV_length xs lo hi; omega, fun z hz => mk z _ _ (.new np) (ps z (cut_mem hz))⟩⟩
/-- (x,) * k -/
theorem es_rep {hi : Nat} {lo : Int} (ha : EvS a ta σ H (PTup K 1 P)) (hb : EvS a tb σ H (PInt lo (hi : Int))) (h1 : 1 ≤ lo) (h2 : hi ≤ 100) (mk : MonoK P) : EvS a (tOp (rTimes K) ta tb) σ H (PTs K hi P) :=
  es_op ha hb (monoK_tup mk).up fun x y H1 u ⟨b, xs, ex, hx, lx, px⟩ ⟨j, ej, j1, j2⟩ Q q => by
    by_cases c : j = 1
    · exact .inr ⟨b, xs, ex, by rw [ej, c], hx, q _ H1 (.refl u.src) ⟨b, xs, rfl, hx, by omega, px⟩⟩
    · refine .inl ⟨b, j, xs, ex, ej, hx, (fun z => by rw [z] at lx; simp at lx), by omega, by omega, by omega, fun p np => q _ _ (.ex (Ex.new np) u.src) ⟨p, _, rfl, st_of upd_same, ?_, fun z hz => ?_⟩⟩
      · rw [PyProof.Rows.lm_len_rep_flat, lx]
        omega
      · obtain ⟨l, hl, hz⟩ := List.mem_flatten.mp hz
        rw [List.eq_of_mem_replicate hl] at hz
        exact mk z _ _ (.new np) (px z hz)
theorem tup_tups {n m : Nat} (h : n ≤ m) {v : V} {H1 : Hp} (p : PTup K n P v H1) : PTs K m P v H1 := let ⟨b, xs, e, hb, hl, hp⟩ := p; ⟨b, xs, e, hb, by omega, hp⟩
theorem tups_imp {n m : Nat} (h : n ≤ m) (i : ∀ v H1, P v H1 → R v H1) {v : V} {H1 : Hp} (p : PTs K n P v H1) : PTs K m R v H1 := let ⟨b, xs, e, hb, hl, hp⟩ := p; ⟨b, xs, e, hb, by omega, fun x hx => i x H1 (hp x hx)⟩
/-- (x, ..) of at most m -/
theorem es_tups {ta : TA} {n m : Nat} (h : EvSA a ta σ H n P) (hn : n ≤ m) (hm : m ≤ 1000) (mk : MonoK P) : EvS a (tTup ta) σ H (PTs K m P) := es_imp (es_tup h (by omega) mk.up) fun _ _ p => tup_tups hn p
/-- xs + ys -/
theorem es_catL {n k : Nat} (ha : EvS a ta σ H (PLst a n P)) (hb : EvS a tb σ H (PLst a k P)) (mk : MonoK P) (hz : n + k ≤ 1000) : EvS a (tOp rCat ta tb) σ H (PLst a (n + k) P) :=
  es_op ha hb (mono_lst mk.up) fun x y H1 u ⟨b, xs, ex, nb, hx, lx, px⟩ ⟨c, ys, ey, nc, hy, ly, py⟩ Q q => ⟨b, c, xs, ys, ex, ey, hx, hy, sz_of (by omega), fun p np => q _ _ (.ex (Ex.new np) u.src)
    ⟨p, xs ++ ys, rfl, u.src.new np, upd_same, by rw [List.length_append]; omega, fun z hz => by
      rcases List.mem_append.mp hz with w | w
      · exact mk z _ _ (.new np) (px z w)
      · exact mk z _ _ (.new np) (py z w)⟩⟩
/-- list(t) == [] -/
theorem es_listNil {n k : Nat} (h : EvS a te σ H (PTs K n (PDat K k))) (hk : k ≤ 60) : EvS a (tOp (rEqD K) (tCB (rListOf K) (tCons te tNil)) (tLst tNil)) σ H (PDat K 0) :=
  fun H1 u Q q => h H1 u _ fun v H2 u2 ⟨b, xs, ev, hb, hl, hp⟩ => ⟨b, xs, by rw [ev], .inr hb, fun l nl => ⟨Nat.zero_le _, fun p np => by
    obtain ⟨ds, g⟩ := gdAll_of hp
    have e2 : Ex H2 (upd (upd H2 l (.lst xs)) p (.lst [])) := (Ex.new nl).trans (Ex.new np)
    refine eqD_nil hk (sq_of (by rw [upd_ne (ne_of_none upd_same np)]; exact upd_same)) (g.kp (.ex e2)) (sq_of upd_same) ?_
    exact q _ _ (u2.trans (.ex e2 u2.src)) ⟨_, gd_bl⟩⟩⟩
theorem es_dint {i : Int} {k : Nat} (h : i.natAbs < 2 ^ 64) : EvS a (tC (.int i)) σ H (PDat K k) := es_c fun _ => ⟨_, (gd_int h).up (Nat.zero_le k)⟩
theorem es_dnon {k : Nat} : EvS a (tC .non) σ H (PDat K k) := es_c fun _ => ⟨_, gd_non.up (Nat.zero_le k)⟩
theorem es_dbl {b : Bool} {k : Nat} : EvS a (tC (.bl b)) σ H (PDat K k) := es_c fun _ => ⟨_, gd_bl.up (Nat.zero_le k)⟩
theorem es_dstr {x : Str} {k : Nat} (h : fine 0 (.str x) = true) : EvS a (tC (.str x)) σ H (PDat K k) := es_c fun _ => ⟨_, (gd_str h).up (Nat.zero_le k)⟩
theorem es_dof {lo hi : Int} {k : Nat} (h : EvS a te σ H (PInt lo hi)) (h1 : -1000000000 ≤ lo) (h2 : hi ≤ 1000000000) : EvS a te σ H (PDat K k) := es_imp h fun _ _ p => dat_up (Nat.zero_le k) (int_dat h1 h2 p)
theorem es_dtup {n k : Nat} (h : EvS a te σ H (PTs K n (PDat K k))) (hn : n ≤ 20) : EvS a te σ H (PDat K (k + 1)) := es_imp h fun _ _ p => tups_dat hn p
theorem es_dup {k j : Nat} (h : EvS a te σ H (PDat K k)) (l : k ≤ j) : EvS a te σ H (PDat K j) := es_imp h fun _ _ p => dat_up l p
theorem s_tup3 {i j l : Nat} {x y z : V} (h : EvU te σ H [x, y, z]) (k : ∀ H1, Ex H H1 → D.nx (((σ.set i (some x)).set j (some y)).set l (some z)) H1) : tAsg te (gTup K 3 (gCons (gName i) (gCons (gName j) (gCons (gName l) gNil)))) D σ H :=
  h H (.refl H) _ fun p H1 np e hp => ⟨p, _, rfl, st_of hp, rfl, x, _, rfl, y, _, rfl, z, _, rfl, rfl, k H1 e⟩
theorem s_par3 {i j l : Nat} {x y z : V} {ta : TA} (h : EvA ta σ H [x, y, z]) (k : ∀ H1, Ex H H1 → D.nx (((σ.set i (some x)).set j (some y)).set l (some z)) H1) : tPar3 i j l ta D σ H :=
  h H (.refl H) _ fun H1 e => ⟨x, y, z, rfl, k H1 e⟩
theorem ss_tup2 {i j : Nat} (s : Src H a) (h : EvS a te σ H (PTup K 2 P)) (k : ∀ x y H1, Up a H H1 → P x H1 → P y H1 → D.nx ((σ.set i (some x)).set j (some y)) H1) : tAsg te (gTup K 2 (gCons (gName i) (gCons (gName j) gNil))) D σ H :=
  h H (.refl s) _ fun v H1 u ⟨b, xs, ev, hb, hl, hp⟩ => by
    match xs, hl with
    | [x, y], _ => exact ⟨b, _, ev, hb, rfl, x, _, rfl, y, _, rfl, rfl, k x y H1 u (hp x (by simp)) (hp y (by simp))⟩
theorem ss_par {i j : Nat} {ta : TA} (s : Src H a) (h : EvSA a ta σ H 2 P) (k : ∀ x y H1, Up a H H1 → P x H1 → P y H1 → D.nx ((σ.set i (some x)).set j (some y)) H1) : tPar i j ta D σ H :=
  h H (.refl s) _ fun vs H1 u hl hp => by
    match vs, hl with
    | [x, y], _ => exact ⟨x, y, rfl, k x y H1 u (hp x (by simp)) (hp y (by simp))⟩
end
end Own


namespace Own
open PySem PySem.Spec PyProof.Rows L2
open Evl
section
variable {K : PySem.W.Frag} {a : Addr} {σ : L2.St} {H H' : Hp} {te ta tb : TE} {P R S : VP} {D : Ends} {tz tu t : TS}
/-- the tuple of just these -/
def PSq (K : PySem.W.Frag) (xs : List V) : VP := fun v H => ∃ b, v = .ref b ∧ SqT K H b xs
theorem monoK_sq {xs : List V} : MonoK (PSq K xs) := fun _ _ _ e ⟨b, ev, hb⟩ => ⟨b, ev, e.sqT hb⟩
theorem cut_whole {xs : List V} {lo hi : Option Int} (h1 : HT.sIx xs.length 0 lo = 0) (h2 : HT.sIx xs.length xs.length hi = xs.length) : cutV xs lo hi = xs := by
  unfold cutV
  rw [h1, h2]
  simp
theorem es_cutX {xs : List V} {tl th : TO} {lo hi : Option Int} (h : EvS a te σ H (PSq K xs)) (hl : ∀ H1, Up a H H1 → ∀ Q : Option Int → Hp → Prop, (∀ H2, Up a H1 H2 → Q lo H2) → tl σ H1 Q) (hh : ∀ H1, Up a H H1 → ∀ Q : Option Int → Hp → Prop, (∀ H2, Up a H1 H2 → Q hi H2) → th σ H1 Q) :
    EvS a (tSl (rSlA K) te tl th) σ H (PSq K (cutV xs lo hi)) :=
  fun H1 u Q q => h H1 u _ fun x H2 u2 px => hl H2 (u.trans u2) _ fun H3 u3 => hh H3 ((u.trans u2).trans u3) _ fun H4 u4 => by
    obtain ⟨b, ex, hx⟩ := monoK_sq.up x H2 H4 u2.src (u3.trans u4) px
    exact ⟨b, xs, ex, hx, fun ⟨h1, h2⟩ => q _ H4 ((u2.trans u3).trans u4) ⟨b, rfl, by rw [cut_whole h1 h2]; exact hx⟩, fun _ p np => q _ _ (((u2.trans u3).trans u4).trans (.ex (Ex.new np) u4.src)) ⟨p, rfl, st_of upd_same⟩⟩
theorem cp_none : ∀ H1, Up a H H1 → ∀ Q : Option Int → Hp → Prop, (∀ H2, Up a H1 H2 → Q none H2) → tNoPart σ H1 Q := fun H1 u Q q => q H1 (.refl u.src)
theorem cp_some {i : Int} (h : EvS a te σ H (PInt i i)) : ∀ H1, Up a H H1 → ∀ Q : Option Int → Hp → Prop, (∀ H2, Up a H1 H2 → Q (some i) H2) → tPart te σ H1 Q :=
  fun H1 u Q q => h H1 u _ fun v H2 u2 ⟨j, e, h1, h2⟩ => ⟨j, e, by rw [show j = i by omega]; exact q H2 u2⟩
theorem es_catX {xs ys : List V} (ha : EvS a ta σ H (PSq K xs)) (hb : EvS a tb σ H (PSq K ys)) (hz : xs.length + ys.length ≤ 1000) : EvS a (tOp (rCatA K) ta tb) σ H (PSq K (xs ++ ys)) :=
  es_op ha hb monoK_sq.up fun x y H1 u ⟨b, ex, hx⟩ ⟨c, ey, hy⟩ Q q => ⟨b, c, xs, ys, ex, ey, hx, hy, sz_of (by omega),
    fun z => q _ H1 (.refl u.src) ⟨c, rfl, by rw [z]; exact hy⟩, fun _ z => q _ H1 (.refl u.src) ⟨b, rfl, by rw [z, List.append_nil]; exact hx⟩, fun _ _ p np => q _ _ (.ex (Ex.new np) u.src) ⟨p, rfl, st_of upd_same⟩⟩
theorem es_oneX {i : Nat} {v : V} (e : σ[i]? = some (some v)) : EvS a (tTup (tCons (tVar i) tNil)) σ H (PSq K [v]) :=
  fun H1 u Q q => ⟨v, e, ⟨by show 1 ≤ sizeLine; decide, fun p np => q _ _ (.ex (Ex.new np) u.src) ⟨p, rfl, st_of upd_same⟩⟩⟩
theorem cut_lo {xs : List V} {w : Nat} (h : w ≤ xs.length) : cutV xs none (some (w : Int)) = xs.take w := by
  unfold cutV
  rw [HT.sIx_none, HT.sIx_nat, Nat.min_eq_left h]
  simp
theorem cut_hi {xs : List V} {w : Nat} (h : w ≤ xs.length) : cutV xs (some (w : Int)) none = xs.drop w := by
  unfold cutV
  rw [HT.sIx_none, HT.sIx_nat, Nat.min_eq_left h]
  exact List.take_of_length_le (by rw [List.length_drop]; omega)
/-! ### lists of data, kept in a list -/
structure Men (K : PySem.W.Frag) (a l : Addr) (n : Nat) (H : Hp) : Prop where
  ne : l ≠ a
  all : ∃ items, H l = some (.lst items) ∧ items.length = n ∧ ∀ x ∈ items, ∃ b ys, x = .ref b ∧ b ≠ a ∧ b ≠ l ∧ H b = some (.lst ys) ∧ 0 < ys.length ∧ ys.length ≤ 20 ∧ ∀ y ∈ ys, PDat K 1 y H
theorem Men.up {l : Addr} {n : Nat} (s : Src H a) (u : Up a H H') (m : Men K a l n H) : Men K a l n H' :=
  let ⟨ne, items, h, hl, hp⟩ := m
  ⟨ne, items, u.keep l _ ne h, hl, fun x hx => let ⟨b, ys, e, n1, n2, hb, l0, l1, py⟩ := hp x hx; ⟨b, ys, e, n1, n2, u.keep b _ n1 hb, l0, l1, fun y hy => monoK_dat y _ _ (u.kp s) (py y hy)⟩⟩
theorem men_add {H0 : Hp} {l : Addr} {n m i : Nat} {ta : TA} (s : Src H0 a) (u0 : Up a H0 H) (nl : H0 l = none) (M : Men K a l n H) (hv : σ[i]? = some (some (.ref l))) (h : EvSA a ta σ H m (PDat K 1)) (h1 : 0 < m) (hm : m ≤ 20) (hn : n < 100)
    (k : ∀ H1, Up a H0 H1 → Men K a l (n + 1) H1 → tz D σ H1) : tSeq (tDrop (tBM K "list" rAppend (tVar i) (tCons (tLst ta) tNil))) tz D σ H := by
  obtain ⟨ne, items, hi, hl, hp⟩ := M
  refine ⟨_, hv, .inl ⟨rfl, _, sq_of hi⟩, h H (.refl u0.src) _ fun vs H2 u2 hvs pv => ⟨sz_of (by omega), fun p np => ?_⟩⟩
  have hi2 := u2.keep l _ ne hi
  have pl : p ≠ l := fun z => by subst z; rw [hi2] at np; cases np
  have pa : p ≠ a := u2.src.new np
  have k1 : Kp H2 (upd H2 p (.lst vs)) := .new np
  have hi3 : (upd H2 p (.lst vs)) l = some (.lst items) := by rw [upd_ne pl.symm]; exact hi2
  have k2 : Kp (upd H2 p (.lst vs)) (upd (upd H2 p (.lst vs)) l (.lst (items ++ [.ref p]))) := .lst hi3
  refine ⟨l, items, .ref p, rfl, rfl, hi3, sz_lt (by omega), k _ ⟨fun b o nb hb => ?_, ?_⟩ ⟨ne, items ++ [.ref p], upd_same, by rw [List.length_append, hl]; rfl, fun x hx => ?_⟩⟩
  · have bl : b ≠ l := ne_of_none hb nl
    have h2 := u2.keep b o nb (u0.keep b o nb hb)
    rw [upd_ne bl, upd_ne (ne_of_none h2 np)]
    exact h2
  · obtain ⟨big, mixed, e, r⟩ := u2.src
    exact ⟨big, mixed, by rw [upd_ne ne.symm, upd_ne pa.symm]; exact e, r⟩
  · rcases List.mem_append.mp hx with z | z
    · obtain ⟨b, ys, e, n1, n2, hb, l0, l1, py⟩ := hp x z
      have hb2 := u2.keep b _ n1 hb
      exact ⟨b, ys, e, n1, n2, by rw [upd_ne n2, upd_ne (ne_of_none hb2 np)]; exact hb2, l0, l1, fun y hy => monoK_dat y _ _ (((u2.kp u0.src).trans k1).trans k2) (py y hy)⟩
    · rw [List.mem_singleton.mp z]
      exact ⟨p, vs, rfl, pa, pl, by rw [upd_ne pl]; exact upd_same, by omega, by omega, fun y hy => monoK_dat y _ _ (k1.trans k2) (pv y hy)⟩
/-- [[..]] -/
theorem ss_first {i n : Nat} {ta : TA} (s : Src H a) (h : EvSA a ta σ H n P) (hn : n ≤ 1000) (k : ∀ vs H1, Up a H H1 → vs.length = n → (∀ v ∈ vs, P v H1) → ∀ p, H1 p = none → ∀ l, (upd H1 p (.lst vs)) l = none → tz D (σ.set i (some (.ref l))) (upd (upd H1 p (.lst vs)) l (.lst [.ref p]))) :
    tSeq (tAsg (tLst (tCons (tLst ta) tNil)) (gName i)) tz D σ H :=
  h H (.refl s) _ fun vs H1 u1 hl pv => ⟨sz_of (by omega), fun p np => ⟨by show 1 ≤ sizeLine; decide, fun l nl => k vs H1 u1 hl pv p np l nl⟩⟩
/-- one of the j-th list -/
theorem es_men {l : Addr} {n s0 s1 s2 : Nat} {w : Int} {E : XK} (e0 : σ[s0]? = some (some (.ref a))) (e1 : σ[s1]? = some (some (.ref l))) (e2 : σ[s2]? = some (some (.int w))) (M : ∀ H1, Up a H H1 → Men K a l n H1) (h0 : 0 ≤ w) (h1 : w < (n : Int)) :
    EvS a (tCall (spOne K) [] E (tCons (tVar s0) (tCons (tOp (rIxL K) (tVar s1) (tVar s2)) tNil))) σ H (PDat K 1) := fun H1 u Q q => by
  obtain ⟨ne, items, hi, hl, hp⟩ := M H1 u
  have hw : w.toNat < items.length := by omega
  obtain ⟨b, ys, e, n1, n2, hb, l0, l1, py⟩ := hp items[w.toNat] (List.getElem_mem hw)
  refine ⟨_, e0, _, e1, _, e2, l, items, w, .ref b, rfl, rfl, sq_of hi, ?_, a, b, ys, rfl, n1, u.src, sq_of hb, (fun z => by rw [z] at l0; cases l0), by omega, fun x hx H3 u3 => q _ _ u3 (monoK_dat x _ _ (u3.kp u.src) (py x hx))⟩
  exact at_of (j := w.toNat) (by omega) (by rw [List.getElem?_eq_getElem hw, e])
end
end Own


namespace Own
open PySem PySem.Spec PyProof.Rows L2
open Evl
/-! ### the same without a source -/
def EvX (te : TE) (σ : L2.St) (H : Hp) (P : VP) : Prop := ∀ H1, Ex H H1 → ∀ Q : VK, (∀ v H2, Ex H1 H2 → P v H2 → Q v H2) → te σ H1 Q
def EvXA (ta : TA) (σ : L2.St) (H : Hp) (n : Nat) (P : VP) : Prop := ∀ H1, Ex H H1 → ∀ Q : List V → Hp → Prop, (∀ vs H2, Ex H1 H2 → vs.length = n → (∀ v ∈ vs, P v H2) → Q vs H2) → ta σ H1 Q
def PLx (n : Nat) (P : VP) : VP := fun v H => ∃ b xs, v = .ref b ∧ H b = some (.lst xs) ∧ xs.length = n ∧ ∀ x ∈ xs, P x H
section
variable {K : PySem.W.Frag} {σ : L2.St} {H H' : Hp} {te ta tb : TE} {P R S : VP} {D : Ends} {tz tu t : TS}
theorem ex_c {v : V} (h : ∀ H1, P v H1) : EvX (tC v) σ H P := fun H1 u Q q => q v H1 (.refl H1) (h H1)
theorem ex_dint {i : Int} {k : Nat} (h : i.natAbs < 2 ^ 64) : EvX (tC (.int i)) σ H (PDat K k) := ex_c fun _ => ⟨_, (gd_int h).up (Nat.zero_le k)⟩
theorem ex_dnon {k : Nat} : EvX (tC .non) σ H (PDat K k) := ex_c fun _ => ⟨_, gd_non.up (Nat.zero_le k)⟩
theorem ex_imp (h : EvX te σ H P) (i : ∀ v H1, P v H1 → R v H1) : EvX te σ H R := fun H1 u Q q => h H1 u Q fun v H2 u2 p => q v H2 u2 (i v H2 p)
theorem xa_nil : EvXA tNil σ H 0 P := fun H1 u Q q => q [] H1 (.refl H1) rfl fun _ h => absurd h List.not_mem_nil
theorem xa_cons {ta : TA} {n : Nat} (h : EvX te σ H P) (hr : EvXA ta σ H n P) (m : MonoK P) : EvXA (tCons te ta) σ H (n + 1) P :=
  fun H1 u Q q => h H1 u _ fun v H2 u2 p => hr H2 (u.trans u2) _ fun vs H3 u3 hl hp => q (v :: vs) H3 (u2.trans u3) (by rw [List.length_cons, hl]) fun x hx => by
    rcases List.mem_cons.mp hx with e | e
    · rw [e]; exact m v H2 H3 (.ex u3) p
    · exact hp x e
theorem ex_tup {ta : TA} {n : Nat} (h : EvXA ta σ H n P) (hn : n ≤ 1000) (m : MonoK P) : EvX (tTup ta) σ H (PTup K n P) :=
  fun H1 u Q q => h H1 u _ fun vs H2 u2 hl hp => ⟨sz_of (by omega), fun p np => q _ _ (u2.trans (Ex.new np)) ⟨p, vs, rfl, st_of upd_same, hl, fun x hx => m x _ _ (.new np) (hp x hx)⟩⟩
theorem ex_dtup {ta : TA} {n k : Nat} (h : EvXA ta σ H n (PDat K k)) (hn : n ≤ 20) : EvX (tTup ta) σ H (PDat K (k + 1)) := ex_imp (ex_tup h (by omega) monoK_dat) fun _ _ p => tup_dat hn p
theorem ex_up {k j : Nat} (h : EvX te σ H (PDat K k)) (l : k ≤ j) : EvX te σ H (PDat K j) := ex_imp h fun _ _ p => dat_up l p
theorem ex_lst {ta : TA} {n : Nat} (h : EvXA ta σ H n P) (hn : n ≤ 1000) (m : MonoK P) : EvX (tLst ta) σ H (PLx n P) :=
  fun H1 u Q q => h H1 u _ fun vs H2 u2 hl hp => ⟨sz_of (by omega), fun p np => q _ _ (u2.trans (Ex.new np)) ⟨p, vs, rfl, upd_same, hl, fun x hx => m x _ _ (.new np) (hp x hx)⟩⟩
/-- (e,) * c, c written -/
theorem ex_rep {c : Int} (h : EvX te σ H P) (h1 : 2 ≤ c) (h2 : c ≤ 20) (mk : MonoK P) : EvX (tOp (rTimes K) (tTup (tCons te tNil)) (tC (.int c))) σ H (PTs K 20 P) :=
  fun H1 u Q q => h H1 u _ fun v H2 u2 pv => ⟨by show 1 ≤ sizeLine; decide, fun p np => .inl ⟨p, c, [v], rfl, rfl, st_of upd_same, by simp, h1, by omega, by show 1 ≤ 1000; decide, fun r nr =>
    q _ _ (u2.trans ((Ex.new np).trans (Ex.new nr))) ⟨r, _, rfl, st_of upd_same, by rw [PyProof.Rows.lm_len_rep_flat]; show c.toNat * 1 ≤ 20; omega, fun z hz => by
      obtain ⟨l, hl, hz⟩ := List.mem_flatten.mp hz
      rw [List.eq_of_mem_replicate hl] at hz
      rw [List.mem_singleton.mp hz]
      exact mk v _ _ ((Kp.new np).trans (.new nr)) pv⟩⟩⟩
theorem ex_catL {n k : Nat} (ha : EvX ta σ H (PLx n P)) (hb : EvX tb σ H (PLx k P)) (mk : MonoK P) (hz : n + k ≤ 1000) : EvX (tOp rCat ta tb) σ H (PLx (n + k) P) :=
  fun H1 u Q q => ha H1 u _ fun x H2 u2 ⟨b, xs, ex, hx, lx, px⟩ => hb H2 (u.trans u2) _ fun y H3 u3 ⟨c, ys, ey, hy, ly, py⟩ => ⟨b, c, xs, ys, ex, ey, u3 b _ hx, hy, sz_of (by omega), fun p np => q _ _ (u2.trans (u3.trans (Ex.new np)))
    ⟨p, xs ++ ys, rfl, upd_same, by rw [List.length_append]; omega, fun z hz => by
      rcases List.mem_append.mp hz with w | w
      · exact mk z _ _ ((Kp.ex u3).trans (.new np)) (px z w)
      · exact mk z _ _ (.new np) (py z w)⟩⟩
theorem ex_vl {i n : Nat} {v : V} (e : σ[i]? = some (some v)) (h : PLx n P v H) (mk : MonoK P) : EvX (tVar i) σ H (PLx n P) := fun H1 u Q q => ⟨v, e, q v H1 (.refl H1) (let ⟨b, xs, ev, hb, hl, hp⟩ := h; ⟨b, xs, ev, u b _ hb, hl, fun x hx => mk x _ _ (.ex u) (hp x hx)⟩)⟩
theorem sx_asg {i : Nat} (h : EvX te σ H P) (k : ∀ v H1, Ex H H1 → P v H1 → tz D (σ.set i (some v)) H1) : tSeq (tAsg te (gName i)) tz D σ H := h H (.refl H) _ fun v H2 u p => k v H2 u p
/-- xs.append(e) -/
theorem sx_app {i : Nat} {l : Addr} {xs : List V} (hl : H l = some (.lst xs)) (hv : σ[i]? = some (some (.ref l))) (h : EvX te σ H P) (hz : xs.length < 100000)
    (k : ∀ y H1, Ex H H1 → P y H1 → tz D σ (upd H1 l (.lst (xs ++ [y])))) : tSeq (tDrop (tBM K "list" rAppend (tVar i) (tCons te tNil))) tz D σ H :=
  ⟨_, hv, .inl ⟨rfl, _, sq_of hl⟩, h H (.refl H) _ fun y H2 u p => ⟨l, xs, y, rfl, rfl, u l _ hl, sz_lt hz, k y H2 u p⟩⟩
end
end Own


namespace Own
open PySem PySem.Spec PyProof.Rows L2
/-! ### enumerate and zip of lists (false) and tuples (true), in any mix -/
def SqB (t : Bool) (K : PySem.W.Frag) (H : Hp) (a : Addr) (xs : List V) : Prop := bif t then SqT K H a xs else SqL K H a xs
def ItB (t : Bool) (h : Heap) (i a : Addr) (k : Nat) : Prop := bif t then h.IsTupleIter i a k else h.IsListIter i a k
def HpB (t : Bool) (h : Heap) (a : Addr) (items : Array Value) : Prop := bif t then h.IsTuple a items else h.IsList a items
theorem ItB.at {t : Bool} {h h' : Heap} {i a : Addr} {k : Nat} (x : ItB t h i a k) (hk : ∀ o, h.get? i = some o → h'.get? i = some o) : ItB t h' i a k := by
  cases t
  · exact Heap.IsListIter.at x hk
  · exact Heap.IsTupleIter.at x hk
theorem ItB.obj {t : Bool} {h : Heap} {i a : Addr} {k : Nat} (x : ItB t h i a k) : ∃ o, h.get? i = some o ∧ ∀ v, o.data ≠ .cell v := by
  cases t
  · obtain ⟨o, e, _, d⟩ : h.IsListIter i a k := x
    exact ⟨o, e, fun v q => by rw [d] at q; cases q⟩
  · obtain ⟨o, e, _, d⟩ : h.IsTupleIter i a k := x
    exact ⟨o, e, fun v q => by rw [d] at q; cases q⟩
theorem invB {X : Cx} {pins : List (Addr × Obj)} {σ : L2.St} {H : Hp} {s : Shared} {t : Bool} {a : Addr} {xs : List V} (I : Inv X pins σ H s) (h : SqB t X.K H a xs) : ∃ its : List Value, Vals xs its ∧ HpB t s.heap a its.toArray ∧ a < s.heap.objs.size := by
  cases t
  · obtain ⟨its, rv, p, _⟩ := I.list h
    exact ⟨its, rv, p.isList, p.lt⟩
  · obtain ⟨its, rv, p, _⟩ := I.tuple h
    obtain ⟨o, ho, _⟩ := id p
    exact ⟨its, rv, p, Heap.lt_size ho⟩
theorem injB {X : Cx} {pins : List (Addr × Obj)} {σ : L2.St} {H : Hp} {s : Shared} {t : Bool} {a : Addr} {xs ys : List V} (I : Inv X pins σ H s) (h : SqB t X.K H a xs) (h' : SqB t X.K H a ys) : xs = ys := by
  cases t
  · exact I.list_inj h h'
  · exact I.tuple_inj h h'
theorem drawsB {prog : Program} {w : World} {A : Around} (t : Bool) (hh : A.handled = none) (it l : Addr) (hne : l ≠ it) (items : Array Value) : Draws prog w A it [it, l] items.size (fun i v => items[i]? = some v) (fun i h => ItB t h it l i ∧ HpB t h l items) := by
  cases t
  · exact Draws.list hh it l hne items
  · exact Draws.tuple hh it l hne items
def objB (t : Bool) (a : Addr) : Obj := bif t then { cls := .type "tuple_iterator", data := .fields #[.ref a, .int 0 0] } else { cls := .type "list_iterator", data := .fields #[.ref a, .int 0 0] }
theorem beginsB (t : Bool) (a : Addr) (items : Array Value) : Begins (.ref a) (objB t a) fun h => HpB t h a items := by
  cases t
  · exact begins_list a items
  · exact begins_tuple a items
theorem itB_new {t : Bool} {h : Heap} {i a : Addr} (e : h.get? i = some (objB t a)) : ItB t h i a 0 := by
  cases t
  · exact ⟨_, e, rfl, rfl⟩
  · exact ⟨_, e, rfl, rfl⟩
/-! enumerate -/
def IteB (t : Bool) (K : PySem.W.Frag) (a : Addr) : It :=
  ⟨fun i H => ∃ (xs : List V) (x : V), SqB t K H a xs ∧ xs[i]? = some x, fun i H v H' => ∃ T x, v = .ref T ∧ H T = none ∧ H' = upd H T (.tup [.int (i : Nat), x]) ∧ ∀ xs, SqB t K H a xs → xs[i]? = some x, fun i H => ∃ xs : List V, SqB t K H a xs ∧ i = xs.length⟩
theorem turn_enumB {P : Program} {w : World} {K : PySem.W.Frag} {elts : List Expr} {kk : Nat} {tpos : Pos} (t : Bool) (a e it : Addr) :
    Turn P w K (.Tuple elts kk tpos) (IteB t K a) [e, it] e (fun i h => (∃ old, IsEnum h e it ((0 : Int) + (i : Int)) old) ∧ ItB t h it a i ∧ e ≠ it ∧ a ≠ it ∧ e ≠ a) where
  mem := by simp
  obj := fun i h st b hb => by
    obtain ⟨⟨old, he⟩, hi, _⟩ := st
    have e' : b = e ∨ b = it := by simpa using hb
    rcases e' with z | z
    · rw [z]; exact ⟨_, he, fun v q => nomatch q⟩
    · rw [z]; exact hi.obj
  keep := fun i h h' st k => let ⟨⟨old, he⟩, hi, hne⟩ := st; ⟨⟨old, k e (by simp) _ he⟩, hi.at fun o q => k it (by simp) o q, hne⟩
  item := by
    intro X hP hw hK hc i pins s σ H E I hf st hg
    subst hP hw hK
    obtain ⟨hen, hit, n1, n2, n3⟩ := st
    obtain ⟨xs, x, hq, hx⟩ := hg
    obtain ⟨its, rv, p, hz⟩ := invB I hq
    obtain ⟨u, hu, ru⟩ := rv.get hx
    have hel : e < s.heap.objs.size := by obtain ⟨_, he⟩ := hen; exact Heap.lt_size he
    have hil : it < s.heap.objs.size := by obtain ⟨o, q, _⟩ := hit.obj; exact Heap.lt_size q
    have G := GoesN.enumFrom (prog := X.prog) (w := X.w) (A := X.A) (elts := elts) (x1 := kk) (pos := tpos) 0 (drawsB (prog := X.prog) (w := X.w) (A := X.A.in1) t (I.ok.hd hc) it a n2 its.toArray) e n1 (by simp [n1, n3]) (by simp)
    have hlen : i < its.toArray.size := by
      have := (List.getElem?_eq_some_iff.mp hu).1
      simpa using this
    refine G.goes i s (fun v s2 => ∃ x H', Inv X pins σ H' s2 ∧ RelV x v ∧ (IteB t X.K a).yld i H x H' ∧ _ ∧ ∀ b ∈ [e, it], H' b = none) E hlen ⟨hen, hit, p⟩ fun v h' tk hY st' hk htk => ?_
    obtain ⟨T, tt, y, ev, hT, hy, hTup⟩ := hY
    subst ev
    have hy' : y = u := by
      have q : its.toArray[i]? = some u := by simpa using hu
      rw [q] at hy; injection hy with hy; exact hy.symm
    subst hy'
    have new : ObjOk X.prog X.w (upd H T (.tup [.int (i : Nat), x])) h' T (.tup [.int (i : Nat), x]) :=
      ⟨by show 2 ≤ sizeLine; decide, [.int (0 + (i : Int)) tt, y], .cons ⟨tt, by rw [Int.zero_add]⟩ (.cons ru .nil), hTup⟩
    have I1 : Inv X pins σ (upd H T (.tup [.int (i : Nat), x])) { s with heap := h', toks := tk } :=
      I.turnedNew (ch := [e, it]) (fun b ob hb q => hk b ob hb q) hf hT new
    refine ⟨.ref T, _, I1, rfl, ⟨_, x, rfl, I.hok.fresh hT, rfl, fun ys hy => by rw [injB I hy hq]; exact hx⟩, ⟨st'.1, st'.2.1, n1, n2, n3⟩, fun b hb => ?_⟩
    have hb' : b < s.heap.objs.size := by
      have e' : b = e ∨ b = it := by simpa using hb
      rcases e' with z | z
      · rw [z]; exact hel
      · rw [z]; exact hil
    rw [upd_ne (Nat.ne_of_lt (Nat.lt_of_lt_of_le hb' hT))]
    exact (hf b hb).1
  done := by
    intro X hP hw hK hc i pins s σ H E I hf st hg
    subst hP hw hK
    obtain ⟨hen, hit, n1, n2, n3⟩ := st
    obtain ⟨xs, hq, hx⟩ := hg
    obtain ⟨its, rv, p, hz⟩ := invB I hq
    have hl := rv.length
    obtain ⟨f0, f1, f2, f3, f4, f5⟩ := hf it (by simp)
    have h : i = its.toArray.size := by simp; omega
    subst h
    have G := GoesN.enumFrom (prog := X.prog) (w := X.w) (A := X.A) (elts := elts) (x1 := kk) (pos := tpos) 0 (drawsB (prog := X.prog) (w := X.w) (A := X.A.in1) t (I.ok.hd hc) it a n2 its.toArray) e n1 (by simp [n1, n3]) (by simp)
    exact G.stops s _ E ⟨hen, hit, p⟩ fun h' tk hk htk => I.turnedL (ch := [e, it]) (fun b o hb q => hk b o hb q) hf
  self := fun A i s Q E st h => let ⟨⟨_, he⟩, _⟩ := st; wpAny_pyIter_enum he h

def iEnumB (t : Bool) (K : PySem.W.Frag) (ta : TA) : TI := fun σ H R => ta σ H fun vs H1 => ∃ a xs, vs = [.ref a] ∧ SqB t K H1 a xs ∧ R (IteB t K a) H1
theorem meets_enumB {v : Value} {o : Obj} {H : Heap → Prop} (B : Begins v o H) :
    Meets (Builtin.«enumerate.__new__» ⟨[.type "enumerate", v], []⟩) (fun _ R s => H s.heap ∧
      R (.ok (.ret (.ref (s.heap.push o).objs.size))) { s with heap := (s.heap.push o).push { cls := .type "enumerate", data := .fields #[.none, .bool false, .ref s.heap.objs.size, rawInt 0, .none, .none] } }) :=
  .of_wp fun prog w A R s h => by
    obtain ⟨hp, g, d, tk, os⟩ := s; obtain ⟨h1, h⟩ := h
    have hsub := sub_enumerate
    have q1 : ∀ {A' : Around} {E : Value → Shared → Prop} {Q : Value → Shared → Prop}, Q (.ref hp.objs.size) ⟨hp.push o, g, d, tk, os⟩ → wpAny (model prog w) A' (pyIter v) Q E ⟨hp, g, d, tk, os⟩ :=
      fun q => B.iter prog w _ _ ⟨hp, g, d, tk, os⟩ _ h1 q
    wp_walk using q1
    refine wpAny_stack_any fun st => wpAny_pure ?_
    split
    · rename_i c _ _ _ _ _
      cases (c == Value.type "enumerate")
      · wp_walk using q1
        exact ⟨_, rfl, h⟩
      · wp_walk using q1
        exact ⟨_, rfl, h⟩
    · wp_walk using q1
      exact ⟨_, rfl, h⟩
theorem call_enumB {prog : Program} {w : World} {A : Around} {E : Value → Shared → Prop} {s : Shared} {v : Value} {o : Obj} {H : Heap → Prop} {Q : Value → Shared → Prop} (B : Begins v o H) (h1 : H s.heap)
    (h : ∀ h', IsEnum h' (s.heap.objs.size + 1) s.heap.objs.size 0 .none → h'.get? s.heap.objs.size = some o → (∀ b o, s.heap.get? b = some o → h'.get? b = some o) → Q (.ref (s.heap.objs.size + 1)) { s with heap := h' }) :
    wpAny (model prog w) A (call (.type "enumerate") [v]) Q E s := by
  refine callType_new F.called_enumerate (by decide) (F.typeCall_enumerate_1 _) (F.newCall_enumerate_1 _) (fun obj => F.args_object_init_2 obj _) F.entry_enumerate_new (meets_enumB B) ⟨h1, ?_⟩
  have hz : (s.heap.push o).objs.size = s.heap.objs.size + 1 := Heap.size_push ..
  show _ ∧ _
  rw [hz]
  have he : IsEnum ((s.heap.push o).push { cls := .type "enumerate", data := .fields #[.none, .bool false, .ref s.heap.objs.size, rawInt 0, .none, .none] }) (s.heap.objs.size + 1) s.heap.objs.size 0 .none := by
    have := Heap.get?_push_size (s.heap.push o) (o := { cls := .type "enumerate", data := .fields #[.none, .bool false, .ref s.heap.objs.size, rawInt 0, .none, .none] }) rfl
    rw [hz] at this; exact this
  exact ⟨⟨_, he, rfl⟩, h _ he (Heap.get?_push_of_some _ (Heap.get?_push_size _ B.free)) fun b o x => Heap.get?_push_of_some _ (Heap.get?_push_of_some _ x)⟩
theorem pi_enumB (t : Bool) {X : Cx} {e : Expr} {ta : TA} {p pos tpos : Pos} {elts : List Expr} {kk : Nat} (hg : Gl X "enumerate") (hm : X.mg "enumerate" = none) (ha : PA X [e] ta) (hs : starEach [e] X.env = [(false, eval e X.env)] := by rfl) :
    PI X (.Tuple elts kk tpos) (.Call (.Name "enumerate" p) [e] [] pos) (iEnumB t X.K ta) := by
  refine ⟨fun pins s σ H R I h => ?_⟩
  refine Call_ (ld_blt I hg hm boot_enumerate (PyProof.Rows.callWith_type1 (thn (ha.run pos pins s σ H _ I h) fun us s1 ⟨vs, H1, I1, r1, q1⟩ => ?_) hs rfl))
  obtain ⟨a, xs, ex, hq, q⟩ := q1
  subst ex
  cases r1 with
  | cons r rr =>
    cases rr
    cases r
    obtain ⟨its, rv, p', hz⟩ := invB I1 hq
    refine call_enumB (beginsB t a its.toArray) p' fun h' he hit hk => wpAny_pyIter_enum he ?_
    have I2 : Inv X pins σ H1 { s1 with heap := h' } := I1.kept (t' := s1.toks) hk
    refine ⟨s1.heap.objs.size + 1, [s1.heap.objs.size + 1, s1.heap.objs.size], _, _, H1, rfl, I2, turn_enumB t a (s1.heap.objs.size + 1) s1.heap.objs.size, ⟨⟨.none, he⟩, itB_new hit, Nat.succ_ne_self _, Nat.ne_of_lt hz, Nat.ne_of_gt (Nat.lt_succ_of_lt hz)⟩, fun b hb => ?_, q⟩
    have e' : b = s1.heap.objs.size + 1 ∨ b = s1.heap.objs.size := by simpa using hb
    have hle : s1.heap.objs.size ≤ b := by
      rcases e' with z | z
      · rw [z]; exact Nat.le_add_right _ _
      · rw [z]; exact Nat.le_refl _
    exact I1.fpOk hle (I1.hok.fresh hle)
/-! zip -/
def ItzB (t1 t2 : Bool) (K : PySem.W.Frag) (a b : Addr) : It :=
  ⟨fun i H => ∃ (xs ys : List V) (x y : V), SqB t1 K H a xs ∧ SqB t2 K H b ys ∧ xs[i]? = some x ∧ ys[i]? = some y,
    fun i H v H' => ∃ T x y, v = .ref T ∧ H T = none ∧ H' = upd H T (.tup [x, y]) ∧ (∀ xs, SqB t1 K H a xs → xs[i]? = some x) ∧ ∀ ys, SqB t2 K H b ys → ys[i]? = some y,
    fun i H => ∃ xs ys : List V, SqB t1 K H a xs ∧ SqB t2 K H b ys ∧ i = min xs.length ys.length⟩
structure ZApart (z TI TO i1 i2 a b : Addr) : Prop where
  s : ZipSep2 z TI TO i1 i2 [i1, a] [i2, b]
  a1 : a ≠ i1
  b2 : b ≠ i2
theorem turn_zipB {P : Program} {w : World} {K : PySem.W.Frag} {elts : List Expr} {kk : Nat} {tpos : Pos} (t1 t2 : Bool) {a b z TI TO i1 i2 : Addr} (D : ZApart z TI TO i1 i2 a b) :
    Turn P w K (.Tuple elts kk tpos) (ItzB t1 t2 K a b) [z, TI, TO, i1, i2] z (fun i h => IsZip h z TI TO .none ∧ IsTupOf2 h TI (.ref i1) (.ref i2) ∧ (∃ x y, IsTupOf2 h TO x y) ∧ ItB t1 h i1 a i ∧ ItB t2 h i2 b i) where
  mem := by simp
  obj := fun i h st c hc => by
    obtain ⟨hz, hTI, ⟨x, y, hTO⟩, h1, h2⟩ := st
    have e' : c = z ∨ c = TI ∨ c = TO ∨ c = i1 ∨ c = i2 := by simpa using hc
    rcases e' with q | q | q | q | q
    · rw [q]; exact ⟨_, hz, fun v q => nomatch q⟩
    · rw [q]; exact ⟨_, hTI, fun v q => nomatch q⟩
    · rw [q]; exact ⟨_, hTO, fun v q => nomatch q⟩
    · rw [q]; exact h1.obj
    · rw [q]; exact h2.obj
  keep := fun i h h' st k => by
    obtain ⟨hz, hTI, ⟨x, y, hTO⟩, h1, h2⟩ := st
    exact ⟨k z (by simp) _ hz, k TI (by simp) _ hTI, ⟨x, y, k TO (by simp) _ hTO⟩, h1.at fun o q => k i1 (by simp) o q, h2.at fun o q => k i2 (by simp) o q⟩
  item := by
    intro X hP hw hK hc i pins s σ H E I hf st hg
    subst hP hw hK
    obtain ⟨hz, hTI, hTO, h1, h2⟩ := st
    obtain ⟨xs, ys, x, y, hqx, hqy, hx, hy⟩ := hg
    obtain ⟨its, rv, p, l1⟩ := invB I hqx
    obtain ⟨its2, rv2, p2, l2⟩ := invB I hqy
    obtain ⟨u, hu, ru⟩ := rv.get hx
    obtain ⟨u2, hu2, ru2⟩ := rv2.get hy
    have G := GoesN.zip2 (prog := X.prog) (w := X.w) (A := X.A) (elts := elts) (x1 := kk) (pos := tpos) D.s (drawsB (prog := X.prog) (w := X.w) (A := X.A.in1) t1 (I.ok.hd hc) i1 a D.a1 its.toArray) (drawsB (prog := X.prog) (w := X.w) (A := X.A.in1) t2 (I.ok.hd hc) i2 b D.b2 its2.toArray)
    have hl1 : i < its.toArray.size := by simpa using (List.getElem?_eq_some_iff.mp hu).1
    have hl2 : i < its2.toArray.size := by simpa using (List.getElem?_eq_some_iff.mp hu2).1
    have hfp : ∀ c ∈ [z, TI, TO, i1, i2], c < s.heap.objs.size := fun c hcm => by
      have e' : c = z ∨ c = TI ∨ c = TO ∨ c = i1 ∨ c = i2 := by simpa using hcm
      rcases e' with q | q | q | q | q
      · rw [q]; exact Heap.lt_size hz
      · rw [q]; exact Heap.lt_size hTI
      · rw [q]; obtain ⟨_, _, e⟩ := hTO; exact Heap.lt_size e
      · rw [q]; obtain ⟨_, e, _⟩ := h1.obj; exact Heap.lt_size e
      · rw [q]; obtain ⟨_, e, _⟩ := h2.obj; exact Heap.lt_size e
    refine G.goes i s (fun v s2 => ∃ x H', Inv X pins σ H' s2 ∧ RelV x v ∧ (ItzB t1 t2 X.K a b).yld i H x H' ∧ _ ∧ ∀ c ∈ [z, TI, TO, i1, i2], H' c = none) E (Nat.lt_min.mpr ⟨hl1, hl2⟩) ⟨hz, hTI, hTO, ⟨h1, p⟩, ⟨h2, p2⟩⟩ fun v h' tk hY st' hk htk => ?_
    obtain ⟨T, v1, v2, ev, hT, hv1, hv2, hTup⟩ := hY
    subst ev
    have e1 : v1 = u := by
      have q : its.toArray[i]? = some u := by simpa using hu
      rw [q] at hv1; injection hv1 with hv1; exact hv1.symm
    have e2 : v2 = u2 := by
      have q : its2.toArray[i]? = some u2 := by simpa using hu2
      rw [q] at hv2; injection hv2 with hv2; exact hv2.symm
    subst e1 e2
    have new : ObjOk X.prog X.w (upd H T (.tup [x, y])) h' T (.tup [x, y]) := ⟨by show 2 ≤ sizeLine; decide, [v1, v2], .cons ru (.cons ru2 .nil), hTup⟩
    have I1 : Inv X pins σ (upd H T (.tup [x, y])) { s with heap := h', toks := tk } :=
      I.turnedNew (ch := [z, TI, TO, i1, i2]) (fun c ob hb q => hk c ob (fun hm => hb (by
        have e' : c = z ∨ c = TO ∨ c = i1 ∨ c = i2 := by simpa using hm
        rcases e' with q | q | q | q <;> simp [q])) q) hf hT new
    refine ⟨.ref T, _, I1, rfl, ⟨_, x, y, rfl, I.hok.fresh hT, rfl, fun l hl => by rw [injB I hl hqx]; exact hx, fun l hl => by rw [injB I hl hqy]; exact hy⟩, ⟨st'.1, st'.2.1, st'.2.2.1, st'.2.2.2.1.1, st'.2.2.2.2.1⟩, fun c hcm => ?_⟩
    rw [upd_ne (Nat.ne_of_lt (Nat.lt_of_lt_of_le (hfp c hcm) hT))]
    exact (hf c hcm).1
  done := by
    intro X hP hw hK hc i pins s σ H E I hf st hg
    subst hP hw hK
    obtain ⟨hz, hTI, hTO, h1, h2⟩ := st
    obtain ⟨xs, ys, hqx, hqy, hend⟩ := hg
    obtain ⟨its, rv, p, l1⟩ := invB I hqx
    obtain ⟨its2, rv2, p2, l2⟩ := invB I hqy
    have q1 := rv.length
    have q2 := rv2.length
    have h : i = min its.toArray.size its2.toArray.size := by simp; omega
    subst h
    have G := GoesN.zip2 (prog := X.prog) (w := X.w) (A := X.A) (elts := elts) (x1 := kk) (pos := tpos) D.s (drawsB (prog := X.prog) (w := X.w) (A := X.A.in1) t1 (I.ok.hd hc) i1 a D.a1 its.toArray) (drawsB (prog := X.prog) (w := X.w) (A := X.A.in1) t2 (I.ok.hd hc) i2 b D.b2 its2.toArray)
    exact G.stops s _ E ⟨hz, hTI, hTO, ⟨h1, p⟩, ⟨h2, p2⟩⟩ fun h' tk hk htk => I.turnedL (ch := [z, TI, TO, i1, i2]) (fun c o hb q => hk c o (fun hm => hb (by
        have e' : c = z ∨ c = TO ∨ c = i1 ∨ c = i2 := by simpa using hm
        rcases e' with q | q | q | q <;> simp [q])) q) hf
  self := fun A i s Q E st h => wpAny_pyIter_zip st.1 h
def iZipB (t1 t2 : Bool) (K : PySem.W.Frag) (ta : TA) : TI := fun σ H R => ta σ H fun vs H1 => ∃ a b xs ys, vs = [.ref a, .ref b] ∧ SqB t1 K H1 a xs ∧ SqB t2 K H1 b ys ∧ R (ItzB t1 t2 K a b) H1
theorem pi_zipB (t1 t2 : Bool) {X : Cx} {e e2 : Expr} {ta : TA} {p pos tpos : Pos} {elts : List Expr} {kk : Nat} (hg : Gl X "zip") (hm : X.mg "zip" = none) (ha : PA X [e, e2] ta)
    (hs : starEach [e, e2] X.env = (false, eval e X.env) :: starEach [e2] X.env := by rfl) (hpl : (backTo pos (starEach [e2] X.env)).any (·.1) = false := by rfl) :
    PI X (.Tuple elts kk tpos) (.Call (.Name "zip" p) [e, e2] [] pos) (iZipB t1 t2 X.K ta) := by
  refine ⟨fun pins s σ H R I h => ?_⟩
  refine Call_ (ld_blt I hg hm PyProof.Rows.boot_zip (PyProof.Rows.callWith_type1 (thn (ha.run pos pins s σ H _ I h) fun us s1 ⟨vs, H1, I1, r1, q1⟩ => ?_) hs hpl))
  obtain ⟨a, b, xs, ys, ex, hqx, hqy, q⟩ := q1
  subst ex
  cases r1 with
  | cons r rr =>
    cases rr with
    | cons r' rr =>
      cases rr
      cases r
      cases r'
      have fresh5 : ∀ c, c ∈ [s1.heap.objs.size + 4, s1.heap.objs.size + 2, s1.heap.objs.size + 3, s1.heap.objs.size, s1.heap.objs.size + 1] → FpOk X pins H1 c := fun c hcm => by
        have e' : c = s1.heap.objs.size + 4 ∨ c = s1.heap.objs.size + 2 ∨ c = s1.heap.objs.size + 3 ∨ c = s1.heap.objs.size ∨ c = s1.heap.objs.size + 1 := by simpa using hcm
        have hle : s1.heap.objs.size ≤ c := by
          rcases e' with z | z | z | z | z
          · rw [z]; exact Nat.le_add_right _ _
          · rw [z]; exact Nat.le_add_right _ _
          · rw [z]; exact Nat.le_add_right _ _
          · rw [z]; exact Nat.le_refl _
          · rw [z]; exact Nat.le_add_right _ _
        exact I1.fpOk hle (I1.hok.fresh hle)
      obtain ⟨its, rv, p1, l1⟩ := invB I1 hqx
      obtain ⟨its2, rv2, p2, l2⟩ := invB I1 hqy
      refine zip_begins2 (beginsB t1 a its.toArray) (beginsB t2 b its2.toArray) p1 p2 fun h' hz hTI hTO h1 h2 hsz hk => wpAny_pyIter_zip hz ?_
      have I2 : Inv X pins σ H1 { s1 with heap := h' } := I1.kept (t' := s1.toks) hk
      have ap : ZApart (s1.heap.objs.size + 4) (s1.heap.objs.size + 2) (s1.heap.objs.size + 3) s1.heap.objs.size (s1.heap.objs.size + 1) a b :=
        ⟨zip_sep2 (fun c hc => by rw [List.mem_singleton.mp hc]; exact l1) (fun c hc => by rw [List.mem_singleton.mp hc]; exact l2), Nat.ne_of_lt l1, Nat.ne_of_lt (Nat.lt_succ_of_lt l2)⟩
      exact ⟨s1.heap.objs.size + 4, [s1.heap.objs.size + 4, s1.heap.objs.size + 2, s1.heap.objs.size + 3, s1.heap.objs.size, s1.heap.objs.size + 1], _, _, H1, rfl, I2, turn_zipB t1 t2 ap, ⟨hz, hTI, ⟨_, _, hTO⟩, itB_new h1, itB_new h2⟩, fresh5, q⟩
/-! their walks -/
theorem walk_enumB {t : Bool} {K : PySem.W.Frag} {a : Addr} {xs : List V} : Walk (IteB t K a) xs.length (fun H => SqB t K H a xs) (YPair (fun i => some (.int (i : Nat))) (fun i => xs[i]?)) := by
  refine ⟨fun i _ hi q => ⟨xs, xs[i], q, by simp [hi]⟩, fun _ q => ⟨xs, q, rfl⟩, fun i H v H' _ q y => ?_⟩
  obtain ⟨T, x, h1, h2, h3, h4⟩ := y
  exact ⟨T, .int (i : Nat), x, h1, h2, h3, rfl, h4 xs q⟩
theorem walk_zipB {t1 t2 : Bool} {K : PySem.W.Frag} {a b : Addr} {xs ys : List V} {n : Nat} (hn : n = min xs.length ys.length) : Walk (ItzB t1 t2 K a b) n (fun H => SqB t1 K H a xs ∧ SqB t2 K H b ys) (YPair (fun i => xs[i]?) (fun i => ys[i]?)) := by
  subst hn
  refine ⟨fun i _ hi q => ?_, fun _ q => ⟨xs, ys, q.1, q.2, rfl⟩, fun i H v H' _ q y => ?_⟩
  · have h1 : i < xs.length := by omega
    have h2 : i < ys.length := by omega
    exact ⟨xs, ys, xs[i], ys[i], q.1, q.2, by simp [h1], by simp [h2]⟩
  · obtain ⟨T, x, z, h1, h2, h3, h4, h5⟩ := y
    exact ⟨T, x, z, h1, h2, h3, h4 xs q.1, h5 ys q.2⟩
end Own


namespace Own
/-! ### numbers below a prime: inverses -/
/-- b makes one with a below p -/
def IsInv (p a b : Int) : Prop := 0 ≤ b ∧ b < p ∧ p ∣ a * b - 1
theorem IsInv.uniq {p a b c : Int} (h : IsInv p a b) (k : IsInv p a c) : b = c := by
  obtain ⟨b0, b1, hb⟩ := h
  obtain ⟨c0, c1, hc⟩ := k
  have d : p ∣ b - c := by
    have h1 : p ∣ c * (a * b - 1) := Int.dvd_mul_of_dvd_right hb
    have h2 : p ∣ b * (a * c - 1) := Int.dvd_mul_of_dvd_right hc
    have e : b - c = c * (a * b - 1) - b * (a * c - 1) := by
      rw [Int.mul_sub, Int.mul_sub, show c * (a * b) = b * (a * c) by rw [Int.mul_left_comm, Int.mul_comm c b, Int.mul_left_comm]]
      omega
    rw [e]
    exact Int.dvd_sub h1 h2
  have := Int.emod_eq_emod_iff_emod_sub_eq_zero.mpr (Int.emod_eq_zero_of_dvd d)
  rwa [Int.emod_eq_of_lt b0 b1, Int.emod_eq_of_lt c0 c1] at this
open Classical in
noncomputable def inv (p a : Int) : Int := if h : ∃ b, IsInv p a b then Classical.choose h else 0
theorem inv_of {p a b : Int} (h : IsInv p a b) : inv p a = b := by
  have e : ∃ b, IsInv p a b := ⟨b, h⟩
  unfold inv
  rw [dif_pos e]
  exact (Classical.choose_spec e).uniq h
theorem inv_is {p a b : Int} (h : IsInv p a b) : IsInv p a (inv p a) := by rw [inv_of h]; exact h
/-- no number but one and itself divides p, and no greater part -/
def Prm (p : Int) : Prop := 5 ≤ p ∧ p ≤ 1000003 ∧ noDiv p = true
theorem Prm.part {p g : Int} (h : Prm p) (g1 : 0 < g) (g2 : g < p) (d : g ∣ p) : g = 1 := by
  obtain ⟨h5, h6, hn⟩ := h
  have N := (noDiv_iff h6).mp hn
  refine Classical.byContradiction fun ne => ?_
  obtain ⟨m, e⟩ := d
  have m2 : 1 < m := by
    refine Int.not_le.mp fun c => ?_
    have : g * m ≤ g * 1 := Int.mul_le_mul_of_nonneg_left c (by omega)
    omega
  by_cases c : g ≤ m
  · exact N g (by omega) (by rw [e]; exact Int.mul_le_mul_of_nonneg_left c (by omega)) (Int.emod_eq_zero_of_dvd ⟨m, e⟩)
  · exact N m (by omega) (by rw [e]; exact Int.mul_le_mul_of_nonneg_right (by omega) (by omega)) (Int.emod_eq_zero_of_dvd ⟨g, by rw [e, Int.mul_comm]⟩)
/-! the steps of Euclid: what divides both of a pair divides p and a -/
structure Euc (p a high low far near : Int) : Prop where
  h0 : 0 < high
  l0 : 0 ≤ low
  lt : low < high
  hp : high ≤ p
  dv : ∀ g : Int, g ∣ high → g ∣ low → g ∣ p ∧ g ∣ a
  fa : p ∣ a * far - high
  ne : p ∣ a * near - low
theorem Euc.start {p a : Int} (h0 : 0 ≤ a) (h1 : a < p) : Euc p a p a 0 1 :=
  ⟨by omega, h0, h1, by omega, fun g h k => ⟨h, k⟩, by rw [Int.mul_zero, Int.zero_sub]; exact Int.dvd_neg.mpr (Int.dvd_refl p), by rw [Int.mul_one, Int.sub_self]; exact Int.dvd_zero p⟩
theorem Euc.step {p a high low far near : Int} (e : Euc p a high low far near) (hl : 0 < low) : Euc p a low (high - high / low * low) near (far - high / low * near) := by
  have m : high - high / low * low = high % low := by rw [Int.emod_def, Int.mul_comm]
  refine ⟨hl, by rw [m]; exact Int.emod_nonneg _ (by omega), by rw [m]; exact Int.emod_lt_of_pos _ hl, by have := e.lt; have := e.hp; omega, fun g h k => ?_, e.ne, ?_⟩
  · refine e.dv g ?_ h
    have k1 : g ∣ high / low * low := Int.dvd_mul_of_dvd_right h
    have : high = (high - high / low * low) + high / low * low := by omega
    rw [this]
    exact Int.dvd_add k k1
  · have h1 : p ∣ high / low * (a * near - low) := Int.dvd_mul_of_dvd_right e.ne
    have h2 := Int.dvd_sub e.fa h1
    have : a * (far - high / low * near) - (high - high / low * low) = a * far - high - high / low * (a * near - low) := by
      rw [Int.mul_sub, Int.mul_sub, Int.mul_left_comm]
      omega
    rw [this]
    exact h2
/-- the one that is left is one -/
theorem Euc.one {p a high far near : Int} (P : Prm p) (a0 : 0 < a) (a1 : a < p) (e : Euc p a high 0 far near) : high = 1 := by
  have d := e.dv high (Int.dvd_refl _) (Int.dvd_zero _)
  have hle : high ≤ a := Int.le_of_dvd a0 d.2
  exact P.part e.h0 (by omega) d.1
theorem Euc.low {p a high low far near : Int} (P : Prm p) (a0 : 0 < a) (a1 : a < p) (e : Euc p a high low far near) (h : 1 < high) : 0 < low := by
  have := e.l0
  refine Int.not_le.mp fun c => ?_
  have z : low = 0 := by omega
  subst z
  have := e.one P a0 a1
  omega
theorem inv_mod {p a b : Int} (hp : 0 < p) (h : p ∣ a * b - 1) : IsInv p a (b % p) := by
  refine ⟨Int.emod_nonneg _ (by omega), Int.emod_lt_of_pos _ hp, ?_⟩
  have h2 : p ∣ a * (p * (b / p)) := Int.dvd_mul_of_dvd_right (Int.dvd_mul_right _ _)
  have : a * (b % p) - 1 = a * b - 1 - a * (p * (b / p)) := by
    rw [Int.emod_def, Int.mul_sub]
    omega
  rw [this]
  exact Int.dvd_sub h h2
/-- both sides of a pair, halved at each turn -/
theorem Euc.half {p a high low far near : Int} (e : Euc p a high low far near) (hl : 0 < low) : 2 * (low * (high - high / low * low)) ≤ high * low := by
  have m : high - high / low * low = high % low := by rw [Int.emod_def, Int.mul_comm]
  have r0 : 0 ≤ high % low := Int.emod_nonneg _ (by omega)
  have r1 := Int.emod_lt_of_pos high hl
  have q1 : 1 ≤ high / low := Int.le_ediv_of_mul_le hl (by have := e.lt; omega)
  have q2 : low * 1 ≤ low * (high / low) := Int.mul_le_mul_of_nonneg_left q1 (by omega)
  have h1 := Int.mul_ediv_add_emod high low
  have : 2 * (high % low) ≤ high := by omega
  rw [m]
  have h3 := Int.mul_le_mul_of_nonneg_left this (show 0 ≤ low by omega)
  rw [Int.mul_left_comm, Int.mul_comm high low]
  exact h3
end Own


namespace Own
/-! ### rows of numbers below a prime -/
abbrev Ro := List Int
abbrev Mx := List Ro
def nth (r : Ro) (j : Nat) : Int := r.getD j 0
def row (R : Mx) (i : Nat) : Ro := R.getD i []
def ent (R : Mx) (i j : Nat) : Int := nth (row R i) j
def swp (R : Mx) (i j : Nat) : Mx := (R.set i (row R j)).set j (row R i)
def scl (p b : Int) (r : Ro) : Ro := r.map fun x => b * x % p
def led (p f : Int) (r c : Ro) : Ro := List.zipWith (fun x y => (x - f * y) % p) r c
def clr (p b : Int) (R : Mx) (d k : Nat) : Mx := (List.range R.length).map fun r => if r = d then scl p b (row R d) else led p (ent R r k) (row R r) (scl p b (row R d))
def pv (R : Mx) (d k : Nat) : Option Nat := (List.range R.length).find? fun i => decide (d ≤ i) && decide (ent R i k ≠ 0)
/-- rows, how many are done, where these begin -/
structure Sta where
  R : Mx
  d : Nat
  S : List Nat
noncomputable def stp (p : Int) (s : Sta) (k : Nat) : Sta := match pv s.R s.d k with
  | none => s
  | some i => ⟨clr p (inv p (ent (swp s.R s.d i) s.d k)) (swp s.R s.d i) s.d k, s.d + 1, s.S ++ [k]⟩
noncomputable def red (p : Int) (M : Mx) : Nat → Sta
  | 0 => ⟨M, 0, []⟩
  | n + 1 => stp p (red p M n) n
theorem getD_lt {α : Type} {l : List α} {d : α} {i : Nat} (h : i < l.length) : l.getD i d = l[i] := by
  rw [List.getD_eq_getElem?_getD, List.getElem?_eq_getElem h, Option.getD_some]
/-- rows of n numbers below p -/
def WF (p : Int) (n : Nat) (R : Mx) : Prop := ∀ r ∈ R, r.length = n ∧ ∀ x ∈ r, 0 ≤ x ∧ x < p
theorem row_mem {R : Mx} {i : Nat} (h : i < R.length) : row R i ∈ R := by
  unfold row
  rw [getD_lt h]
  exact List.getElem_mem h
theorem row_at {R : Mx} {i : Nat} (h : i < R.length) : R[i]? = some (row R i) := by
  unfold row
  rw [getD_lt h, List.getElem?_eq_getElem h]
theorem mem_row {R : Mx} {r : Ro} (h : r ∈ R) : ∃ i, i < R.length ∧ row R i = r := by
  obtain ⟨i, hi, e⟩ := List.mem_iff_getElem.mp h
  exact ⟨i, hi, by unfold row; rw [getD_lt hi, e]⟩
theorem row_set {R : Mx} {i j : Nat} {r : Ro} (h : i < R.length) : row (R.set i r) j = if j = i then r else row R j := by
  unfold row
  rw [List.getD_eq_getElem?_getD, List.getD_eq_getElem?_getD, List.getElem?_set]
  by_cases e : i = j
  · subst e; simp [h]
  · simp [e, Ne.symm e]
theorem row_swp {R : Mx} {i j r : Nat} (hi : i < R.length) (hj : j < R.length) : row (swp R i j) r = if r = j then row R i else if r = i then row R j else row R r := by
  unfold swp
  rw [row_set (by rw [List.length_set]; exact hj), row_set hi]
theorem len_swp {R : Mx} {i j : Nat} : (swp R i j).length = R.length := by simp [swp]
theorem len_clr {p b : Int} {R : Mx} {d k : Nat} : (clr p b R d k).length = R.length := by simp [clr]
theorem row_clr {p b : Int} {R : Mx} {d k r : Nat} (h : r < R.length) : row (clr p b R d k) r = if r = d then scl p b (row R d) else led p (ent R r k) (row R r) (scl p b (row R d)) := by
  unfold clr
  show ((List.range R.length).map _).getD r [] = _
  rw [getD_lt (by simpa using h), List.getElem_map, List.getElem_range]
theorem nth_scl {p b : Int} {r : Ro} {j : Nat} : nth (scl p b r) j = b * nth r j % p := by
  unfold nth scl
  rw [List.getD_eq_getElem?_getD, List.getD_eq_getElem?_getD, List.getElem?_map]
  cases r[j]? <;> simp
theorem nth_led {p f : Int} {r c : Ro} {j : Nat} (h : r.length = c.length) : nth (led p f r c) j = (nth r j - f * nth c j) % p := by
  unfold nth led
  rw [List.getD_eq_getElem?_getD, List.getD_eq_getElem?_getD, List.getD_eq_getElem?_getD, List.getElem?_zipWith]
  by_cases hj : j < r.length
  · rw [List.getElem?_eq_getElem hj, List.getElem?_eq_getElem (by omega : j < c.length)]
    rfl
  · rw [List.getElem?_eq_none (by omega), List.getElem?_eq_none (by omega)]
    simp
theorem len_scl {p b : Int} {r : Ro} : (scl p b r).length = r.length := by simp [scl]
theorem len_led {p f : Int} {r c : Ro} (h : r.length = c.length) : (led p f r c).length = r.length := by simp [led, h]
theorem wf_row {p : Int} {n : Nat} {R : Mx} (w : WF p n R) {i : Nat} (h : i < R.length) : (row R i).length = n ∧ ∀ x ∈ row R i, 0 ≤ x ∧ x < p := w _ (row_mem h)
theorem wf_nth {p : Int} {n : Nat} {R : Mx} (w : WF p n R) (hp : 0 < p) (i j : Nat) : 0 ≤ ent R i j ∧ ent R i j < p := by
  unfold ent nth
  by_cases hi : i < R.length
  · rw [List.getD_eq_getElem?_getD]
    cases h : (row R i)[j]? with
    | none => exact ⟨Int.le_refl _, hp⟩
    | some x => exact (wf_row w hi).2 x (List.mem_of_getElem? h)
  · have : row R i = [] := by unfold row; rw [List.getD_eq_getElem?_getD, List.getElem?_eq_none (by omega), Option.getD_none]
    rw [this]
    exact ⟨Int.le_refl _, hp⟩
theorem wf_swp {p : Int} {n : Nat} {R : Mx} (w : WF p n R) {i j : Nat} (hi : i < R.length) (hj : j < R.length) : WF p n (swp R i j) := fun r hr => by
  obtain ⟨m, hm, e⟩ := mem_row hr
  rw [len_swp] at hm
  rw [row_swp hi hj] at e
  rw [← e]
  split
  · exact wf_row w hi
  · split
    · exact wf_row w hj
    · exact wf_row w hm
theorem wf_clr {p b : Int} {n : Nat} {R : Mx} (hp : 0 < p) (w : WF p n R) {d k : Nat} (hd : d < R.length) : WF p n (clr p b R d k) := fun r hr => by
  obtain ⟨m, hm, e⟩ := mem_row hr
  rw [len_clr] at hm
  rw [row_clr hm] at e
  have l1 := (wf_row w hd).1
  have l2 := (wf_row w hm).1
  rw [← e]
  split
  · refine ⟨by rw [len_scl]; exact l1, fun x hx => ?_⟩
    unfold scl at hx
    obtain ⟨y, _, rfl⟩ := List.mem_map.mp hx
    exact ⟨Int.emod_nonneg _ (by omega), Int.emod_lt_of_pos _ hp⟩
  · refine ⟨by rw [len_led (by rw [len_scl, l1, l2])]; exact l2, fun x hx => ?_⟩
    unfold led at hx
    obtain ⟨i, hi, rfl⟩ := List.mem_iff_getElem.mp hx
    rw [List.getElem_zipWith]
    exact ⟨Int.emod_nonneg _ (by omega), Int.emod_lt_of_pos _ hp⟩
theorem pv_some {R : Mx} {d k i : Nat} (h : pv R d k = some i) : i < R.length ∧ d ≤ i ∧ ent R i k ≠ 0 := by
  unfold pv at h
  have h1 := List.find?_some h
  have h2 := List.mem_of_find?_eq_some h
  simp at h1 h2
  exact ⟨h2, h1.1, h1.2⟩
theorem pv_none {R : Mx} {d k i : Nat} (h : pv R d k = none) (hd : d ≤ i) (hi : i < R.length) : ent R i k = 0 := by
  unfold pv at h
  have := List.find?_eq_none.mp h i (List.mem_range.mpr hi)
  simp [hd] at this
  exact this
/-- what holds of the rows when k columns are done -/
structure Good (p : Int) (n : Nat) (k : Nat) (s : Sta) : Prop where
  wf : WF p n s.R
  dl : s.d = s.S.length
  dr : s.d ≤ s.R.length
  lt : ∀ c ∈ s.S, c < k
  nd : s.S.Pairwise (· < ·)
  one : ∀ (r : Nat) (c : Nat), s.S[r]? = some c → ∀ i, i < s.R.length → ent s.R i c = if i = r then 1 else 0
  low : ∀ i, s.d ≤ i → i < s.R.length → ∀ c, c < k → ent s.R i c = 0
  pre : ∀ (r : Nat) (c : Nat), s.S[r]? = some c → ∀ j, j < c → ent s.R r j = 0
theorem good_start {p : Int} {n : Nat} {M : Mx} (w : WF p n M) : Good p n 0 ⟨M, 0, []⟩ :=
  ⟨w, rfl, Nat.zero_le _, by simp, by simp, fun r c h => by simp at h, fun _ _ _ c h => absurd h (Nat.not_lt_zero _), fun r c h => by simp at h⟩
/-- the number that leads has an inverse -/
def HasInv (p : Int) : Prop := ∀ a, 0 < a → a < p → ∃ b, IsInv p a b
theorem good_step {p : Int} {n k : Nat} {s : Sta} (hp : 1 < p) (hI : HasInv p) (g : Good p n k s) : Good p n (k + 1) (stp p s k) := by
  unfold stp
  cases h : pv s.R s.d k with
  | none =>
    refine ⟨g.wf, g.dl, g.dr, fun c hc => by have := g.lt c hc; omega, g.nd, g.one, fun i h1 h2 c hc => ?_, g.pre⟩
    by_cases e : c = k
    · rw [e]; exact pv_none h h1 h2
    · exact g.low i h1 h2 c (by omega)
  | some i =>
    obtain ⟨hi, hd, hne⟩ := pv_some h
    have hdl : s.d < s.R.length := by omega
    have w1 := wf_swp g.wf hdl hi
    generalize hR1 : swp s.R s.d i = R1 at w1
    have len1 : R1.length = s.R.length := by rw [← hR1, len_swp]
    have r1 : ∀ r, row R1 r = if r = i then row s.R s.d else if r = s.d then row s.R i else row s.R r := fun r => by rw [← hR1, row_swp hdl hi]
    have e1 : ∀ r c, ent R1 r c = if r = i then ent s.R s.d c else if r = s.d then ent s.R i c else ent s.R r c := fun r c => by
      unfold ent
      rw [r1]
      split
      · rfl
      · split <;> rfl
    have a0 : ent R1 s.d k ≠ 0 := by
      rw [e1]
      split
      · rename_i z; rw [← z] at hne; exact hne
      · rw [if_pos rfl]; exact hne
    have ab := wf_nth w1 (by omega) s.d k
    have I := inv_is (Classical.choose_spec (hI (ent R1 s.d k) (by omega) ab.2))
    generalize hb : inv p (ent R1 s.d k) = b at I
    have below : ∀ r, s.d ≤ r → r < s.R.length → ∀ c, c < k → ent R1 r c = 0 := fun r h1 h2 c hc => by
      rw [e1]
      split
      · exact g.low _ (Nat.le_refl _) hdl c hc
      · split
        · exact g.low _ hd hi c hc
        · exact g.low _ h1 h2 c hc
    have same : ∀ r, r < s.d → ∀ c, ent R1 r c = ent s.R r c := fun r h1 c => by
      rw [e1, if_neg (by omega), if_neg (by omega)]
    -- the rows behind
    show Good p n (k + 1) ⟨clr p (inv p (ent (swp s.R s.d i) s.d k)) (swp s.R s.d i) s.d k, s.d + 1, s.S ++ [k]⟩
    rw [hR1, hb]
    have new : ∀ r, r < R1.length → ∀ c, ent (clr p b R1 s.d k) r c = if r = s.d then b * ent R1 s.d c % p else (ent R1 r c - ent R1 r k * (b * ent R1 s.d c % p)) % p := fun r hr c => by
      unfold ent
      rw [row_clr hr]
      split
      · rw [nth_scl]
      · rw [nth_led (by rw [len_scl, (wf_row w1 hr).1, (wf_row w1 (by rw [len1]; exact hdl)).1]), nth_scl]; rfl
    have z : ∀ r, r < R1.length → ∀ c, c < k → ent (clr p b R1 s.d k) r c = ent R1 r c := fun r hr c hc => by
      rw [new r hr c, below s.d (Nat.le_refl _) hdl c hc]
      split
      · rename_i e
        rw [e, below s.d (Nat.le_refl _) hdl c hc]; simp
      · have := wf_nth w1 (by omega) r c
        simp only [Int.mul_zero, Int.zero_emod, Int.sub_zero]
        exact Int.emod_eq_of_lt this.1 this.2
    have lead : b * ent R1 s.d k % p = 1 := by
      have h2 := I.2.2
      have : ent R1 s.d k * b % p = 1 % p := Int.emod_eq_emod_iff_emod_sub_eq_zero.mpr (Int.emod_eq_zero_of_dvd h2)
      rw [Int.mul_comm, this]
      exact Int.emod_eq_of_lt (by omega) hp
    have colk : ∀ r, r < R1.length → ent (clr p b R1 s.d k) r k = if r = s.d then 1 else 0 := fun r hr => by
      rw [new r hr k, lead]
      split
      · rfl
      · rw [Int.mul_one, Int.sub_self, Int.zero_emod]
    refine ⟨wf_clr (by omega) w1 (by rw [len1]; exact hdl), by simp [g.dl], by rw [len_clr, len1]; show s.d + 1 ≤ _; omega, fun c hc => ?_, ?_, fun r c hrc j hj => ?_, fun j h1 h2 c hc => ?_, fun r c hrc j hj => ?_⟩
    · rcases List.mem_append.mp hc with q | q
      · have := g.lt c q; omega
      · rw [List.mem_singleton.mp q]; omega
    · rw [List.pairwise_append]
      exact ⟨g.nd, by simp, fun x hx y hy => by rw [List.mem_singleton.mp hy]; exact g.lt x hx⟩
    · rw [len_clr] at hj
      have hrc' : (s.S ++ [k])[r]? = some c := hrc
      by_cases hr : r < s.S.length
      · rw [List.getElem?_append_left hr] at hrc'
        have hck : c < k := g.lt c (List.mem_of_getElem? hrc')
        rw [z j hj c hck]
        by_cases hjd : j < s.d
        · rw [same j hjd]
          exact g.one r c hrc' j (by omega)
        · rw [below j (by omega) (by omega) c hck, if_neg]
          have := g.dl
          omega
      · rw [List.getElem?_append_right (by omega)] at hrc'
        have hr0 : r - s.S.length = 0 := by
          refine Nat.eq_zero_of_not_pos fun q => ?_
          rw [List.getElem?_eq_none (by simp; omega)] at hrc'
          cases hrc'
        rw [hr0] at hrc'
        simp at hrc'
        subst hrc'
        have : r = s.d := by have := g.dl; omega
        rw [this]
        exact colk j hj
    · have h2' : j < R1.length := by rw [len_clr] at h2; exact h2
      have h1' : s.d + 1 ≤ j := h1
      by_cases e : c = k
      · rw [e, colk j h2', if_neg (by omega)]
      · rw [z j h2' c (by omega)]
        exact below j (by omega) (by omega) c (by omega)
    · have hrc' : (s.S ++ [k])[r]? = some c := hrc
      by_cases hr : r < s.S.length
      · rw [List.getElem?_append_left hr] at hrc'
        have hck : c < k := g.lt c (List.mem_of_getElem? hrc')
        have hrd : r < s.d := by have := g.dl; omega
        rw [z r (by omega) j (by omega), same r hrd]
        exact g.pre r c hrc' j hj
      · rw [List.getElem?_append_right (by omega)] at hrc'
        have hr0 : r - s.S.length = 0 := by
          refine Nat.eq_zero_of_not_pos fun q => ?_
          rw [List.getElem?_eq_none (by simp; omega)] at hrc'
          cases hrc'
        rw [hr0] at hrc'
        simp at hrc'
        subst hrc'
        have : r = s.d := by have := g.dl; omega
        rw [this, z s.d (by omega) j hj]
        exact below s.d (Nat.le_refl _) hdl j hj
theorem good_red {p : Int} {n : Nat} {M : Mx} (hp : 1 < p) (hI : HasInv p) (w : WF p n M) : ∀ k, Good p n k (red p M k)
  | 0 => good_start w
  | k + 1 => good_step hp hI (good_red hp hI w k)
theorem len_red {p : Int} {M : Mx} : ∀ k, (red p M k).R.length = M.length
  | 0 => rfl
  | k + 1 => by
    show (stp p (red p M k) k).R.length = _
    unfold stp
    cases pv (red p M k).R (red p M k).d k with
    | none => exact len_red k
    | some i => show (clr _ _ _ _ _).length = _; rw [len_clr, len_swp]; exact len_red k
end Own


namespace Own
/-! ### what rows make nought -/
def sumTo (f : Nat → Int) : Nat → Int
  | 0 => 0
  | n + 1 => sumTo f n + f n
def dot (n : Nat) (u v : Ro) : Int := sumTo (fun k => nth u k * nth v k) n
theorem sumTo_congr {f g : Nat → Int} : ∀ {n : Nat}, (∀ k, k < n → f k = g k) → sumTo f n = sumTo g n
  | 0, _ => rfl
  | n + 1, h => by
    show sumTo f n + f n = sumTo g n + g n
    rw [sumTo_congr fun k hk => h k (by omega), h n (by omega)]
theorem sumTo_mul {f : Nat → Int} {c : Int} : ∀ {n : Nat}, sumTo (fun k => c * f k) n = c * sumTo f n
  | 0 => by simp [sumTo]
  | n + 1 => by
    show sumTo _ n + c * f n = c * (sumTo f n + f n)
    rw [sumTo_mul, Int.mul_add]
theorem sumTo_sub {f g : Nat → Int} : ∀ {n : Nat}, sumTo (fun k => f k - g k) n = sumTo f n - sumTo g n
  | 0 => rfl
  | n + 1 => by
    show sumTo _ n + (f n - g n) = sumTo f n + f n - (sumTo g n + g n)
    rw [sumTo_sub]; omega
theorem sumTo_dvd {p : Int} {f : Nat → Int} : ∀ {n : Nat}, (∀ k, k < n → p ∣ f k) → p ∣ sumTo f n
  | 0, _ => Int.dvd_zero p
  | n + 1, h => Int.dvd_add (sumTo_dvd fun k hk => h k (by omega)) (h n (by omega))
theorem sumTo_near {p : Int} {f g : Nat → Int} {n : Nat} (h : ∀ k, k < n → p ∣ f k - g k) : p ∣ sumTo f n - sumTo g n := by
  rw [← sumTo_sub]; exact sumTo_dvd h
theorem sumTo_zero : ∀ {n : Nat} {f : Nat → Int}, (∀ k, k < n → f k = 0) → sumTo f n = 0
  | 0, _, _ => rfl
  | n + 1, f, h => by
    show sumTo f n + f n = 0
    rw [sumTo_zero fun k hk => h k (by omega), h n (by omega)]; rfl
theorem sumTo_upd {f g : Nat → Int} {i : Nat} : ∀ {n : Nat}, (∀ k, k < n → k ≠ i → g k = f k) → i < n → sumTo g n = sumTo f n + (g i - f i)
  | n + 1, h, hi => by
    show sumTo g n + g n = sumTo f n + f n + (g i - f i)
    by_cases e : i = n
    · subst e
      rw [sumTo_congr fun k hk => h k (by omega) (by omega)]; omega
    · rw [sumTo_upd (fun k hk => h k (by omega)) (by omega), h n (by omega) (fun z => e z.symm)]; omega
theorem dot_comm {n : Nat} {u v : Ro} : dot n u v = dot n v u := sumTo_congr fun k _ => Int.mul_comm _ _
theorem near_mod {p x : Int} : p ∣ x % p - x := by
  rw [Int.emod_def]
  exact ⟨-(x / p), by rw [Int.mul_neg]; omega⟩
theorem near_mul {p x y z : Int} (h : p ∣ x - y) : p ∣ x * z - y * z := by
  rw [← Int.sub_mul]; exact Int.dvd_mul_of_dvd_left h
theorem dot_scl {p b : Int} {n : Nat} {r x : Ro} : p ∣ dot n (scl p b r) x - b * dot n r x := by
  unfold dot
  rw [← sumTo_mul]
  refine sumTo_near fun k _ => ?_
  rw [nth_scl, ← Int.mul_assoc]
  exact near_mul near_mod
theorem dot_led {p f : Int} {n : Nat} {r c x : Ro} (h : r.length = c.length) : p ∣ dot n (led p f r c) x - (dot n r x - f * dot n c x) := by
  unfold dot
  rw [← sumTo_mul, ← sumTo_sub]
  refine sumTo_near fun k _ => ?_
  rw [nth_led h, ← Int.mul_assoc, ← Int.sub_mul]
  exact near_mul near_mod
/-- all rows make x nought -/
def Kil (p : Int) (n : Nat) (R : Mx) (x : Ro) : Prop := ∀ i, i < R.length → p ∣ dot n (row R i) x
theorem kil_swp {p : Int} {n : Nat} {R : Mx} {x : Ro} {i j : Nat} (hi : i < R.length) (hj : j < R.length) : Kil p n (swp R i j) x ↔ Kil p n R x := by
  have f : ∀ {R : Mx} {i j : Nat}, i < R.length → j < R.length → Kil p n R x → Kil p n (swp R i j) x := fun hi hj k m hm => by
    rw [len_swp] at hm
    rw [row_swp hi hj]
    split
    · exact k _ hi
    · split
      · exact k _ hj
      · exact k _ hm
  refine ⟨fun k m hm => ?_, f hi hj⟩
  by_cases e1 : m = i
  · have := k j (by rw [len_swp]; exact hj)
    rw [row_swp hi hj, if_pos rfl] at this
    rw [e1]; exact this
  · by_cases e2 : m = j
    · have := k i (by rw [len_swp]; exact hi)
      rw [row_swp hi hj] at this
      by_cases e3 : i = j
      · omega
      · rw [if_neg e3, if_pos rfl] at this
        rw [e2]; exact this
    · have := k m (by rw [len_swp]; exact hm)
      rwa [row_swp hi hj, if_neg e2, if_neg e1] at this
theorem dvd_of_near {p x y : Int} (h : p ∣ x - y) (k : p ∣ y) : p ∣ x := by
  have := Int.dvd_add h k
  rwa [Int.sub_add_cancel] at this
theorem dvd_of_near' {p x y : Int} (h : p ∣ x - y) (k : p ∣ x) : p ∣ y := by
  have := Int.dvd_sub k h
  rwa [Int.sub_sub_self] at this
theorem kil_clr {p b : Int} {n k d : Nat} {R : Mx} {x : Ro} (w : WF p n R) (hd : d < R.length) (h : Kil p n R x) : Kil p n (clr p b R d k) x := fun m hm => by
  rw [len_clr] at hm
  rw [row_clr hm]
  have c : p ∣ dot n (scl p b (row R d)) x := dvd_of_near dot_scl (Int.dvd_mul_of_dvd_right (h d hd))
  split
  · exact c
  · exact dvd_of_near (dot_led (by rw [len_scl, (wf_row w hd).1, (wf_row w hm).1])) (Int.dvd_sub (h m hm) (Int.dvd_mul_of_dvd_right c))
theorem kil_clr' {p b : Int} {n k d : Nat} {R : Mx} {x : Ro} (w : WF p n R) (hd : d < R.length) (I : p ∣ ent R d k * b - 1) (h : Kil p n (clr p b R d k) x) : Kil p n R x := fun m hm => by
  have c : p ∣ dot n (scl p b (row R d)) x := by
    have := h d (by rw [len_clr]; exact hd)
    rwa [row_clr hd, if_pos rfl] at this
  by_cases e : m = d
  · rw [e]
    have h1 : p ∣ b * dot n (row R d) x := dvd_of_near' dot_scl c
    have h2 : p ∣ ent R d k * (b * dot n (row R d) x) := Int.dvd_mul_of_dvd_right h1
    have h3 := near_mul (z := dot n (row R d) x) I
    rw [Int.one_mul, Int.mul_assoc] at h3
    exact dvd_of_near' h3 h2
  · have h1 := h m (by rw [len_clr]; exact hm)
    rw [row_clr hm, if_neg e] at h1
    have h2 := dvd_of_near' (dot_led (by rw [len_scl, (wf_row w hd).1, (wf_row w hm).1])) h1
    have h3 := Int.dvd_add h2 (Int.dvd_mul_of_dvd_right (b := ent R m k) c)
    rwa [Int.sub_add_cancel] at h3
theorem kil_stp {p : Int} {n k : Nat} {s : Sta} {x : Ro} (hp : 1 < p) (hI : HasInv p) (g : Good p n k s) : Kil p n (stp p s k).R x ↔ Kil p n s.R x := by
  unfold stp
  cases h : pv s.R s.d k with
  | none => exact Iff.rfl
  | some i =>
    obtain ⟨hi, hd, hne⟩ := pv_some h
    have hdl : s.d < s.R.length := by omega
    have w1 := wf_swp g.wf hdl hi
    have a0 : ent (swp s.R s.d i) s.d k ≠ 0 := by
      unfold ent
      rw [row_swp hdl hi]
      split
      · rename_i z; rw [← z] at hne; exact hne
      · rw [if_pos rfl]; exact hne
    have ab := wf_nth w1 (by omega) s.d k
    have I := inv_is (Classical.choose_spec (hI _ (by omega) ab.2))
    show Kil p n (clr p (inv p (ent (swp s.R s.d i) s.d k)) (swp s.R s.d i) s.d k) x ↔ _
    have hd' : s.d < (swp s.R s.d i).length := by rw [len_swp]; exact hdl
    exact ⟨fun q => (kil_swp hdl hi).mp (kil_clr' w1 hd' I.2.2 q), fun q => kil_clr w1 hd' ((kil_swp hdl hi).mpr q)⟩
theorem kil_red {p : Int} {n : Nat} {M : Mx} {x : Ro} (hp : 1 < p) (hI : HasInv p) (w : WF p n M) : ∀ k, Kil p n (red p M k).R x ↔ Kil p n M x
  | 0 => Iff.rfl
  | k + 1 => (kil_stp hp hI (good_red hp hI w k)).trans (kil_red hp hI w k)
/-! the rows of the kernel -/
def vecT (p : Int) (R : Mx) (S : List Nat) (n f : Nat) : Nat → Ro
  | 0 => (List.replicate n (0 : Int)).set f 1
  | t + 1 => (vecT p R S n f t).set (S.getD t 0) (-(ent R t f) % p)
def frees (n : Nat) (S : List Nat) : List Nat := (List.range n).filter fun k => !decide (k ∈ S)
noncomputable def kerM (p : Int) (M : Mx) (n : Nat) : Mx := (frees n (red p M n).S).map fun f => vecT p (red p M n).R (red p M n).S n f (red p M n).d
noncomputable def ker (p : Int) (M : Mx) (n : Nat) : Mx := (red p (kerM p M n) n).R.take (red p (kerM p M n) n).d
theorem len_vecT {p : Int} {R : Mx} {S : List Nat} {n f : Nat} : ∀ t, (vecT p R S n f t).length = n
  | 0 => by simp [vecT]
  | t + 1 => by simp [vecT, len_vecT t]
theorem nth_set {r : Ro} {i j : Nat} {y : Int} (h : i < r.length) : nth (r.set i y) j = if j = i then y else nth r j := by
  unfold nth
  rw [List.getD_eq_getElem?_getD, List.getD_eq_getElem?_getD, List.getElem?_set]
  by_cases e : i = j
  · subst e; simp [h]
  · simp [e, Ne.symm e]
theorem wf_vecT {p : Int} (hp : 1 < p) {R : Mx} {S : List Nat} {n f : Nat} : ∀ t, ∀ x ∈ vecT p R S n f t, 0 ≤ x ∧ x < p
  | 0 => fun x hx => by
    rcases List.mem_or_eq_of_mem_set hx with q | q
    · rw [(List.mem_replicate.mp q).2]; omega
    · omega
  | t + 1 => fun x hx => by
    rcases List.mem_or_eq_of_mem_set hx with q | q
    · exact wf_vecT hp t x q
    · rw [q]; exact ⟨Int.emod_nonneg _ (by omega), Int.emod_lt_of_pos _ (by omega)⟩
theorem wf_kerM {p : Int} (hp : 1 < p) {M : Mx} {n : Nat} : WF p n (kerM p M n) := fun r hr => by
  obtain ⟨f, _, rfl⟩ := List.mem_map.mp hr
  exact ⟨len_vecT _, wf_vecT hp _⟩
theorem S_at {S : List Nat} {t : Nat} (h : t < S.length) : S[t]? = some (S.getD t 0) := by rw [getD_lt h, List.getElem?_eq_getElem h]
theorem vec_kil {p : Int} {n : Nat} {s : Sta} {f : Nat} (g : Good p n n s) (hf : f < n) (hS : f ∉ s.S) : Kil p n s.R (vecT p s.R s.S n f s.d) := by
  have inj : ∀ a b, a < s.d → b < s.d → s.S.getD a 0 = s.S.getD b 0 → a = b := fun a b ha hb e => by
    have dl := g.dl
    have h1 := S_at (S := s.S) (t := a) (by omega)
    have h2 := S_at (S := s.S) (t := b) (by omega)
    have q1 := g.one a _ h1 a (by have := g.dr; omega)
    have q2 := g.one b _ h2 a (by have := g.dr; omega)
    rw [← e, q1, if_pos rfl] at q2
    by_cases z : a = b
    · exact z
    · rw [if_neg z] at q2; cases q2
  have nf : ∀ a, a < s.d → s.S.getD a 0 ≠ f := fun a ha e => hS (by rw [← e]; exact List.mem_of_getElem? (S_at (by have := g.dl; omega)))
  have Sn : ∀ a, a < s.d → s.S.getD a 0 < n := fun a ha => g.lt _ (List.mem_of_getElem? (S_at (by have := g.dl; omega)))
  -- the places that are still nought
  have z : ∀ t, t ≤ s.d → ∀ a, t ≤ a → a < s.d → nth (vecT p s.R s.S n f t) (s.S.getD a 0) = 0 := by
    intro t
    induction t with
    | zero =>
      intro _ a _ ha
      show nth ((List.replicate n (0 : Int)).set f 1) _ = 0
      rw [nth_set (by simpa using hf), if_neg (nf a ha)]
      unfold nth
      rw [List.getD_eq_getElem?_getD, List.getElem?_replicate]
      split <;> rfl
    | succ t ih =>
      intro ht a h1 h2
      show nth ((vecT p s.R s.S n f t).set _ _) _ = 0
      rw [nth_set (by rw [len_vecT]; exact Sn t (by omega)), if_neg (fun e => by have := inj a t h2 (by omega) e; omega)]
      exact ih (by omega) a (by omega) h2
  have main : ∀ i, i < s.R.length → ∀ t, t ≤ s.d → dot n (row s.R i) (vecT p s.R s.S n f t) = ent s.R i f + if i < t then -(ent s.R i f) % p else 0 := by
    intro i hi t
    induction t with
    | zero =>
      intro _
      rw [if_neg (Nat.not_lt_zero _), Int.add_zero]
      have e0 : dot n (row s.R i) (List.replicate n (0 : Int)) = 0 := sumTo_zero fun k hk => by
        have : nth (List.replicate n (0 : Int)) k = 0 := by
          unfold nth
          rw [List.getD_eq_getElem?_getD, List.getElem?_replicate]
          split <;> rfl
        rw [this, Int.mul_zero]
      have e1 : dot n (row s.R i) ((List.replicate n (0 : Int)).set f 1) = _ := sumTo_upd (f := fun k => nth (row s.R i) k * nth (List.replicate n (0 : Int)) k) (i := f) (fun k hk hne => by
        show nth (row s.R i) k * nth ((List.replicate n (0 : Int)).set f 1) k = _
        rw [nth_set (by simpa using hf), if_neg hne]) hf
      show dot n (row s.R i) ((List.replicate n (0 : Int)).set f 1) = _
      rw [e1]
      show dot n (row s.R i) (List.replicate n (0 : Int)) + (nth (row s.R i) f * nth ((List.replicate n (0 : Int)).set f 1) f - nth (row s.R i) f * nth (List.replicate n (0 : Int)) f) = _
      have : nth (List.replicate n (0 : Int)) f = 0 := by
        unfold nth
        rw [List.getD_eq_getElem?_getD, List.getElem?_replicate]
        split <;> rfl
      rw [e0, nth_set (by simpa using hf), if_pos rfl, this]
      unfold ent
      omega
    | succ t ih =>
      intro ht
      have h0 := ih (by omega)
      have hS := S_at (S := s.S) (t := t) (by have := g.dl; omega)
      have e1 : dot n (row s.R i) ((vecT p s.R s.S n f t).set (s.S.getD t 0) (-(ent s.R t f) % p)) = _ := sumTo_upd (f := fun k => nth (row s.R i) k * nth (vecT p s.R s.S n f t) k) (i := s.S.getD t 0) (fun k hk hne => by
        show nth (row s.R i) k * nth ((vecT p s.R s.S n f t).set _ _) k = _
        rw [nth_set (by rw [len_vecT]; exact Sn t (by omega)), if_neg hne]) (Sn t (by omega))
      show dot n (row s.R i) ((vecT p s.R s.S n f t).set (s.S.getD t 0) (-(ent s.R t f) % p)) = _
      rw [e1]
      show dot n (row s.R i) (vecT p s.R s.S n f t) + (ent s.R i (s.S.getD t 0) * nth ((vecT p s.R s.S n f t).set _ _) (s.S.getD t 0) - ent s.R i (s.S.getD t 0) * nth (vecT p s.R s.S n f t) (s.S.getD t 0)) = _
      rw [h0, nth_set (by rw [len_vecT]; exact Sn t (by omega)), if_pos rfl, z t (by omega) t (Nat.le_refl _) (by omega), g.one t _ hS i hi]
      by_cases e : i = t
      · subst e
        rw [if_pos rfl, if_neg (Nat.lt_irrefl _), if_pos (Nat.lt_succ_self _)]; omega
      · rw [if_neg e]
        by_cases c : i < t
        · rw [if_pos c, if_pos (by omega)]; omega
        · rw [if_neg c, if_neg (by omega)]; omega
  intro i hi
  rw [main i hi s.d (Nat.le_refl _)]
  by_cases c : i < s.d
  · rw [if_pos c]
    have := near_mod (p := p) (x := -(ent s.R i f))
    rw [show ent s.R i f + -(ent s.R i f) % p = -(ent s.R i f) % p - -(ent s.R i f) by omega]
    exact this
  · rw [if_neg c, g.low i (by omega) hi f hf]
    exact Int.dvd_zero p
/-- the kernel's rows are made nought by the matrix -/
theorem ker_kil {p : Int} {n : Nat} {M : Mx} (hp : 1 < p) (hI : HasInv p) (w : WF p n M) {v m : Ro} (hv : v ∈ ker p M n) (hm : m ∈ M) : p ∣ dot n m v := by
  obtain ⟨j, hj, ej⟩ := mem_row hm
  have h1 : Kil p n (kerM p M n) m := fun i hi => by
    obtain ⟨f, hf, e⟩ := List.mem_map.mp (row_mem hi)
    have e : _ = row (kerM p M n) i := e
    rw [← e, dot_comm, ← ej]
    obtain ⟨f1, f2⟩ := List.mem_filter.mp hf
    exact (kil_red hp hI w n).mp (vec_kil (good_red hp hI w n) (List.mem_range.mp f1) (by simpa using f2)) j hj
  have h2 := (kil_red hp hI (wf_kerM hp (M := M)) n).mpr h1
  obtain ⟨i, hi, ei⟩ := mem_row (List.mem_of_mem_take hv)
  rw [← ei, dot_comm]
  exact h2 i hi
end Own


namespace Own
open PySem PySem.Spec PyProof.Rows L2
open Evl
/-! ### a list or a tuple, whatever it is -/
def SqA (K : PySem.W.Frag) (H : Hp) (a : Addr) (xs : List V) : Prop := SqL K H a xs ∨ SqT K H a xs
def iSeq (K : PySem.W.Frag) (te : TE) : TI := fun σ H R => iList K te σ H R ∨ iTup K te σ H R
theorem pi_seq {X : Cx} {tg e : Expr} {te : TE} (h : PE X e te) : PI X tg e (iSeq X.K te) := ⟨fun pins s σ H R I w => by
  rcases w with w | w
  · exact (pi_list h).run pins s σ H R I w
  · exact (pi_tup h).run pins s σ H R I w⟩
end Own
namespace Own
open PySem PySem.Spec PyProof.Rows L2
open Evl
section
variable {K : PySem.W.Frag} {σ : L2.St} {H H' : Hp} {te ta tb : TE} {x y z w : V} {D : Ends} {tz tu t : TS}
theorem s_par {i j : Nat} {ta : TA} (h : EvA ta σ H [x, y]) (k : ∀ H1, Ex H H1 → D.nx ((σ.set i (some x)).set j (some y)) H1) : tPar i j ta D σ H :=
  h H (.refl H) _ fun H1 e => ⟨x, y, rfl, k H1 e⟩
theorem q_par {i j : Nat} {ta : TA} (h : EvA ta σ H [x, y]) (k : ∀ H1, Ex H H1 → tz D ((σ.set i (some x)).set j (some y)) H1) : tSeq (tPar i j ta) tz D σ H := s_par (D := { D with nx := tz D }) h k
/-- a, b, c, d = .. -/
theorem s_tup4 {i j l m : Nat} {ta : TA} (h : EvA ta σ H [x, y, z, w]) (k : ∀ H1, Ex H H1 → D.nx ((((σ.set i (some x)).set j (some y)).set l (some z)).set m (some w)) H1) :
    tAsg (tTup ta) (gTup K 4 (gCons (gName i) (gCons (gName j) (gCons (gName l) (gCons (gName m) gNil))))) D σ H :=
  h H (.refl H) _ fun H1 e => ⟨by show 4 ≤ sizeLine; decide, fun p np => ⟨p, _, rfl, st_of upd_same, rfl, x, _, rfl, y, _, rfl, z, _, rfl, w, _, rfl, rfl, k _ (e.trans (Ex.new np))⟩⟩
theorem q_tup4 {i j l m : Nat} {ta : TA} (h : EvA ta σ H [x, y, z, w]) (k : ∀ H1, Ex H H1 → tz D ((((σ.set i (some x)).set j (some y)).set l (some z)).set m (some w)) H1) :
    tSeq (tAsg (tTup ta) (gTup K 4 (gCons (gName i) (gCons (gName j) (gCons (gName l) (gCons (gName m) gNil)))))) tz D σ H := s_tup4 (D := { D with nx := tz D }) h k
theorem ea_4 {tc td : TE} (h : Ev ta σ H x) (h2 : Ev tb σ H y) (h3 : Ev tc σ H z) (h4 : Ev td σ H w) : EvA (tCons ta (tCons tb (tCons tc (tCons td tNil)))) σ H [x, y, z, w] := ea_cons h (ea_3 h2 h3 h4)
theorem ev_gtV {i j : Int} (ha : Ev ta σ H (.int i)) (hb : Ev tb σ H (.int j)) : Ev (tOp rGtI ta tb) σ H (.bl (decide (j < i))) := ev_op ha hb rv_I0
/-- a, b = .. by a tuple -/
theorem s_tup2 {i j : Nat} {ta : TA} (h : EvA ta σ H [x, y]) (k : ∀ H1, Ex H H1 → D.nx ((σ.set i (some x)).set j (some y)) H1) : tAsg (tTup ta) (gTup K 2 (gCons (gName i) (gCons (gName j) gNil))) D σ H :=
  h H (.refl H) _ fun H1 e => ⟨by show 2 ≤ sizeLine; decide, fun p np => ⟨p, _, rfl, st_of upd_same, rfl, x, _, rfl, y, _, rfl, rfl, k _ (e.trans (Ex.new np))⟩⟩
theorem q_tup2 {i j : Nat} {ta : TA} (h : EvA ta σ H [x, y]) (k : ∀ H1, Ex H H1 → tz D ((σ.set i (some x)).set j (some y)) H1) : tSeq (tAsg (tTup ta) (gTup K 2 (gCons (gName i) (gCons (gName j) gNil)))) tz D σ H := s_tup2 (D := { D with nx := tz D }) h k
theorem ints_at {r : Ro} {i : Nat} (h : i < r.length) : (r.map V.int)[i]? = some (.int (nth r i)) := by
  unfold nth
  rw [getD_lt h, List.getElem?_map, List.getElem?_eq_getElem h]
  rfl
theorem ints_atI {r : Ro} {i : Nat} (h : i < r.length) : atI (r.map V.int) (i : Int) = some (.int (nth r i)) := atI_nat (ints_at h)
theorem row_range {r : Ro} {n : Nat} {f : Nat → Int} (hl : r.length = n) (h : ∀ i, i < n → f i = nth r i) : (List.range n).map (fun i => V.int (f i)) = r.map V.int := by
  apply List.ext_getElem?
  intro i
  by_cases c : i < n
  · rw [ints_at (by omega), List.getElem?_map, List.getElem?_range c]
    show some (V.int (f i)) = _
    rw [h i c]
  · rw [List.getElem?_eq_none (by simp; omega), List.getElem?_eq_none (by simp; omega)]
end
end Own


namespace Own
open PySem PySem.Spec PyProof.Rows L2
open Evl
/-! ### matrices: a list of lists that may change, a tuple of tuples, any lot of lots -/
def MLr (l : Addr) (refs : List Addr) (R : Mx) (H : Hp) : Prop := H l = some (.lst (refs.map V.ref)) ∧ refs.length = R.length ∧ ∀ i b, refs[i]? = some b → b ≠ l ∧ H b = some (.lst ((row R i).map V.int))
def MT (K : PySem.W.Frag) (t : Addr) (M : Mx) (H : Hp) : Prop := ∃ refs : List Addr, SqT K H t (refs.map V.ref) ∧ refs.length = M.length ∧ ∀ i b, refs[i]? = some b → SqT K H b ((row M i).map V.int)
def MS (K : PySem.W.Frag) (m : Addr) (M : Mx) (H : Hp) : Prop := ∃ refs : List Addr, SqA K H m (refs.map V.ref) ∧ refs.length = M.length ∧ ∀ i b, refs[i]? = some b → SqA K H b ((row M i).map V.int)
def ExB (l : Addr) (H H' : Hp) : Prop := ∀ b o, b ≠ l → H b = some o → H' b = some o
theorem ExB.ex {l : Addr} {H H' : Hp} (e : Ex H H') : ExB l H H' := fun b o _ h => e b o h
theorem ExB.trans {l : Addr} {H H1 H2 : Hp} (x : ExB l H H1) (y : ExB l H1 H2) : ExB l H H2 := fun b o n h => y b o n (x b o n h)
theorem ExB.upd {l : Addr} {H : Hp} {o : HO} : ExB l H (upd H l o) := fun b u n h => by rw [upd_ne n]; exact h
theorem ExB.to {l : Addr} {H0 H H' : Hp} (n : H0 l = none) (e : Ex H0 H) (x : ExB l H H') : Ex H0 H' := fun b o h => x b o (ne_of_none h n) (e b o h)
section
variable {K : PySem.W.Frag} {σ : L2.St} {H H' : Hp} {te ta tb tl : TE} {x y z w : V} {D : Ends} {tz tu t : TS} {R M : Mx} {l m : Addr} {refs : List Addr}
theorem ex_a {a : Addr} {xs : List V} (e : Ex H H') (h : SqA K H a xs) : SqA K H' a xs := h.imp (ex_l e) (ex_t e)
theorem MLr.ex (e : Ex H H') (h : MLr l refs R H) : MLr l refs R H' := ⟨e _ _ h.1, h.2.1, fun i b hb => ⟨(h.2.2 i b hb).1, e _ _ (h.2.2 i b hb).2⟩⟩
theorem MT.ex (e : Ex H H') (h : MT K m M H) : MT K m M H' := let ⟨r, h1, h2, h3⟩ := h; ⟨r, ex_t e h1, h2, fun i b hb => ex_t e (h3 i b hb)⟩
theorem MS.ex (e : Ex H H') (h : MS K m M H) : MS K m M H' := let ⟨r, h1, h2, h3⟩ := h; ⟨r, ex_a e h1, h2, fun i b hb => ex_a e (h3 i b hb)⟩
theorem MT.ms (h : MT K m M H) : MS K m M H := let ⟨r, h1, h2, h3⟩ := h; ⟨r, .inr h1, h2, fun i b hb => .inr (h3 i b hb)⟩
theorem MLr.ms (h : MLr l refs R H) : MS K l R H := ⟨refs, .inl (sq_of h.1), h.2.1, fun i b hb => .inl (sq_of (h.2.2 i b hb).2)⟩
theorem MLr.at (h : MLr l refs R H) {i : Nat} (hi : i < R.length) : ∃ b, refs[i]? = some b ∧ b ≠ l ∧ H b = some (.lst ((row R i).map V.int)) := by
  have : i < refs.length := by rw [h.2.1]; exact hi
  exact ⟨refs[i], List.getElem?_eq_getElem this, h.2.2 i _ (List.getElem?_eq_getElem this)⟩
theorem refs_at {i : Nat} {b : Addr} (h : refs[i]? = some b) : (refs.map V.ref)[i]? = some (.ref b) := by rw [List.getElem?_map, h]; rfl
theorem ev_row {i : Nat} {b : Addr} (hl : Ev ta σ H (.ref l)) (hi : Ev tb σ H (.int (i : Int))) (h : MLr l refs R H) (hb : refs[i]? = some b) : Ev (tOp (rIxL K) ta tb) σ H (.ref b) :=
  ev_ixL hl hi (sq_of h.1) (atI_nat (refs_at hb))
theorem ev_ent {i k : Nat} {tc : TE} (hl : Ev ta σ H (.ref l)) (hi : Ev tb σ H (.int (i : Int))) (hk : Ev tc σ H (.int (k : Int))) (h : MLr l refs R H) (h1 : i < R.length) (h2 : k < (row R i).length) :
    Ev (tOp (rIxL K) (tOp (rIxL K) ta tb) tc) σ H (.int (ent R i k)) := by
  obtain ⟨b, hb, _, hx⟩ := h.at h1
  exact ev_ixL (ev_row hl hi h hb) hk (sq_of hx) (ints_atI h2)
theorem MLr.set {i : Nat} {b : Addr} {r : Ro} (h : MLr l refs R H) (hi : i < R.length) (nb : b ≠ l) (hb : H b = some (.lst (r.map V.int))) : MLr l (refs.set i b) (R.set i r) (upd H l (.lst ((refs.map V.ref).set i (.ref b)))) := by
  refine ⟨by rw [upd_same, List.map_set], by simp [h.2.1], fun j c hc => ?_⟩
  rw [List.getElem?_set] at hc
  rw [row_set hi]
  by_cases e : i = j
  · subst e
    rw [if_pos rfl, if_pos (by rw [h.2.1]; exact hi)] at hc
    injection hc with hc
    subst hc
    exact ⟨nb, by rw [upd_ne nb, if_pos rfl]; exact hb⟩
  · rw [if_neg e] at hc
    rw [if_neg (Ne.symm e)]
    obtain ⟨n1, h1⟩ := h.2.2 j c hc
    exact ⟨n1, by rw [upd_ne n1]; exact h1⟩
theorem pv_found {d k i : Nat} (h1 : i < R.length) (h2 : d ≤ i) (h3 : ent R i k ≠ 0) (h4 : ∀ j, d ≤ j → j < i → ent R j k = 0) : pv R d k = some i := by
  unfold pv
  rw [List.find?_range_eq_some]
  refine ⟨by simp [h2, h3], List.mem_range.mpr h1, fun j hj => ?_⟩
  by_cases c : d ≤ j
  · simp [h4 j c hj]
  · simp [c]
theorem pv_not {d k : Nat} (h : ∀ j, d ≤ j → j < R.length → ent R j k = 0) : pv R d k = none := by
  cases e : pv R d k with
  | none => rfl
  | some i =>
    obtain ⟨h1, h2, h3⟩ := pv_some e
    exact absurd (h i h2 h1) h3
/-- l[j] = a new list -/
theorem s_setLL {xs ys : List V} {j : Nat} (hl : H l = some (.lst xs)) (h : EvL te σ H ys) (ho : ∀ H1, Ex H H1 → Ev ta σ H1 (.ref l)) (hi : ∀ H1, Ex H H1 → Ev tb σ H1 (.int (j : Int))) (hj : j < xs.length)
    (k : ∀ p H1, H p = none → Ex H H1 → H1 p = some (.lst ys) → D.nx σ (upd H1 l (.lst (xs.set j (.ref p))))) : tAsg te (gSub ta tb rSetL) D σ H :=
  h H (.refl H) _ fun p H1 hp e hx => ho H1 e H1 (.refl H1) _ fun H2 e2 => hi H2 (e.trans e2) H2 (.refl H2) _ fun H3 e3 => ⟨l, xs, (j : Int), j, rfl, rfl, ((e.trans e2).trans e3) l _ hl, ixN_nat hj, k p H3 hp ((e.trans e2).trans e3) (e3 p _ (e2 p _ hx))⟩
/-- swapping two rows -/
theorem s_swap {i d : Nat} {bi bd : Addr} (h : MLr l refs R H) (hi : i < R.length) (hd : d < R.length) (hbi : refs[i]? = some bi) (hbd : refs[d]? = some bd) {s0 s1 : TE}
    (e0 : ∀ H1, Ev s0 σ H1 (.ref l)) (e1 : ∀ H1, Ev s1 σ H1 (.int (d : Int))) {ti : TE} {ta : TA} (ha : EvA ta σ H [.ref bi, .ref bd]) (e3 : ∀ H1, ExB l H H1 → Ev ti σ H1 (.int (i : Int)))
    (k : ∀ refs1 H1, ExB l H H1 → MLr l refs1 (swp R d i) H1 → D.nx σ H1) :
    tAsg (tTup ta) (gTup K 2 (gCons (gSub s0 s1 rSetL) (gCons (gSub s0 ti rSetL) gNil))) D σ H := by
  refine ha H (.refl H) _ fun H1 x1 => ⟨by show 2 ≤ sizeLine; decide, fun p np => ⟨p, _, rfl, st_of upd_same, rfl, _, _, rfl, ?_⟩⟩
  have x2 : Ex H (upd H1 p (.tup [.ref bi, .ref bd])) := x1.trans (Ex.new np)
  generalize upd H1 p (.tup [.ref bi, .ref bd]) = H2 at x2
  refine e0 H2 H2 (.refl H2) _ fun H3 x3 => e1 H3 H3 (.refl H3) _ fun H4 x4 => ?_
  have E4 := (x2.trans x3).trans x4
  have h4 := h.ex E4
  refine ⟨l, _, _, d, rfl, rfl, h4.1, ixN_nat (by rw [List.length_map, h.2.1]; exact hd), ?_⟩
  obtain ⟨ni, hxi⟩ := h4.2.2 i bi hbi
  obtain ⟨nd, hxd⟩ := h4.2.2 d bd hbd
  have h5 := h4.set hd ni hxi
  have b5 : ExB l H (upd H4 l (.lst ((refs.map V.ref).set d (.ref bi)))) := (ExB.ex E4).trans ExB.upd
  have hxd5 : (upd H4 l (.lst ((refs.map V.ref).set d (.ref bi)))) bd = some (.lst ((row R d).map V.int)) := by rw [upd_ne nd]; exact hxd
  generalize upd H4 l (.lst ((refs.map V.ref).set d (.ref bi))) = H5 at h5 b5 hxd5
  refine ⟨_, _, rfl, ?_⟩
  refine e0 H5 H5 (.refl H5) _ fun H6 x6 => ?_
  refine e3 H6 (b5.trans (.ex x6)) H6 (.refl H6) _ fun H7 x7 => ?_
  have E7 := x6.trans x7
  have h7 := h5.ex E7
  refine ⟨l, _, _, i, rfl, rfl, h7.1, ixN_nat (by simp [h.2.1]; exact hi), ?_⟩
  have h8 := h7.set (i := i) (by simpa using hi) nd (E7 _ _ hxd5)
  exact ⟨rfl, k _ _ ((b5.trans (.ex E7)).trans ExB.upd) h8⟩
/-! comprehensions whose items are new lists or tuples -/
def EvH (te : TE) (σ : L2.St) (H : Hp) (o : HO) : Prop := ∀ H1, Ex H H1 → ∀ Q : VK, (∀ p H2, H1 p = none → Ex H1 H2 → H2 p = some o → Q (.ref p) H2) → te σ H1 Q
def EvN (te : TE) (σ : L2.St) (H : Hp) (P : Addr → Hp → Prop) : Prop := ∀ H1, Ex H H1 → ∀ Q : VK, (∀ l H2, H1 l = none → Ex H1 H2 → P l H2 → Q (.ref l) H2) → te σ H1 Q
def LsO (n : Nat) (o : Nat → HO) : Addr → Hp → Prop := fun l H => ∃ refs : List Addr, H l = some (.lst (refs.map V.ref)) ∧ refs.length = n ∧ ∀ i b, refs[i]? = some b → b ≠ l ∧ H b = some (o i)
theorem yesT {A B : Hp → Prop} (h : A H) : tYes σ H fun b H3 => if b = true then A H3 else B H3 := by
  show (if true = true then A H else B H)
  rw [if_pos rfl]
  exact h
theorem lcN {J : It} {n : Nat} {xs : List V} {o : Nat → HO} {j : Nat} {vs : List Nat} {H1 : Hp} {Qd : Addr → Hp → Prop} (G : Hp → Prop) (w : Walk J n G (YAt xs)) (hG : ∀ H', Ex H1 H' → G H') (hn : n ≤ 40000) (hw : ∀ x, wipe ((wipe σ vs).set j (some x)) vs = wipe σ vs)
    (he : ∀ i x H', Ex H1 H' → xs[i]? = some x → i < n → EvH te ((wipe σ vs).set j (some x)) H' (o i)) {Dl : Addr} (hD : H1 Dl = none) (hd : ∀ H', Ex H1 H' → LsO n o Dl H' → Qd Dl H') :
    ∃ W : Nat → Nat → Hp → Prop, (∃ m, W 0 m (upd H1 Dl (.lst []))) ∧ ∀ i m H, W i m H →
      (J.stop i H ∧ Qd Dl H) ∨ (J.go i H ∧ ∃ Nx : Hp → Prop, (∀ H', Nx H' → ∃ m', m' < m ∧ W (i + 1) m' H') ∧ ∀ x H', J.yld i H x H' → gName j x (wipe σ vs) H' fun σ2 H2 => wipe σ2 vs = wipe σ vs ∧ tYes σ2 H2 fun b H3 =>
        if b = true then te σ2 H3 fun y H4 => ∃ acc, H4 Dl = some (.lst acc) ∧ acc.length < sizeLine ∧ Nx (upd H4 Dl (.lst (acc ++ [y]))) else Nx H3) :=
  lc_it w (fun i H' => Ex H1 H' ∧ LsO i o Dl H') ⟨Ex.new hD, [], upd_same, rfl, fun i y h => by simp at h⟩ (fun i H' _ p => hG H' p.1)
    (fun i x H2 H3 hi => by
      rintro ⟨e2, rs, hy, hl, hp⟩ ⟨e3, hx⟩
      subst e3
      refine ⟨hw x, ?_⟩
      refine yesT ?_
      refine he i x H3 e2 hx hi H3 (.refl H3) _ fun p H4 np u4 hpo => ⟨rs.map V.ref, u4 _ _ hy, sz_lt (by rw [List.length_map]; omega), Ex.mut (e2.trans u4) hD, rs ++ [p], by rw [upd_same]; simp, by simp [hl], fun m b hm => ?_⟩
      have npD : p ≠ Dl := fun z => by rw [z, hy] at np; cases np
      by_cases c : m < rs.length
      · rw [List.getElem?_append_left c] at hm
        obtain ⟨n1, h1⟩ := hp m b hm
        exact ⟨n1, by rw [upd_ne n1]; exact u4 _ _ h1⟩
      · rw [List.getElem?_append_right (by omega)] at hm
        have z : m - rs.length = 0 := by
          refine Nat.eq_zero_of_not_pos fun q => ?_
          rw [List.getElem?_eq_none (by simp; omega)] at hm
          cases hm
        rw [z] at hm
        simp at hm
        subst hm
        have : m = i := by omega
        subst this
        exact ⟨npD, by rw [upd_ne npD]; exact hpo⟩)
    (fun H' p => hd H' p.1 p.2)
theorem en_lcT {a : Addr} {xs : List V} {o : Nat → HO} {j : Nat} {vs : List Nat} (h : Ev tl σ H (.ref a)) (hx : SqT K H a xs) (hn : xs.length ≤ 40000) (hw : ∀ x, wipe ((wipe σ vs).set j (some x)) vs = wipe σ vs)
    (he : ∀ i x H', Ex H H' → xs[i]? = some x → i < xs.length → EvH te ((wipe σ vs).set j (some x)) H' (o i)) : EvN (tLc (iTup K tl) (gName j) tYes te vs) σ H (LsO xs.length o) :=
  fun H0 e Q q => h H0 e _ fun H1 e1 => ⟨a, rfl, ⟨xs, ex_t (e.trans e1) hx⟩, fun Dl hD => lcN (Qd := fun l H => Q (.ref l) H) _ walk_tup (fun H' e' => ex_t ((e.trans e1).trans e') hx) hn hw (fun i x H' e' hx hi => he i x H' ((e.trans e1).trans e') hx hi) hD (fun H' e' p => q Dl H' (fresh_back e1 hD) (e1.trans e') p)⟩
theorem en_lcL {a : Addr} {xs : List V} {o : Nat → HO} {j : Nat} {vs : List Nat} (h : Ev tl σ H (.ref a)) (hx : SqL K H a xs) (hn : xs.length ≤ 40000) (hw : ∀ x, wipe ((wipe σ vs).set j (some x)) vs = wipe σ vs)
    (he : ∀ i x H', Ex H H' → xs[i]? = some x → i < xs.length → EvH te ((wipe σ vs).set j (some x)) H' (o i)) : EvN (tLc (iList K tl) (gName j) tYes te vs) σ H (LsO xs.length o) :=
  fun H0 e Q q => h H0 e _ fun H1 e1 => ⟨a, rfl, ⟨xs, ex_l (e.trans e1) hx⟩, fun Dl hD => lcN (Qd := fun l H => Q (.ref l) H) _ walk_list (fun H' e' => ex_l ((e.trans e1).trans e') hx) hn hw (fun i x H' e' hx hi => he i x H' ((e.trans e1).trans e') hx hi) hD (fun H' e' p => q Dl H' (fresh_back e1 hD) (e1.trans e') p)⟩
theorem en_lcS {a : Addr} {xs : List V} {o : Nat → HO} {j : Nat} {vs : List Nat} (h : Ev tl σ H (.ref a)) (hx : SqA K H a xs) (hn : xs.length ≤ 40000) (hw : ∀ x, wipe ((wipe σ vs).set j (some x)) vs = wipe σ vs)
    (he : ∀ i x H', Ex H H' → xs[i]? = some x → i < xs.length → EvH te ((wipe σ vs).set j (some x)) H' (o i)) : EvN (tLc (iSeq K tl) (gName j) tYes te vs) σ H (LsO xs.length o) := fun H0 e Q q => by
  rcases hx with hx | hx
  · exact .inl (en_lcL h hx hn hw he H0 e Q q)
  · exact .inr (en_lcT h hx hn hw he H0 e Q q)
theorem en_lcNL {xs : List V} {o : Nat → HO} {j : Nat} {vs : List Nat} (h : EvL tl σ H xs) (hn : xs.length ≤ 40000) (hw : ∀ x, wipe ((wipe σ vs).set j (some x)) vs = wipe σ vs)
    (he : ∀ i x H', Ex H H' → xs[i]? = some x → i < xs.length → EvH te ((wipe σ vs).set j (some x)) H' (o i)) : EvN (tLc (iList K tl) (gName j) tYes te vs) σ H (LsO xs.length o) :=
  fun H0 e Q q => h H0 e _ fun a H1 ha e1 hx => ⟨a, rfl, ⟨xs, sq_of hx⟩, fun Dl hD => lcN (Qd := fun l H => Q (.ref l) H) _ walk_list (fun H' e' => ex_l e' (sq_of (K := K) hx)) hn hw (fun i x H' e' hx hi => he i x H' ((e.trans e1).trans e') hx hi) hD (fun H' e' p => q Dl H' (fresh_back e1 hD) (e1.trans e') p)⟩
theorem en_lcR {ta : TA} {n : Int} {o : Nat → HO} {j : Nat} {vs : List Nat} (h : EvA ta σ H [.int n]) (hn : 0 ≤ n ∧ n ≤ 40000) (hw : ∀ x, wipe ((wipe σ vs).set j (some x)) vs = wipe σ vs)
    (he : ∀ (i : Nat) H', Ex H H' → (i : Int) < n → EvH te ((wipe σ vs).set j (some (.int (i : Int)))) H' (o i)) : EvN (tLc (iRng1 ta) (gName j) tYes te vs) σ H (LsO n.toNat o) :=
  fun H0 e Q q => h H0 e _ fun H1 e1 => ⟨n, rfl, by omega, by omega, fun Dl hD => by
    have w : Walk (Itr 0 n.toNat) n.toNat (fun _ => True) (YAt ((List.range n.toNat).map fun (i : Nat) => V.int (i : Int))) := walk_range.mono (fun _ h => h) fun i H x H' hi _ y => ⟨y.1, by rw [y.2, List.getElem?_map, List.getElem?_range hi]; show _ = some (V.int ((0 : Int) + (i : Int))); rw [Int.zero_add]; rfl⟩
    exact lcN (Qd := fun l H => Q (.ref l) H) _ w (fun _ _ => trivial) (by omega) hw (fun i x H' e' hx hi => by
      rw [List.getElem?_map, List.getElem?_range hi] at hx
      injection hx with hx
      rw [← hx]
      exact he i H' ((e.trans e1).trans e') (by omega)) hD (fun H' e' p => q Dl H' (fresh_back e1 hD) (e1.trans e') p)⟩
/-- list(a lot) -/
theorem eh_list {a : Addr} {xs : List V} (h : Ev te σ H (.ref a)) (hx : SqA K H a xs) : EvH (tCB (rListOf K) (tCons te tNil)) σ H (.lst xs) :=
  fun H0 e Q q => h H0 e _ fun H1 e1 => ⟨a, xs, rfl, ex_a (e.trans e1) hx, fun l hl => q l _ (fresh_back e1 hl) (e1.trans (Ex.new hl)) upd_same⟩
/-- tuple(a list) -/
theorem eh_tup {a : Addr} {xs : List V} (h : Ev te σ H (.ref a)) (hx : SqL K H a xs) : EvH (tCB (rTupOf K) (tCons te tNil)) σ H (.tup xs) :=
  fun H0 e Q q => h H0 e _ fun H1 e1 => ⟨a, xs, rfl, .inl ⟨ex_l (e.trans e1) hx, fun l hl => q l _ (fresh_back e1 hl) (e1.trans (Ex.new hl)) upd_same⟩⟩
theorem eh_tupN {xs : List V} (h : EvL te σ H xs) : EvH (tCB (rTupOf K) (tCons te tNil)) σ H (.tup xs) :=
  fun H0 e Q q => h H0 e _ fun p H1 hp e1 hx => ⟨p, xs, rfl, .inl ⟨sq_of hx, fun l hl => q l _ (fresh_back e1 hl) (e1.trans (Ex.new hl)) upd_same⟩⟩
/-- tuple(a list of rows) -/
theorem en_tup {n : Nat} {M : Mx} (h : EvN te σ H (LsO n fun i => .tup ((row M i).map V.int))) (hn : n = M.length) : EvN (tCB (rTupOf K) (tCons te tNil)) σ H (fun t H' => MT K t M H') :=
  fun H0 e Q q => h H0 e _ fun l H1 hl e1 ⟨refs, h1, h2, h3⟩ => ⟨l, _, rfl, .inl ⟨sq_of h1, fun t nt => q t _ (fresh_back e1 nt) (e1.trans (Ex.new nt)) ⟨refs, st_of upd_same, by omega, fun i b hb => ex_t (Ex.new nt) (st_of (h3 i b hb).2)⟩⟩⟩
/-- over zip, of numbers told by the turn -/
theorem el_lcZ {t1 t2 : Bool} {ta : TA} {a b : Addr} {xs ys : List V} {i j : Nat} {vs : List Nat} (v : Nat → V) (h : EvA ta σ H [.ref a, .ref b]) (hx : SqB t1 K H a xs) (hy : SqB t2 K H b ys) (hl : xs.length = ys.length) (hn : xs.length ≤ 40000)
    (hw : ∀ x y, wipe (((wipe σ vs).set i (some x)).set j (some y)) vs = wipe σ vs) (sB : ∀ t a xs (H' : Hp), Ex H H' → SqB t K H a xs → SqB t K H' a xs)
    (he : ∀ m x y H1, Ex H H1 → xs[m]? = some x → ys[m]? = some y → Ev te (((wipe σ vs).set i (some x)).set j (some y)) H1 (v m)) : EvL (tLc (iZipB t1 t2 K ta) (gTup K 2 (gCons (gName i) (gCons (gName j) gNil))) tYes te vs) σ H ((List.range xs.length).map v) :=
  fun H0 e Q q => h H0 e _ fun H1 e1 => ⟨a, b, xs, ys, rfl, sB _ _ _ _ (e.trans e1) hx, sB _ _ _ _ (e.trans e1) hy, fun Dl hD =>
    lc_it (n := xs.length) (walk_zipB (by omega)) (fun i H' => H1 Dl = none ∧ Ex H1 H' ∧ H' Dl = some (.lst ((List.range i).map v))) ⟨hD, Ex.new hD, upd_same⟩ (fun m H' _ p => ⟨sB _ _ _ _ ((e.trans e1).trans p.2.1) hx, sB _ _ _ _ ((e.trans e1).trans p.2.1) hy⟩)
      (fun m z H2 H3 hm => by
        rintro ⟨p1, p2, p3⟩ ⟨T, x, y, rfl, hT, rfl, h1, h2⟩
        have nT : Dl ≠ T := fun z => by rw [z, hT] at p3; cases p3
        refine ⟨T, _, rfl, st_of upd_same, rfl, x, _, rfl, y, _, rfl, rfl, hw x y, ?_⟩
        refine yesT ?_
        have e2 : Ex H1 (upd H2 T (.tup [x, y])) := p2.trans (Ex.new hT)
        refine he m x y _ ((e.trans e1).trans e2) h1 h2 _ (.refl _) _ fun H4 e4 => ⟨_, e4 _ _ (by rw [upd_ne nT]; exact p3), sz_lt (by simp; omega), p1, Ex.mut (e2.trans e4) p1, ?_⟩
        rw [upd_same, List.range_succ, List.map_append]
        rfl)
      (fun H' p => q Dl H' (fresh_back e1 p.1) (e1.trans p.2.1) p.2.2)⟩
theorem ex_B {t : Bool} {a : Addr} {xs : List V} (e : Ex H H') (h : SqB t K H a xs) : SqB t K H' a xs := by
  cases t
  · exact ex_l e h
  · exact ex_t e h
theorem q_asgN {i : Nat} {P : Addr → Hp → Prop} (h : EvN te σ H P) (k : ∀ l H1, H l = none → Ex H H1 → P l H1 → tz D (σ.set i (some (.ref l))) H1) : tSeq (tAsg te (gName i)) tz D σ H := h H (.refl H) _ k
theorem s_retN {P : Addr → Hp → Prop} (h : EvN te σ H P) (k : ∀ l H1, H l = none → Ex H H1 → P l H1 → D.rt (.ref l) H1) : tRet te D σ H := h H (.refl H) _ k
end
end Own


namespace Own
open PySem PySem.Spec PyProof.Rows L2
open Evl
section
variable {K : PySem.W.Frag} {σ : L2.St} {H H' : Hp} {te ta tb tl : TE} {x y z w : V} {D : Ends} {tz tu t : TS} {R M : Mx} {l m : Addr} {refs : List Addr}
/-- for i, x in enumerate(xs) -/
theorem s_forE {b : Bool} {ta : TA} {a : Addr} {xs : List V} {i j : Nat} (h : EvA ta σ H [.ref a]) (hx : SqB b K H a xs) (Pv : Nat → L2.St → Hp → Prop) (h0 : ∀ H1, Ex H H1 → Pv 0 σ H1) (hG : ∀ m σ' H', Pv m σ' H' → SqB b K H' a xs)
    (hs : ∀ m x σ' H' H2, xs[m]? = some x → Pv m σ' H' → Ex H' H2 → tu { D with nx := Pv (m + 1), ct := Pv (m + 1), bk := D.nx } ((σ'.set i (some (.int (m : Int)))).set j (some x)) H2) (hd : ∀ σ' H', Pv xs.length σ' H' → D.nx σ' H') :
    tFor (iEnumB b K ta) (gTup K 2 (gCons (gName i) (gCons (gName j) gNil))) tu D σ H :=
  h H (.refl H) _ fun H1 e1 => ⟨a, xs, rfl, ex_B e1 hx, for_it walk_enumB Pv (h0 H1 e1) (fun m σ' H' _ p => hG m σ' H' p)
    (fun m v σ' H2 H3 hm p => by
      rintro ⟨T, x, y, rfl, hT, rfl, h1, h2⟩
      injection h1 with h1
      subst h1
      exact ⟨T, _, rfl, st_of upd_same, rfl, _, _, rfl, y, _, rfl, rfl, hs m y σ' H2 _ h2 p (Ex.new hT)⟩) hd⟩
theorem q_forE {b : Bool} {ta : TA} {a : Addr} {xs : List V} {i j : Nat} (h : EvA ta σ H [.ref a]) (hx : SqB b K H a xs) (Pv : Nat → L2.St → Hp → Prop) (h0 : ∀ H1, Ex H H1 → Pv 0 σ H1) (hG : ∀ m σ' H', Pv m σ' H' → SqB b K H' a xs)
    (hs : ∀ m x σ' H' H2, xs[m]? = some x → Pv m σ' H' → Ex H' H2 → tu { D with nx := Pv (m + 1), ct := Pv (m + 1), bk := tz D } ((σ'.set i (some (.int (m : Int)))).set j (some x)) H2) (hd : ∀ σ' H', Pv xs.length σ' H' → tz D σ' H') :
    tSeq (tFor (iEnumB b K ta) (gTup K 2 (gCons (gName i) (gCons (gName j) gNil))) tu) tz D σ H := s_forE (D := { D with nx := tz D }) h hx Pv h0 hG hs hd
/-- for x, y in zip(xs, ys), of one length -/
theorem s_forZ {b1 b2 : Bool} {ta : TA} {a c : Addr} {xs ys : List V} {i j : Nat} (h : EvA ta σ H [.ref a, .ref c]) (hx : SqB b1 K H a xs) (hy : SqB b2 K H c ys) (hl : xs.length = ys.length) (Pv : Nat → L2.St → Hp → Prop) (h0 : ∀ H1, Ex H H1 → Pv 0 σ H1)
    (hG : ∀ m σ' H', Pv m σ' H' → SqB b1 K H' a xs ∧ SqB b2 K H' c ys)
    (hs : ∀ m x y σ' H' H2, xs[m]? = some x → ys[m]? = some y → Pv m σ' H' → Ex H' H2 → tu { D with nx := Pv (m + 1), ct := Pv (m + 1), bk := D.nx } ((σ'.set i (some x)).set j (some y)) H2) (hd : ∀ σ' H', Pv xs.length σ' H' → D.nx σ' H') :
    tFor (iZipB b1 b2 K ta) (gTup K 2 (gCons (gName i) (gCons (gName j) gNil))) tu D σ H :=
  h H (.refl H) _ fun H1 e1 => ⟨a, c, xs, ys, rfl, ex_B e1 hx, ex_B e1 hy, for_it (walk_zipB (n := xs.length) (by omega)) Pv (h0 H1 e1) (fun m σ' H' _ p => hG m σ' H' p)
    (fun m v σ' H2 H3 hm p => by
      rintro ⟨T, x, y, rfl, hT, rfl, h1, h2⟩
      exact ⟨T, _, rfl, st_of upd_same, rfl, x, _, rfl, y, _, rfl, rfl, hs m x y σ' H2 _ h1 h2 p (Ex.new hT)⟩) hd⟩
theorem q_forZ {b1 b2 : Bool} {ta : TA} {a c : Addr} {xs ys : List V} {i j : Nat} (h : EvA ta σ H [.ref a, .ref c]) (hx : SqB b1 K H a xs) (hy : SqB b2 K H c ys) (hl : xs.length = ys.length) (Pv : Nat → L2.St → Hp → Prop) (h0 : ∀ H1, Ex H H1 → Pv 0 σ H1)
    (hG : ∀ m σ' H', Pv m σ' H' → SqB b1 K H' a xs ∧ SqB b2 K H' c ys)
    (hs : ∀ m x y σ' H' H2, xs[m]? = some x → ys[m]? = some y → Pv m σ' H' → Ex H' H2 → tu { D with nx := Pv (m + 1), ct := Pv (m + 1), bk := tz D } ((σ'.set i (some x)).set j (some y)) H2) (hd : ∀ σ' H', Pv xs.length σ' H' → tz D σ' H') :
    tSeq (tFor (iZipB b1 b2 K ta) (gTup K 2 (gCons (gName i) (gCons (gName j) gNil))) tu) tz D σ H := s_forZ (D := { D with nx := tz D }) h hx hy hl Pv h0 hG hs hd
/-- a call that returns something new -/
def SpN (sp : Sp) (vs : List V) (H : Hp) (P : Addr → Hp → Prop) : Prop := ∀ H1, Ex H H1 → ∀ Q : VK, (∀ l H2, H1 l = none → Ex H1 H2 → P l H2 → Q (.ref l) H2) → ∀ E : XK, sp vs H1 Q E
theorem en_call {sp : Sp} {vs : List V} {E : XK} {ta : TA} {P : Addr → Hp → Prop} (h : EvA ta σ H vs) (hs : SpN sp vs H P) : EvN (tCall sp [] E ta) σ H P := fun H1 e Q q =>
  h H1 e _ fun H2 e2 => by rw [List.append_nil]; exact hs H2 (e.trans e2) Q (fun l H3 hl e3 p => q l H3 (fresh_back e2 hl) (e2.trans e3) p) E
/-- [e] * k -/
theorem rep_one {v : V} : ∀ k : Nat, (List.replicate k [v]).flatten = List.replicate k v
  | 0 => rfl
  | k + 1 => by rw [List.replicate_succ, List.flatten_cons, rep_one k, List.replicate_succ]; rfl
theorem el_rep {v : V} {k : Int} (h : Ev te σ H v) (hk : Ev tb σ H (.int k)) (h0 : 0 ≤ k) (h1 : k ≤ 1000) : EvL (tOp rRep (tLst (tCons te tNil)) tb) σ H (List.replicate k.toNat v) := fun H1 e Q q =>
  (el_lst (ea_1 h) (by show 1 ≤ 100000; decide)) H1 e _ fun p H2 hp e2 hx => hk H2 (e.trans e2) _ fun H3 e3 => ⟨p, k, [v], rfl, rfl, e3 _ _ hx, by omega, by omega, sz_of (by show 1 * k.toNat ≤ 100000; omega), fun r hr => by
    rw [rep_one]
    exact q r _ (fresh_back (e2.trans e3) hr) ((e2.trans e3).trans (Ex.new hr)) upd_same⟩
theorem rep_ints {k : Nat} : List.replicate k (V.int 0) = (List.replicate k (0 : Int)).map V.int := by rw [List.map_replicate]
def ofN (S : List Nat) : List V := S.map fun (s : Nat) => V.int (s : Int)
theorem inV_nat {f : Nat} {S : List Nat} : inV (.int (f : Int)) (ofN S) = decide (f ∈ S) := by
  unfold inV ofN
  induction S with
  | nil => simp
  | cons s S ih =>
    rw [List.map_cons, List.any_cons, ih]
    show (((s : Int) == (f : Int)) || decide (f ∈ S)) = _
    by_cases e : s = f
    · subst e; simp
    · have e1 : ((s : Int) == (f : Int)) = false := by
        rw [beq_eq_false_iff_ne]; omega
      rw [e1, Bool.false_or]
      simp [Ne.symm e]
theorem flat_nat {S : List Nat} : (ofN S).all flatV = true := by
  rw [List.all_eq_true]
  intro v hv
  obtain ⟨s, _, rfl⟩ := List.mem_map.mp hv
  rfl
theorem et_notIn {f : Nat} {S : List Nat} {p : Addr} (ha : Ev ta σ H (.int (f : Int))) (hb : Ev tb σ H (.ref p)) (hs : SqL K H p (ofN S)) : EvT (tTest (tOp (rIn K true) ta tb)) σ H (!decide (f ∈ S)) := by
  rw [← inV_nat]; exact et_test (ev_op ha hb (rv_niL hs rfl flat_nat))
theorem et_in {f : Nat} {S : List Nat} {p : Addr} (ha : Ev ta σ H (.int (f : Int))) (hb : Ev tb σ H (.ref p)) (hs : SqL K H p (ofN S)) : EvT (tTest (tOp (rIn K false) ta tb)) σ H (decide (f ∈ S)) := by
  rw [← inV_nat]; exact et_test (ev_op ha hb (rv_isL hs rfl flat_nat))
/-- the first place of a number that isn't nought -/
def fstP (r : Ro) : Option Nat := (List.range r.length).find? fun i => decide (nth r i ≠ 0)
theorem fstP_some {r : Ro} {i : Nat} (h : i < r.length) (h1 : nth r i ≠ 0) (h2 : ∀ j, j < i → nth r j = 0) : fstP r = some i := by
  unfold fstP
  rw [List.find?_range_eq_some]
  exact ⟨by simp [h1], List.mem_range.mpr h, fun j hj => by simp [h2 j hj]⟩
theorem fstP_none {r : Ro} (h : ∀ j, j < r.length → nth r j = 0) : fstP r = none := by
  unfold fstP
  rw [List.find?_eq_none]
  intro j hj
  simp [h j (List.mem_range.mp hj)]
theorem good_first {p : Int} {n k : Nat} {s : Sta} (g : Good p n k s) (hk : k ≤ n) {r : Nat} (h : r < s.d) : fstP (row s.R r) = some (s.S.getD r 0) := by
  have hr : r < s.R.length := by have := g.dr; omega
  have hS := S_at (S := s.S) (t := r) (by have := g.dl; omega)
  have lt := g.lt _ (List.mem_of_getElem? hS)
  refine fstP_some (by rw [(wf_row g.wf hr).1]; omega) ?_ (g.pre r _ hS)
  have := g.one r _ hS r hr
  rw [if_pos rfl] at this
  show ent s.R r _ ≠ 0
  rw [this]; decide
noncomputable def rr (p : Int) (M : Mx) (n : Nat) : Mx := (red p M n).R.take (red p M n).d
theorem row_take {R : Mx} {d i : Nat} (h : i < d) : row (R.take d) i = row R i := by
  unfold row
  rw [List.getD_eq_getElem?_getD, List.getD_eq_getElem?_getD, List.getElem?_take, if_pos h]
theorem len_rr {p : Int} {M : Mx} {n : Nat} (hp : 1 < p) (hI : HasInv p) (w : WF p n M) : (rr p M n).length = (red p M n).d := by
  unfold rr
  rw [List.length_take]
  have := (good_red hp hI w n).dr
  omega
end
end Own


namespace Own
open PySem PySem.Spec PyProof.Rows L2
open Evl
section
variable {K : PySem.W.Frag} {σ : L2.St} {H H' : Hp} {te ta tb tl : TE} {x y z w : V} {D : Ends} {tz tu t : TS} {R M : Mx} {l m : Addr} {refs : List Addr}
theorem MLr.app {b : Addr} {r : Ro} (h : MLr l refs R H) (nb : b ≠ l) (hb : H b = some (.lst (r.map V.int))) : MLr l (refs ++ [b]) (R ++ [r]) (upd H l (.lst (refs.map V.ref ++ [.ref b]))) := by
  refine ⟨by rw [upd_same]; simp, by simp [h.2.1], fun j c hc => ?_⟩
  have key : c ≠ l ∧ H c = some (.lst ((row (R ++ [r]) j).map V.int)) := by
    by_cases e : j < refs.length
    · rw [List.getElem?_append_left e] at hc
      have er : row (R ++ [r]) j = row R j := by
        unfold row
        rw [List.getD_eq_getElem?_getD, List.getD_eq_getElem?_getD, List.getElem?_append_left (by rw [← h.2.1]; exact e)]
      rw [er]
      exact h.2.2 j c hc
    · rw [List.getElem?_append_right (by omega)] at hc
      have z : j - refs.length = 0 := by
        refine Nat.eq_zero_of_not_pos fun q => ?_
        rw [List.getElem?_eq_none (by simp; omega)] at hc
        cases hc
      rw [z] at hc
      simp at hc
      subst hc
      have er : row (R ++ [r]) j = r := by
        unfold row
        rw [List.getD_eq_getElem?_getD, List.getElem?_append_right (by rw [← h.2.1]; omega), show j - R.length = 0 by rw [← h.2.1]; exact z]
        rfl
      rw [er]
      exact ⟨nb, hb⟩
  exact ⟨key.1, by rw [upd_ne key.1]; exact key.2⟩
/-- a comprehension over zip whose items are new -/
theorem en_lcZ {t1 t2 : Bool} {ta : TA} {a b : Addr} {xs ys : List V} {i j : Nat} {vs : List Nat} {o : Nat → HO} (h : EvA ta σ H [.ref a, .ref b]) (hx : SqB t1 K H a xs) (hy : SqB t2 K H b ys) (hl : xs.length = ys.length) (hn : xs.length ≤ 40000)
    (hw : ∀ x y, wipe (((wipe σ vs).set i (some x)).set j (some y)) vs = wipe σ vs)
    (he : ∀ m x y H1, Ex H H1 → xs[m]? = some x → ys[m]? = some y → EvH te (((wipe σ vs).set i (some x)).set j (some y)) H1 (o m)) : EvN (tLc (iZipB t1 t2 K ta) (gTup K 2 (gCons (gName i) (gCons (gName j) gNil))) tYes te vs) σ H (LsO xs.length o) :=
  fun H0 e Q q => h H0 e _ fun H1 e1 => ⟨a, b, xs, ys, rfl, ex_B (e.trans e1) hx, ex_B (e.trans e1) hy, fun Dl hD =>
    lc_it (n := xs.length) (walk_zipB (by omega)) (fun i H' => Ex H1 H' ∧ LsO i o Dl H') ⟨Ex.new hD, [], upd_same, rfl, fun i y h => by simp at h⟩ (fun m H' _ p => ⟨ex_B ((e.trans e1).trans p.1) hx, ex_B ((e.trans e1).trans p.1) hy⟩)
      (fun m z H2 H3 hm => by
        rintro ⟨p2, rs, hy, hl, hp⟩ ⟨T, x, y, rfl, hT, rfl, h1, h2⟩
        have nT : Dl ≠ T := fun z => by rw [z, hT] at hy; cases hy
        refine ⟨T, _, rfl, st_of upd_same, rfl, x, _, rfl, y, _, rfl, rfl, hw x y, ?_⟩
        refine yesT ?_
        have e2 : Ex H1 (upd H2 T (.tup [x, y])) := p2.trans (Ex.new hT)
        have eT : Ex H2 (upd H2 T (.tup [x, y])) := Ex.new hT
        have hy2 : (upd H2 T (.tup [x, y])) Dl = some (.lst (rs.map V.ref)) := eT _ _ hy
        refine he m x y _ ((e.trans e1).trans e2) h1 h2 _ (.refl _) _ fun p H4 np u4 hpo => ⟨rs.map V.ref, u4 _ _ hy2, sz_lt (by rw [List.length_map]; omega), Ex.mut (e2.trans u4) hD, rs ++ [p], by rw [upd_same]; simp, by simp [hl], fun m' b' hm' => ?_⟩
        have npD : p ≠ Dl := fun z => by rw [z, hy2] at np; cases np
        by_cases c : m' < rs.length
        · rw [List.getElem?_append_left c] at hm'
          obtain ⟨n1, h1⟩ := hp m' b' hm'
          exact ⟨n1, by rw [upd_ne n1]; exact u4 _ _ (eT _ _ h1)⟩
        · rw [List.getElem?_append_right (by omega)] at hm'
          have z : m' - rs.length = 0 := by
            refine Nat.eq_zero_of_not_pos fun q => ?_
            rw [List.getElem?_eq_none (by simp; omega)] at hm'
            cases hm'
          rw [z] at hm'
          simp at hm'
          subst hm'
          have : m' = m := by omega
          subst this
          exact ⟨npD, by rw [upd_ne npD]; exact hpo⟩)
      (fun H' p => q Dl H' (fresh_back e1 hD) (e1.trans p.1) p.2)⟩
theorem el_cat {xs ys : List V} (ha : EvL ta σ H xs) (hb : EvL tb σ H ys) (hz : xs.length + ys.length ≤ 1000) : EvL (tOp rCat ta tb) σ H (xs ++ ys) := fun H1 e Q q =>
  ha H1 e _ fun p H2 hp e2 hx => hb H2 (e.trans e2) _ fun r H3 hr e3 hy => ⟨p, r, xs, ys, rfl, rfl, e3 _ _ hx, hy, sz_of (by omega), fun c hc => q c _ (fresh_back (e2.trans e3) hc) ((e2.trans e3).trans (Ex.new hc)) upd_same⟩
def joined (M : Mx) (right : Ro) : Mx := List.zipWith (fun r x => r ++ [x]) M right
def solT (R : Mx) (S : List Nat) (n : Nat) : Nat → Ro
  | 0 => List.replicate n 0
  | t + 1 => (solT R S n t).set (S.getD t 0) (ent R t n)
noncomputable def sol (p : Int) (M : Mx) (right : Ro) (n : Nat) : Option Ro :=
  if n ∈ (red p (joined M right) (n + 1)).S then none else some (solT (red p (joined M right) (n + 1)).R (red p (joined M right) (n + 1)).S n (red p (joined M right) (n + 1)).d)
theorem len_solT {R : Mx} {S : List Nat} {n : Nat} : ∀ t, (solT R S n t).length = n
  | 0 => by simp [solT]
  | t + 1 => by simp [solT, len_solT t]
theorem len_joined {M : Mx} {right : Ro} (h : right.length = M.length) : (joined M right).length = M.length := by simp [joined, h]
theorem row_joined {M : Mx} {right : Ro} (h : right.length = M.length) {i : Nat} (hi : i < M.length) : row (joined M right) i = row M i ++ [nth right i] := by
  have e : (joined M right)[i]? = some (row M i ++ [nth right i]) := by
    unfold joined
    rw [List.getElem?_zipWith, row_at hi, List.getElem?_eq_getElem (by omega : i < right.length)]
    unfold nth
    rw [getD_lt (by omega)]
  unfold row
  rw [List.getD_eq_getElem?_getD]
  show ((joined M right)[i]?).getD [] = _
  rw [e]; rfl
theorem wf_joined {p : Int} {n : Nat} {M : Mx} {right : Ro} (w : WF p n M) (h : right.length = M.length) (hr : ∀ x ∈ right, 0 ≤ x ∧ x < p) : WF p (n + 1) (joined M right) := fun r hr' => by
  obtain ⟨i, hi, e⟩ := mem_row hr'
  rw [len_joined h] at hi
  rw [row_joined h hi] at e
  subst e
  refine ⟨by rw [List.length_append, (wf_row w hi).1]; rfl, fun x hx => ?_⟩
  rcases List.mem_append.mp hx with q | q
  · exact (wf_row w hi).2 x q
  · rw [List.mem_singleton.mp q]
    unfold nth
    rw [getD_lt (by omega)]
    exact hr _ (List.getElem_mem _)
/-- what solved tells -/
def SolP (K : PySem.W.Frag) (N : Mx) : Option Ro → VP
  | none, v, _ => v = .non
  | some s, v, H => ∃ a x y, v = .ref a ∧ SqT K H a [.ref x, .ref y] ∧ SqT K H x (s.map V.int) ∧ MT K y N H
theorem SolP.ex {N : Mx} {o : Option Ro} {v : V} (e : Ex H H') (h : SolP K N o v H) : SolP K N o v H' := by
  cases o with
  | none => exact h
  | some s =>
    obtain ⟨a, x, y, h1, h2, h3, h4⟩ := h
    exact ⟨a, x, y, h1, ex_t e h2, ex_t e h3, h4.ex e⟩
end
end Own


namespace Own
open PySem PySem.Spec PyProof.Rows L2
/-! ### t * 0 -/
theorem tuple_nought (l : Addr) (items : Array Value) (n : Nat) (dd : Option Addr) (sl : Array (Option Value)) (u : Tok) (hi : items.isEmpty = false) :
    Meets (Builtin.«tuple.__mul__» ⟨[.ref l, .int 0 u], []⟩) (fun _ R s => s.heap.get? l = some { cls := .type "tuple", dict := dd, data := .seq items n, slots := sl } ∧
      R (.ok (.ret (Value.ref s.heap.objs.size))) { s with heap := s.heap.push { cls := Value.type "tuple", data := Data.seq #[] }, toks := s.toks }) :=
  .of_wp fun prog w A R s h => by
    obtain ⟨hp, g, d, tk, os⟩ := s
    obtain ⟨hl, h⟩ := h
    have f1 := AutoSeq1.idx_int
    have c0 : (decide ((0 : Int) < -(2 ^ 63)) || decide ((0 : Int) ≥ 2 ^ 63)) = false := by decide
    have c1 : (items.isEmpty || (0 : Int) == 1) = false := by rw [hi]; rfl
    have c2 : (decide ((0 : Int) ≤ 0) || items.isEmpty) = true := by rw [decide_eq_true (Int.le_refl 0)]; rfl
    wp_walk using wpAny_loadPart' hl
    repeat (first
      | (refine wpAny_ite_false (decide_eq_false (by rw [c0]; exact Bool.false_ne_true)) ?_; wp_walk using wpAny_loadPart' hl)
      | (refine wpAny_ite_false (decide_eq_false (by rw [c1]; exact Bool.false_ne_true)) ?_; wp_walk using wpAny_loadPart' hl)
      | (refine wpAny_ite_true (decide_eq_true c2) ?_; wp_walk using wpAny_loadPart' hl))
    exact ⟨_, rfl, h⟩
def rNought (K : PySem.W.Frag) : R2 := fun x y H Q => ∃ l xs, x = .ref l ∧ y = .int 0 ∧ SqT K H l xs ∧ xs ≠ [] ∧ ∀ p, H p = none → Q (.ref p) (upd H p (.tup []))
theorem op_nought {X : Cx} : OpR X (binaryOp .Mult) (rNought X.K) := by
  intro pins s σ H x y v u Q I rx ry h
  obtain ⟨l, xs, rfl, rfl, hT, hne, q⟩ := h
  cases rx
  obtain ⟨t, rfl⟩ := ry
  obtain ⟨its, r, ⟨⟨cls, dd, data, sl⟩, ho, hc, n, hd⟩, hs⟩ := I.tuple hT
  simp only at hc hd
  subst hc hd
  have hle : its.length = xs.length := r.length.symm
  have hi : its.toArray.isEmpty = false := by
    cases its with
    | nil => exact absurd (List.eq_nil_of_length_eq_zero hle.symm) hne
    | cons a b => rfl
  refine wpAny_binaryOp_repeat_ref (T := "tuple") (U := "int") (by decide) ⟨_, ho, rfl⟩ (fun s' => typeIs_int s' 0 t) noFill_tuple_mul F.fills_int_mul F.slot_int_rmul repeat_tuple F.slot_int_index.lookup
    (call_meets F.slot_int_rmul (typeIs_int s 0 t) F.entry_int_rmul (F.args_int_rmul_2 _ _) (int_rmul_tuple 0 t l its.toArray n dd sl)
      ⟨ho, rfl, ⟨_, ho, rfl⟩, call_meets F.slot_tuple_mul ⟨_, ho, rfl⟩ F.entry_tuple_mul (F.args_tuple_mul_2 _ _) (tuple_nought l its.toArray n dd sl t hi) ⟨ho, ?_⟩⟩)
  refine ⟨.ref s.heap.objs.size, _, I.laid (t' := s.toks) (o := .tup []) (fun b ob q => Heap.get?_push_of_some _ q) (Nat.le_refl _) ?_, rfl, q _ (I.hok.fresh (Nat.le_refl _))⟩
  exact ⟨Nat.zero_le _, [], .nil, IsTup.new _ _⟩
abbrev rTimes0 (K : PySem.W.Frag) : R2 := fun x y H Q => rTimes K x y H Q ∨ rNought K x y H Q
theorem op_times0 {X : Cx} : OpR X (binaryOp .Mult) (rTimes0 X.K) := OpR.or op_times op_nought
/-! ### a list's or a tuple's place -/
abbrev rIxA (K : PySem.W.Frag) : R2 := fun x y H Q => rIxL K x y H Q ∨ rIxT K x y H Q
theorem ix_seq {X : Cx} : IxR X (rIxA X.K) := by
  intro value slice pins s σ H x y v u Q I rx ry h hs
  rcases h with h | h
  · exact ix_list value slice pins s σ H x y v u Q I rx ry h hs
  · exact ix_tup value slice pins s σ H x y v u Q I rx ry h hs
theorem lookup_relabel_cf {env : Env} : ∀ {names : List (Str × NameKind)} {x : Str}, (names.lookup x = some .cell ∨ names.lookup x = some .free) →
    (names.map fun (n, k) => if (k == NameKind.free && env.scope.kind == .function && env.kindOf n == some .cell) then (n, NameKind.cell) else (n, k)).lookup x = some .cell ∨
    (names.map fun (n, k) => if (k == NameKind.free && env.scope.kind == .function && env.kindOf n == some .cell) then (n, NameKind.cell) else (n, k)).lookup x = some .free
  | [], _, h => by simp at h
  | (n, k) :: r, x, h => by
    have ih := @lookup_relabel_cf env r x
    show List.lookup x ((if (k == NameKind.free && env.scope.kind == .function && env.kindOf n == some .cell) = true then (n, NameKind.cell) else (n, k)) :: _) = _ ∨ List.lookup x ((if (k == NameKind.free && env.scope.kind == .function && env.kindOf n == some .cell) = true then (n, NameKind.cell) else (n, k)) :: _) = _
    cases hx : x == n with
    | true =>
      simp only [List.lookup_cons, hx] at h
      by_cases hc : (k == NameKind.free && env.scope.kind == .function && env.kindOf n == some .cell) = true
      · rw [if_pos hc]; simp [List.lookup_cons, hx]
      · rw [if_neg hc]; simpa only [List.lookup_cons, hx] using h
    | false =>
      simp only [List.lookup_cons, hx] at h
      by_cases hc : (k == NameKind.free && env.scope.kind == .function && env.kindOf n == some .cell) = true
      · rw [if_pos hc]; simp only [List.lookup_cons, hx]; exact ih h
      · rw [if_neg hc]; simp only [List.lookup_cons, hx]; exact ih h
theorem blk_relabel {N : List Str} {sc scope : Scope} {own : List (Str × Nat)} {env : Env} (h : BlkOk N sc scope own) : BlkOk N (relabel sc env) scope own :=
  ⟨h.kind, h.uniq, h.ix, fun y hy e => lookup_relabel_cf (h.free y hy e), h.own⟩
/-- a comprehension within a comprehension -/
theorem pe_lcIn {X : Cx} {s : Shared} {H : Hp} {scope0 : Scope} {C : Addr} {cl : List (Str × Addr)} {fp : List Addr} {elt tg iter : Expr} {ifs : List Expr} {scope : Scope} {own : List (Str × Nat)} {pos : Pos} {wi : TI} {g : TG} {tt : TT} {te : TE} (hc : X.calm = true) (hN : X.N.Nodup)
    (hi : PI (X.blk s H scope0 (compEnvC scope0 cl C X.env) fp) tg iter wi) (ok : BlkOk X.N scope0 scope own)
    (hg : ∀ (s' : Shared) (H' : Hp) (C' : Addr) (cl' : List (Str × Addr)) (fp' : List Addr), PG ((X.blk s H scope0 (compEnvC scope0 cl C X.env) fp).blk s' H' scope (compEnvC scope cl' C' (compEnvC scope0 cl C X.env)) fp') tg g)
    (ht : ∀ (s' : Shared) (H' : Hp) (C' : Addr) (cl' : List (Str × Addr)) (fp' : List Addr), L2.PTs ((X.blk s H scope0 (compEnvC scope0 cl C X.env) fp).blk s' H' scope (compEnvC scope cl' C' (compEnvC scope0 cl C X.env)) fp') ifs tt)
    (he : ∀ (s' : Shared) (H' : Hp) (C' : Addr) (cl' : List (Str × Addr)) (fp' : List Addr), PE ((X.blk s H scope0 (compEnvC scope0 cl C X.env) fp).blk s' H' scope (compEnvC scope cl' C' (compEnvC scope0 cl C X.env)) fp') elt te)
    (hs : ∀ x, foldedSetIterable iter (compEnvC scope0 cl C X.env) x = pure x := by intro _; rfl) :
    PE (X.blk s H scope0 (compEnvC scope0 cl C X.env) fp) (.ListComp elt [⟨tg, iter, ifs, 0⟩] scope pos) (tLc wi g tt te (own.map (·.2))) :=
  pe_lc (X := X.blk s H scope0 (compEnvC scope0 cl C X.env) fp) hc hN hi (blk_relabel ok) hg ht he hs
end Own
namespace Own
open PySem PySem.Spec PyProof.Rows L2
open Evl
section
variable {K : PySem.W.Frag} {σ : L2.St} {H H' : Hp} {te ta tb tl : TE} {x y z w v : V} {D : Ends} {tz tu t : TS} {R M : Mx} {l m : Addr} {refs : List Addr}
theorem ev_ixA {a : Addr} {xs : List V} {i : Int} (ha : Ev ta σ H (.ref a)) (hb : Ev tb σ H (.int i)) (hs : SqA K H a xs) (h : atI xs i = some v) : Ev (tOp (rIxA K) ta tb) σ H v :=
  fun H1 e Q q => by
    rcases hs with hs | hs
    · exact ha H1 e _ fun H2 e2 => hb H2 (e.trans e2) _ fun H3 e3 => .inl ⟨a, xs, i, v, rfl, rfl, ex_l ((e.trans e2).trans e3) hs, h, q H3 (e2.trans e3)⟩
    · exact ha H1 e _ fun H2 e2 => hb H2 (e.trans e2) _ fun H3 e3 => .inr ⟨a, xs, i, v, rfl, rfl, ex_t ((e.trans e2).trans e3) hs, h, q H3 (e2.trans e3)⟩
theorem ev_lenA {a : Addr} {xs : List V} (h : Ev ta σ H (.ref a)) (hs : SqA K H a xs) : Ev (tCB (rLenV K) (tCons ta tNil)) σ H (.int (xs.length : Int)) := by
  rcases hs with hs | hs
  · exact ev_lenL h hs
  · exact ev_lenT h hs
theorem ev_sumN {ns : List Int} (h : EvL ta σ H (ns.map V.int)) : Ev (tCB (rSum K) (tCons ta tNil)) σ H (.int ns.sum) := fun H1 e Q q =>
  h H1 e _ fun p H2 _ e2 hp => ⟨p, ns, rfl, sq_of hp, q H2 e2⟩
theorem sum_range {f : Nat → Int} : ∀ n : Nat, ((List.range n).map f).sum = sumTo f n
  | 0 => rfl
  | n + 1 => by rw [List.range_succ, List.map_append, List.sum_append, sum_range n]; simp [sumTo]
/-- (e,) * k, from nought on -/
theorem eh_rep0 {k : Nat} (h : Ev te σ H v) (hb : Ev tb σ H (.int (k : Int))) (hk : k ≤ 1000) : EvH (tOp (rTimes0 K) (tTup (tCons te tNil)) tb) σ H (.tup (List.replicate k v)) := fun H1 e Q q =>
  h H1 e _ fun H2 e2 => ⟨by show 1 ≤ sizeLine; decide, fun p np => hb _ ((e.trans e2).trans (Ex.new np)) _ fun H3 e3 => by
    have hp := e3 _ _ (upd_same (H := H2) (a := p) (o := .tup [v]))
    have E3 : Ex H1 H3 := (e2.trans (Ex.new np)).trans e3
    match k, hk with
    | 0, _ => exact .inr ⟨p, [v], rfl, rfl, st_of hp, (by simp), fun r nr => q r _ (fresh_back E3 nr) (E3.trans (Ex.new nr)) (by rw [upd_same]; rfl)⟩
    | 1, _ => exact .inl (.inr ⟨p, [v], rfl, rfl, st_of hp, q p H3 (fresh_back e2 np) E3 hp⟩)
    | k + 2, hk => exact .inl (.inl ⟨p, ((k + 2 : Nat) : Int), [v], rfl, rfl, st_of hp, (by simp), by omega, by omega, by show 1 ≤ 1000; decide, fun r nr => q r _ (fresh_back E3 nr) (E3.trans (Ex.new nr)) (by rw [upd_same, Int.toNat_natCast, rep_one])⟩)⟩
/-- a list that stands + a new one -/
theorem el_catV {xs ys : List V} {a : Addr} (ha : Ev ta σ H (.ref a)) (hx : H a = some (.lst xs)) (hb : EvL tb σ H ys) (hz : xs.length + ys.length ≤ 1000) : EvL (tOp rCat ta tb) σ H (xs ++ ys) := fun H1 e Q q =>
  ha H1 e _ fun H2 e2 => hb H2 (e.trans e2) _ fun r H3 hr e3 hy => ⟨a, r, xs, ys, rfl, rfl, e3 _ _ (e2 _ _ (e _ _ hx)), hy, sz_of (by omega), fun c hc => q c _ (fresh_back (e2.trans e3) hc) ((e2.trans e3).trans (Ex.new hc)) upd_same⟩
/-- a new tuple of numbers -/
theorem eh_call {sp : Sp} {vs : List V} {E : XK} {ta : TA} {o : HO} (h : EvA ta σ H vs) (hs : SpN sp vs H fun l H' => H' l = some o) : EvH (tCall sp [] E ta) σ H o := fun H1 e Q q => en_call h hs H1 e Q q
/-! ### data of numbers -/
def intsD (r : Ro) : PyData := .tuple (r.map PyData.int)
def matD (M : Mx) : PyData := .tuple (M.map intsD)
theorem gd_ints {r : Ro} {a : Addr} (h : SqT K H a (r.map V.int)) (hl : r.length ≤ 20) (hb : ∀ x ∈ r, x.natAbs < 2 ^ 64) : Gd K H 1 (.ref a) (intsD r) := by
  refine gd_tup h ?_ (by rw [List.length_map]; exact hl)
  have : ∀ (r : Ro), (∀ x ∈ r, x.natAbs < 2 ^ 64) → GdAll K H 0 (r.map V.int) (r.map PyData.int) := fun r => by
    induction r with
    | nil => exact fun _ => .nil
    | cons x r ih => exact fun h => .cons (gd_int (h x List.mem_cons_self)) (ih fun y hy => h y (List.mem_cons_of_mem _ hy))
  exact this r hb
theorem gd_mat {p : Int} {n : Nat} {t : Addr} (h : MT K t M H) (w : WF p n M) (hp : p ≤ 1000003) (hn : n ≤ 20) (hl : M.length ≤ 20) : Gd K H 2 (.ref t) (matD M) := by
  obtain ⟨refs, h1, h2, h3⟩ := h
  refine gd_tup h1 ?_ (by rw [List.length_map]; omega)
  have key : ∀ (M : Mx) (refs : List Addr), refs.length = M.length → (∀ i b, refs[i]? = some b → Gd K H 1 (.ref b) (intsD (row M i))) → GdAll K H 1 (refs.map V.ref) (M.map intsD) := fun M => by
    induction M with
    | nil =>
      intro refs hl _
      rw [List.eq_nil_of_length_eq_zero hl]
      exact .nil
    | cons r M ih =>
      intro refs hl h
      cases refs with
      | nil => cases hl
      | cons b refs => exact .cons (h 0 b rfl) (ih refs (by simpa using hl) fun i c hc => h (i + 1) c (by simpa using hc))
  refine key M refs h2 fun i b hb => ?_
  have hi : i < M.length := by have := (List.getElem?_eq_some_iff.mp hb).1; omega
  have wr := wf_row w hi
  exact gd_ints (h3 i b hb) (by omega) fun x hx => by have := wr.2 x hx; omega
theorem ints_self : ∀ r : Ro, PyData.eqvAll (r.map PyData.int) (r.map PyData.int) = true
  | [] => by simp [PyData.eqvAll]
  | x :: r => by simp [PyData.eqvAll, PyData.eqv, ints_self r]
/-- the text of what a call makes -/
theorem ev_showN {P : Addr → Hp → Prop} {d : PyData} {k : Nat} (h : EvN te σ H P) (hd : ∀ t H', Ex H H' → P t H' → Gd K H' k (.ref t) d) (hk : k ≤ 4) : Ev (tCB (rShow K) (tCons te tNil)) σ H (.str d.shown) := fun H1 e Q q =>
  h H1 e _ fun t H2 _ e2 p => show_d (hd t H2 (e.trans e2) p) hk (q H2 e2)
theorem ev_showV {d : PyData} {k : Nat} (h : Ev te σ H v) (hd : Gd K H k v d) (hk : k ≤ 4) : Ev (tCB (rShow K) (tCons te tNil)) σ H (.str d.shown) := fun H1 e Q q =>
  h H1 e _ fun H2 e2 => show_d (hd.ex (e.trans e2)) hk (q H2 e2)
/-- two texts that are one -/
theorem et_neSame {s : Str} (ha : Ev ta σ H (.str s)) (hb : Ev tb σ H (.str s)) : EvT (tTest (tOp rNe ta tb)) σ H false := by
  have := et_test (ev_op (z := .bl (!decide ((V.str s) = (V.str s)))) ha hb (rv_ne rfl))
  rwa [decide_eq_true rfl] at this
/-- two new tuples of the same numbers -/
theorem ints_shaped (r : Ro) : SeqAt.shaped (intsD r) = true := by
  have h := lay_ints r
  unfold SeqAt.shaped intsD
  rw [show PyData.canLay0 (.tuple (r.map PyData.int)) = true by simpa only [PyData.canLay0] using h.1, decide_eq_true (show (PyData.tuple (r.map PyData.int)).depth ≤ 64 by simp only [PyData.depth]; omega)]
  rfl
theorem ne_ints {a b : Addr} {r : Ro} {Q : VK} (ha : SqT K H a (r.map V.int)) (hb : SqT K H b (r.map V.int)) (q : Q (.bl false) H) : rNeD K (.ref a) (.ref b) H Q :=
  ⟨intsD r, intsD r, .tup ha (dp_ints r), .tup hb (dp_ints r), ints_shaped r, ints_shaped r, by
    have e : PyData.eqv (intsD r) (intsD r) = true := by unfold intsD; simp [PyData.eqv, ints_self r]
    rw [e]
    exact q⟩
theorem ev_neHH {r : Ro} (ha : EvH ta σ H (.tup (r.map V.int))) (hb : EvH tb σ H (.tup (r.map V.int))) : Ev (tOp (rNeD K) ta tb) σ H (.bl false) := fun H1 e Q q =>
  ha H1 e _ fun p H2 _ e2 h2 => hb H2 (e.trans e2) _ fun p' H3 _ e3 h3 => ne_ints (st_of (e3 _ _ h2)) (st_of h3) (q H3 (e2.trans e3))
/-- a, b, c = something new, v, [] -/
theorem q_three {i j k : Nat} {P : Addr → Hp → Prop} (h : EvN te σ H P) (kk : ∀ l H1 s H2, H l = none → Ex H H1 → P l H1 → H1 s = none → Ex H1 H2 → H2 s = some (.lst []) → tz D (((σ.set i (some (.ref l))).set j (some v)).set k (some (.ref s))) H2) :
    tSeq (tAsg (tTup (tCons te (tCons (tC v) (tCons (tLst tNil) tNil)))) (gTup K 3 (gCons (gName i) (gCons (gName j) (gCons (gName k) gNil))))) tz D σ H :=
  h H (.refl H) _ fun l H1 hl e1 p => ⟨Nat.zero_le _, fun s ns => ⟨by show 3 ≤ sizeLine; decide, fun t nt => ⟨t, _, rfl, st_of upd_same, rfl, _, _, rfl, _, _, rfl, _, _, rfl, rfl,
    kk l H1 s _ hl e1 p ns ((Ex.new ns).trans (Ex.new nt)) ((Ex.new nt) _ _ upd_same)⟩⟩⟩
theorem s_parL {i j : Nat} {xs : List V} (h : Ev ta σ H x) (h2 : EvL tb σ H xs) (k : ∀ p H1, H p = none → Ex H H1 → H1 p = some (.lst xs) → D.nx ((σ.set i (some x)).set j (some (.ref p))) H1) : tPar i j (tCons ta (tCons tb tNil)) D σ H :=
  h H (.refl H) _ fun H1 e1 => h2 H1 e1 _ fun p H2 hp e2 hx => ⟨x, .ref p, rfl, k p H2 (fresh_back e1 hp) (e1.trans e2) hx⟩
/-- tuple(t) + (x,) -/
theorem eh_catT {a : Addr} {xs : List V} (h : Ev te σ H (.ref a)) (hx : SqT K H a xs) (h2 : Ev tb σ H v) (hz : xs.length ≤ 1000) : EvH (tOp (rCatA K) (tCB (rTupOf K) (tCons te tNil)) (tTup (tCons tb tNil))) σ H (.tup (xs ++ [v])) := fun H1 e Q q =>
  h H1 e _ fun H2 e2 => ⟨a, xs, rfl, .inr ⟨ex_t (e.trans e2) hx, h2 H2 (e.trans e2) _ fun H3 e3 => ⟨by show 1 ≤ sizeLine; decide, fun p np => ⟨a, p, xs, [v], rfl, rfl, ex_t (((e.trans e2).trans e3).trans (Ex.new np)) hx, st_of upd_same, sz_of (by show xs.length + 1 ≤ 100000; omega),
    fun z => q p _ (fresh_back (e2.trans e3) np) ((e2.trans e3).trans (Ex.new np)) (by rw [upd_same, z]; rfl), (fun _ z => by cases z), fun _ _ r nr => q r _ (fresh_back ((e2.trans e3).trans (Ex.new np)) nr) (((e2.trans e3).trans (Ex.new np)).trans (Ex.new nr)) upd_same⟩⟩⟩⟩
/-- xs.append(a new thing) -/
theorem s_appH {l : Addr} {xs : List V} {o : HO} (hl : H l = some (.lst xs)) (ha : Ev ta σ H (.ref l)) (h : EvH te σ H o) (hz : xs.length < 100000) (k : ∀ p H1, H p = none → Ex H H1 → H1 p = some o → D.nx σ (upd H1 l (.lst (xs ++ [.ref p])))) :
    tDrop (tBM K "list" rAppend ta (tCons te tNil)) D σ H := ha H (Ex.refl H) _ fun H1 e1 =>
  ⟨Or.inl ⟨rfl, xs, sq_of (e1 l _ hl)⟩, h H1 e1 _ fun p H2 hp e2 h2 => ⟨l, xs, .ref p, rfl, rfl, e2 l _ (e1 l _ hl), sz_lt hz, k p H2 (fresh_back e1 hp) (e1.trans e2) h2⟩⟩
theorem MT.kp (e : Kp H H') (h : MT K m M H) : MT K m M H' := let ⟨r, h1, h2, h3⟩ := h; ⟨r, e.sqT h1, h2, fun i b hb => e.sqT (h3 i b hb)⟩
/-- [e for j in range(n)], e drawing: a new list of n -/
def PLsF (H0 : Hp) (a : Addr) (n : Nat) (P : VP) : VP := fun v H => ∃ b xs, v = .ref b ∧ H0 b = none ∧ b ≠ a ∧ H b = some (.lst xs) ∧ xs.length = n ∧ ∀ x ∈ xs, P x H
theorem up_back {a b : Addr} (u : Up a H H') (n : b ≠ a) (h : H' b = none) : H b = none := by
  cases e : H b with
  | none => rfl
  | some o => rw [u.keep b o n e] at h; cases h
theorem es_lcN {a : Addr} {P : VP} {elt : TE} {j i n : Nat} {vs : List Nat} (e0 : σ[i]? = some (some (.int (n : Int)))) (hn : n ≤ 1000) (hw : ∀ x, wipe ((wipe σ vs).set j (some x)) vs = wipe σ vs)
    (he : ∀ (i : Nat) H1, Up a H H1 → i < n → EvS a elt ((wipe σ vs).set j (some (.int (i : Int)))) H1 P) (mk : MonoK P) : EvS a (tLc (iRng1 (tCons (tVar i) tNil)) (gName j) tYes elt vs) σ H (PLsF H a n P) :=
  fun H2 u Q q => ⟨_, e0, (n : Int), rfl, by omega, by omega, fun Dl hD =>
    lc_range (lo := 0) (n := (n : Int).toNat) (fun i H' => Up a H2 H' ∧ ∃ acc, H' Dl = some (.lst acc) ∧ acc.length = i ∧ ∀ x ∈ acc, P x H') ⟨.ex (Ex.new hD) u.src, [], upd_same, rfl, fun _ z => absurd z List.not_mem_nil⟩
      (fun i H' hi ⟨u3, acc, hacc, hl, hp⟩ => by
        show wipe ((wipe σ vs).set j (some (.int ((0 : Int) + (i : Int))))) vs = wipe σ vs ∧ elt ((wipe σ vs).set j (some (.int ((0 : Int) + (i : Int))))) H' fun y H4 => ∃ acc, H4 Dl = some (.lst acc) ∧ acc.length < sizeLine ∧ (Up a H2 (upd H4 Dl (.lst (acc ++ [y]))) ∧ ∃ ac2, (upd H4 Dl (.lst (acc ++ [y]))) Dl = some (.lst ac2) ∧ ac2.length = i + 1 ∧ ∀ x ∈ ac2, P x (upd H4 Dl (.lst (acc ++ [y]))))
        rw [Int.zero_add]
        have nD : Dl ≠ a := u.src.new hD
        refine ⟨hw _, he i H' (u.trans u3) (by omega) H' (.refl u3.src) _ fun y H4 u4 py => ?_⟩
        have h4 := u4.keep Dl _ nD hacc
        have kp : Kp H' (upd H4 Dl (.lst (acc ++ [y]))) := (u4.kp u3.src).trans (.lst h4)
        refine ⟨acc, h4, sz_lt (by omega), ⟨fun b o nb hb => ?_, ?_⟩, _, upd_same, by rw [List.length_append, hl]; rfl, fun x hx => ?_⟩
        · rw [upd_ne (ne_of_none hb hD)]
          exact u4.keep b o nb (u3.keep b o nb hb)
        · obtain ⟨big, mixed, e, r⟩ := u4.src
          exact ⟨big, mixed, by rw [upd_ne nD.symm]; exact e, r⟩
        · rcases List.mem_append.mp hx with z | z
          · exact mk x _ _ kp (hp x z)
          · rw [List.mem_singleton.mp z]
            exact mk y _ _ (.lst h4) py)
      (fun H' ⟨u3, acc, hacc, hl, hp⟩ => q _ _ u3 ⟨Dl, acc, rfl, up_back u (u.src.new hD) hD, u.src.new hD, hacc, by omega, hp⟩)⟩
/-- rows against none -/
theorem dp_rows : ∀ (refs : List Addr) (R : Mx), refs.length = R.length → (∀ i b, refs[i]? = some b → H b = some (.lst ((row R i).map V.int))) → DpAll K H (refs.map V.ref) (R.map fun r => PyData.list (r.map PyData.int))
  | [], [], _, _ => .nil
  | b :: refs, r :: R, hl, h => .cons (.lst (sq_of (h 0 b rfl)) (dp_ints r)) (dp_rows refs R (by simpa using hl) fun i c hc => h (i + 1) c (by simpa using hc))
  | [], _ :: _, hl, _ => by cases hl
  | _ :: _, [], hl, _ => by cases hl
theorem lay_rows : ∀ R : Mx, PyData.canLayAll0 (R.map fun r => PyData.list (r.map PyData.int)) = true ∧ PyData.depthAll (R.map fun r => PyData.list (r.map PyData.int)) ≤ 2
  | [] => ⟨rfl, by simp [PyData.depthAll]⟩
  | r :: R => ⟨by simp [PyData.canLayAll0, PyData.canLay0, (lay_ints r).1, (lay_rows R).1], by have := (lay_rows R).2; have := (lay_ints r).2; simp only [List.map_cons, PyData.depthAll, PyData.depth]; omega⟩
theorem shaped_rows (R : Mx) : SeqAt.shaped (.list (R.map fun r => PyData.list (r.map PyData.int))) = true := by
  have h := lay_rows R
  unfold SeqAt.shaped
  rw [show PyData.canLay0 (.list (R.map fun r => PyData.list (r.map PyData.int))) = true by simpa only [PyData.canLay0] using h.1, decide_eq_true (show (PyData.list (R.map fun r => PyData.list (r.map PyData.int))).depth ≤ 64 by simp only [PyData.depth]; omega)]
  rfl
theorem et_neRows (h : Ev ta σ H (.ref l)) (hs : MLr l refs R H) : EvT (tTest (tOp (rNeD K) ta (tLst tNil))) σ H (!R.isEmpty) :=
  et_test (ev_opL h (el_lst ea_nil (Nat.zero_le _)) fun q H1 hq e H2 e2 Q w => ⟨_, .list [], .lst (sq_of (hs.ex (e.trans e2)).1) (dp_rows _ _ hs.2.1 fun i b hb => ((hs.ex (e.trans e2)).2.2 i b hb).2), .lst (sq_of (e2 q _ hq)) .nil, shaped_rows R, rfl, by
    have z : PyData.eqv (.list (R.map fun r => PyData.list (r.map PyData.int))) (.list []) = R.isEmpty := by cases R <;> simp [PyData.eqv, PyData.eqvAll]
    rw [z]
    exact w H2 (.refl _)⟩)
theorem ev_chainLt {i j k : Int} {tc : TE} (ha : Ev ta σ H (.int i)) (hb : Ev tb σ H (.int j)) (hc : Ev tc σ H (.int k)) : Ev (tChain rLtI rLtI ta tb tc) σ H (.bl (decide (i < j) && decide (j < k))) :=
  fun H1 e Q q => ha H1 e _ fun H2 e2 => hb H2 (e.trans e2) _ fun H3 e3 => ⟨i, j, rfl, rfl, _, rfl, by
    by_cases c : i < j
    · rw [decide_eq_true c]
      exact iteT (hc H3 ((e.trans e2).trans e3) _ fun H4 e4 => ⟨j, k, rfl, rfl, by simpa [c] using q H4 ((e2.trans e3).trans e4)⟩)
    · rw [decide_eq_false c]
      exact iteF (by simpa [c] using q H3 (e2.trans e3))⟩
theorem es_mulN {a : Addr} {h1 h2 : Int} (ha : EvS a ta σ H (PInt 0 h1)) (hb : EvS a tb σ H (PInt 0 h2)) (z : h1 ≤ 1000003) (z2 : 0 ≤ h1) : EvS a (tOp rMulI ta tb) σ H (PInt 0 (h1 * h2)) :=
  es_op ha hb mono_int fun x y H1 u ⟨i, ei, a1, a2⟩ ⟨j, ej, b1, b2⟩ Q q => ⟨i, j, ei, ej, .inl ⟨by omega, by omega⟩, q _ H1 (.refl u.src) ⟨_, rfl, Int.mul_nonneg a1 b1, Int.mul_le_mul a2 b2 b1 z2⟩⟩
theorem ev_showX {P : VP} {d : PyData} {k : Nat} (h : EvX te σ H P) (hd : ∀ v H', Ex H H' → P v H' → Gd K H' k v d) (hk : k ≤ 4) : Ev (tCB (rShow K) (tCons te tNil)) σ H (.str d.shown) := fun H1 e Q q =>
  h H1 e _ fun t H2 e2 p => show_d (hd t H2 (e.trans e2) p) hk (q H2 e2)
theorem given_none (n : Nat) (v : Nat → V) : given n (fun _ => false) v = [] := by
  unfold given
  rw [List.filter_eq_nil_iff.mpr (by simp)]
  rfl
theorem wf_take {p : Int} {n d : Nat} (w : WF p n R) : WF p n (R.take d) := fun r hr => w r (List.mem_of_mem_take hr)
theorem wf_rr {p : Int} {n : Nat} (hp : 1 < p) (hI : HasInv p) (w : WF p n M) : WF p n (rr p M n) := wf_take (good_red hp hI w n).wf
theorem wf_ker {p : Int} {n : Nat} (hp : 1 < p) (hI : HasInv p) : WF p n (ker p M n) := wf_take (good_red hp hI (wf_kerM hp) n).wf
theorem len_ker {p : Int} {n : Nat} (hp : 1 < p) (hI : HasInv p) : (ker p M n).length ≤ n := by
  unfold ker
  rw [List.length_take]
  have h1 := len_red (p := p) (M := kerM p M n) n
  have h2 : (kerM p M n).length ≤ n := by
    simp only [kerM, List.length_map]
    have := List.length_filter_le (fun k => !decide (k ∈ (red p M n).S)) (List.range n)
    rw [List.length_range] at this
    exact this
  omega
theorem solT_bd {p : Int} {n : Nat} {S : List Nat} (hp : 0 < p) (w : WF p (n + 1) R) : ∀ t, ∀ x ∈ solT R S n t, 0 ≤ x ∧ x < p
  | 0 => fun x hx => by
    have := (List.mem_replicate.mp hx).2
    omega
  | t + 1 => fun x hx => by
    rcases List.mem_or_eq_of_mem_set hx with q | q
    · exact solT_bd hp w t x q
    · rw [q]; exact wf_nth w hp t n
theorem sol_bd {p : Int} {n : Nat} {right s : Ro} (P : Prm p) (hI : HasInv p) (w : WF p n M) (hr : right.length = M.length) (hb : ∀ x ∈ right, 0 ≤ x ∧ x < p) (h : sol p M right n = some s) : s.length = n ∧ ∀ x ∈ s, 0 ≤ x ∧ x < p := by
  have p5 := P.1
  have wj := wf_joined w hr hb
  have g := good_red (show 1 < p by omega) hI wj (n + 1)
  unfold sol at h
  split at h
  · cases h
  · injection h with h
    subst h
    exact ⟨len_solT _, solT_bd (by omega) g.wf _⟩
/-- a right side: n numbers below p, in a tuple -/
def Rig (K : PySem.W.Frag) (p : Int) (n : Nat) (v : V) (H : Hp) : Prop := ∃ (c : Addr) (r : Ro), v = .ref c ∧ SqT K H c (r.map V.int) ∧ r.length = n ∧ ∀ x ∈ r, 0 ≤ x ∧ x < p
theorem Rig.ex {p : Int} {n : Nat} {v : V} (e : Ex H H') (h : Rig K p n v H) : Rig K p n v H' := let ⟨c, r, h1, h2, h3⟩ := h; ⟨c, r, h1, ex_t e h2, h3⟩
theorem monoK_rig {p : Int} {n : Nat} : MonoK (Rig K p n) := fun _ _ _ e ⟨c, r, h1, h2, h3⟩ => ⟨c, r, h1, e.sqT h2, h3⟩
theorem ints_of {lo hi : Int} : ∀ {xs : List V}, (∀ x ∈ xs, PInt lo hi x H) → ∃ r : Ro, xs = r.map V.int ∧ r.length = xs.length ∧ ∀ x ∈ r, lo ≤ x ∧ x ≤ hi
  | [], _ => ⟨[], rfl, rfl, fun _ h => absurd h List.not_mem_nil⟩
  | x :: xs, h => by
    obtain ⟨i, e, h1, h2⟩ := h x List.mem_cons_self
    obtain ⟨r, e2, hl, hr⟩ := ints_of fun y hy => h y (List.mem_cons_of_mem _ hy)
    exact ⟨i :: r, by rw [e, e2]; rfl, by simp [hl], fun y hy => by
      rcases List.mem_cons.mp hy with z | z
      · rw [z]; exact ⟨h1, h2⟩
      · exact hr y z⟩
theorem es_ofH {a : Addr} {P : VP} {o : HO} (h : ∀ H1, Up a H H1 → EvH te σ H1 o) (i : ∀ p H1, H1 p = some o → P (.ref p) H1) : EvS a te σ H P :=
  fun H1 u Q q => h H1 u H1 (.refl H1) _ fun p H2 _ e hp => q _ H2 (.ex e u.src) (i p H2 hp)
theorem es_tupR {a : Addr} {H0 : Hp} {p : Int} {n : Nat} (h : EvS a te σ H (PLsF H0 a n (PInt 0 (p - 1)))) : EvS a (tCB (rTupOf K) (tCons te tNil)) σ H (Rig K p n) :=
  fun H1 u Q q => h H1 u _ fun v H2 u2 ⟨b, xs, ev, _, _, hb, hl, hp⟩ => by
    obtain ⟨r, rfl, hl2, hr⟩ := ints_of hp
    exact ⟨b, _, by rw [ev], .inl ⟨sq_of hb, fun t nt => q _ _ (u2.trans (.ex (Ex.new nt) u2.src)) ⟨t, r, rfl, st_of upd_same, by omega, fun x hx => by have := hr x hx; omega⟩⟩⟩
/-- for x in a new list whose items are drawn -/
theorem q_forS {a : Addr} {P : VP} {j n : Nat} (s : Src H a) (h : EvS a tl σ H (PLst a n P)) (Pv : Hp → Nat → L2.St → Hp → Prop) (h0 : ∀ HL, Up a H HL → Pv HL 0 σ HL) (hE : ∀ HL i σ' H', Pv HL i σ' H' → Ex HL H')
    (hs : ∀ HL i x σ' H', Up a H HL → P x HL → i < n → Pv HL i σ' H' → tu { D with nx := Pv HL (i + 1), ct := Pv HL (i + 1), bk := tz D } (σ'.set j (some x)) H') (hd : ∀ HL σ' H', Up a H HL → Pv HL n σ' H' → tz D σ' H') :
    tSeq (tFor (iList K tl) (gName j) tu) tz D σ H :=
  h H (.refl s) _ fun v HL u ⟨L, xs, ev, nL, hL, hl, hp⟩ => ⟨L, ev, ⟨xs, sq_of hL⟩, for_list (xs := xs) (Pv HL) (h0 HL u) (fun i σ' H' _ p => sq_of (hE HL i σ' H' p _ _ hL))
    (fun i x σ' H' hx p => hs HL i x σ' H' u (hp x (List.mem_of_getElem? hx)) (by have := (List.getElem?_eq_some_iff.mp hx).1; omega) p) (fun σ' H' p => hd HL σ' H' u (by rw [← hl]; exact p))⟩
end
end Own


set_option maxHeartbeats 1000000
namespace Own
open PySem PySem.Spec PyProof.Rows L2
/-! ### try .. with several clauses, each of which names the error (slot i) -/
abbrev Suites := List (Value × (Addr → Value → Option Addr → TS))
/-- the wishes behind a suite: the name is gone -/
def Ends.less (D : Ends) (i : Nat) : Ends := { nx := fun z G => D.nx (z.set i none) G, rt := D.rt, bk := fun z G => D.bk (z.set i none) G, ct := fun z G => D.ct (z.set i none) G }
def wNamed (K : PySem.W.Frag) (i : Nat) (out : WX) (D : Ends) : Suites → WX
  | [] => out
  | c :: rest => fun cls dd z G => ∃ yes, PySem.W.exmOne K cls c.1 = some yes ∧ (yes = true → ∀ a, G a = none → c.2 a cls dd (Ends.less D i) (z.set i (some (.ref a))) G) ∧ (yes = false → wNamed K i out D rest cls dd z G)
inductive NamedOk (X : Cx) (n : Str) : List ExceptHandler → Suites → Prop
  | nil : NamedOk X n [] []
  | cons {x : Str} {c : Value} {ts : Addr → Value → Option Addr → TS} {first : Stmt} {more : List Stmt} {q1 q2 : Pos} {hs : List ExceptHandler} {cs : Suites} (hc : Names X x c)
      (hsu : ∀ (a : Addr) (oe : Obj) (cls : Value) (dd : Option Addr) (pn : List (Addr × Obj)), Zc cls dd oe → (∃ vs, oe.data = .fields vs) → PSs (X.suite a ((a, oe) :: pn)) (first :: more) (ts a cls dd)) (tl : NamedOk X n hs cs) :
      NamedOk X n (.ExceptHandler (some (.Name x q1)) (some n) (first :: more) q2 :: hs) ((c, ts) :: cs)
section
variable {X : Cx} {n : Str} {i : Nat} {body : List Stmt} {hd₀ : ExceptHandler} {hs : List ExceptHandler} {cs : Suites} {pos : Pos} {tb : WX → TS} {out : WX}
theorem ps_try_named (hst : X.stack = X.env :: X.outer) (hfr : X.env.frame = some X.env.locals) (hN : X.N.Nodup) (hi : X.N[i]? = some n) (hln : X.env.kindOf n = some .local) (tk : Takes X out)
    (hb : ∀ (W : WX) (pn : List (Addr × Obj)) (xe : Value → Shared → Prop), Takes (X.tr pn xe) W → PassesOwn (model X.prog X.w) X.A X.env xe → PSs (X.tr pn xe) body (tb W))
    (hh : NamedOk X n (hd₀ :: hs) cs) : PS X (.Try body (hd₀ :: hs) [] [] pos) (fun D z G => tb (wNamed X.K i out D cs) D z G) := by
  refine ⟨fun pins s z G D I wish => ?_⟩
  have ok := I.ok
  have frames : X.A.frames = some (X.env :: X.outer) := ok.frames.trans (by rw [hst])
  refine wpAny_Try_except (wpAny_mono ((hb (wNamed X.K i out D cs) (X.pn ++ pins) _ (fun u s' thrown => ?_) PassesOwn.looking).run [] s z G D (I.toTry _) wish) (fun fl s1 gone => ?_) (fun _ _ far => far))
  · obtain ⟨a, B, sI, pins', z', G', cls, dd, rfl, J0, nb, up, sky, na, os, ag, w⟩ := thrown
    have J : Inv X pins z' G' sI := J0.ofTry ok
    have sky1 : Sky B (X.env :: X.outer) a (Zc cls dd) X.env.locals s'.heap := hst ▸ sky
    show wpAny (model X.prog X.w) X.A (noteFrame (.ref a) X.env) _ _ _
    refine Sky.land Zc.steady frames hfr sky1 fun h3 fl3 up3 => ?_
    have J3 : Inv X pins z' G' { s' with heap := h3 } := J.landed nb fl3.1 (up.trans up3) os ag
    obtain ⟨oe3, vs3, at3, hz3, hd3⟩ := fl3.there
    have apart : a ∉ frs (X.env :: X.outer) := fun hm => by
      obtain ⟨_, o', e', no⟩ := fl3.2.2.1.mem hm
      rw [at3] at e'
      cases e'
      exact no _ hd3
    have nL : a ≠ X.env.locals := fun q => apart (List.mem_filterMap.mpr ⟨X.env, List.mem_cons_self, by rw [hfr, q]⟩)
    have nF : a ∉ X.fs := fun hm => let ⟨e, he, q⟩ := List.mem_filterMap.mp hm; apart (List.mem_filterMap.mpr ⟨e, List.mem_cons_of_mem _ he, q⟩)
    have S3 := J3.suite at3 hd3 na nL nF
    have LT : PySem.W.Looks (model X.prog X.w) h3 (typeOf (.ref a)) cls := fun A Q E s k q => wpAny_typeOf_ref (k _ _ at3) (by rw [hz3.1]; exact q)
    suffices go : ∀ {hs' : List ExceptHandler} {cs' : Suites}, NamedOk X n hs' cs' → wNamed X.K i out D cs' cls dd z' G' → wpAny (model X.prog X.w) X.A (handleBy (.ref a) X.env hs') (SP X pins D) X.xe { s' with heap := h3 } from go hh w
    intro hs' cs' okc
    induction okc with
    | nil =>
      intro w
      refine wpAny_handleBy_nil ?_
      obtain ⟨_, _, _, oe, vs, Tb, oT, ts', he, hz, hd, h1, hr⟩ := id fl3
      unfold PySem.passOn
      refine wpAny_bind (wpAny_field he hd h1 ?_)
      rw [if_neg (show ¬ ((Value.ref Tb == Value.none) = true) from by simp)]
      have leave : wpAny (model X.prog X.w) X.A (setFlight (.ref a) X.env.frame) (fun _ s4 => wpAny (model X.prog X.w) X.A (throw (.ref a) : Sem Flow) (SP X pins D) X.xe s4) X.xe { s' with heap := h3 } := by
        rw [hfr]
        exact HandSPX.setFlight_upZ fl3 fun h4 hh4 up4 => wpAny_throw (tk _ _ ⟨a, B, sI, pins, z', G', cls, dd, rfl, J, nb, (up.trans up3).trans up4, .inr (.inr (by rw [hst]; exact hh4)), na, os, ag, w⟩)
      first
        | exact wpAny_bind (wpAny_pure (wpAny_bind leave))
        | exact wpAny_bind leave
    | cons hc hsu tl ih =>
      intro w
      obtain ⟨yes, hy, w1, w2⟩ := w
      have asked := PySem.W.exm_one (M := model X.prog X.w) (J3.kIn) LT hy
      refine wpAny_handleBy_cons (codeAny_handlers_test ?_) (fun q => nomatch q)
      have reads : ∀ {Q : Value → Shared → Prop} {E : Value → Shared → Prop} {x : Str} {c : Value} {q1 : Pos}, Names X x c → Q c { s' with heap := h3 } → wpAny (model X.prog X.w) (X.A.mark (some (.ref a))) (eval (.Name x q1) X.env) Q E { s' with heap := h3 } := fun {Q E x c q1} nm q => by
        obtain ⟨hg, hdbg, hm | ⟨hm, hv, hnn⟩⟩ := nm
        · exact ld_glob (X := X.suite a ((a, oe3) :: (X.pn ++ pins))) S3 hg hm q hdbg
        · exact ld_blt (X := X.suite a ((a, oe3) :: (X.pn ++ pins))) S3 hg hm hv q hnn hdbg
      refine reads hc (asked.here ?_)
      cases yes with
      | false => exact ih (w2 rfl)
      | true =>
        refine codeAny_handlers_suite_as (HandSPX.lands_againZ fl3 fun h4 fl4 up4 => ?_)
        obtain ⟨oe4, vs4, at4, hz4, hd4⟩ := fl4.there
        have S4 := (J.landed (s' := { s' with heap := h4 }) nb fl4.1 ((up.trans up3).trans up4) os ag).suite at4 hd4 na nL nF
        refine store_ok (X := X.suite a ((a, oe4) :: (X.pn ++ pins))) (v := .ref a) S4 hN hi (.inl hln) rfl (fun s5 S5 => ?_) (.inr hln)
        refine wpAny_mono ((hsu a oe4 cls dd (X.pn ++ pins) hz4 ⟨_, hd4⟩).run [] s5 _ G' _ S5 (w1 rfl a na)) (fun fl s6 gone => ?_) (fun _ _ far => False.elim far)
        have free : ∀ {z6 : L2.St} {G6 : Hp} {Q : Shared → Prop} {q2 : Pos}, Inv (X.suite a ((a, oe4) :: (X.pn ++ pins))) [] z6 G6 s6 → (∀ s7, Inv X pins (z6.set i none) G6 s7 → Q s7) →
            wpAny (model X.prog X.w) X.A (do bindName X.env n .none; unbindBehindTheSuite X.env n q2) (fun _ s7 => Q s7) X.xe s6 := fun S6 hq => gone_ok (S6.unsuite ok) hN hi hln hq
        match fl, gone with
        | .next, ⟨_, _, S6, q6⟩ => exact free S6 fun s7 J7 => ⟨_, _, J7, q6⟩
        | .brk, ⟨_, _, S6, q6⟩ => exact free S6 fun s7 J7 => ⟨_, _, J7, q6⟩
        | .cont, ⟨_, _, S6, q6⟩ => exact free S6 fun s7 J7 => ⟨_, _, J7, q6⟩
        | .ret u, ⟨_, _, _, S6, r6, q6⟩ => exact free S6 fun s7 J7 => ⟨_, _, _, J7, r6, q6⟩
  · match fl, gone with
    | .next, ⟨_, _, J, q⟩ => exact wpAny_execs_nil ⟨_, _, J.ofTry ok, q⟩
    | .brk, ⟨_, _, J, q⟩ => exact ⟨_, _, J.ofTry ok, q⟩
    | .cont, ⟨_, _, J, q⟩ => exact ⟨_, _, J.ofTry ok, q⟩
    | .ret u, ⟨_, _, _, J, r, q⟩ => exact ⟨_, _, _, J.ofTry ok, r, q⟩
end
def tTryN (K : PySem.W.Frag) (i : Nat) (tb : WX → TS) (cs : Suites) : TS := fun D σ H => tb (wNamed K i (fun _ _ _ _ => False) D cs) D σ H
abbrev rStrI : List V → Hp → VK → Prop := fun xs H Q => ∃ i, xs = [.int i] ∧ i.natAbs.log2 < 1920 ∧ Q (.str (toString i)) H
end Own


set_option maxHeartbeats 1000000
namespace Own
open PySem PySem.Spec PyProof.Rows L2
open Evl
/-! ### shapes that are right, as objects -/
structure Shp where
  p : Int
  w : Nat
  n : Nat
  k : Nat
  e : Nat
  m : Nat
  t : Mx
def Shp.c (s : Shp) : Nat := s.t.length
structure Shp.Ok (s : Shp) : Prop where
  p : Prm s.p
  w : 1 ≤ s.w ∧ s.w ≤ 16
  n : 1 ≤ s.n ∧ s.n ≤ 8
  k : 1 ≤ s.k ∧ s.k ≤ 3 ∧ s.k ≤ s.n
  e : s.e ≤ 2
  m : s.m ≤ 1 ∧ (s.m = 1 → s.e = 0)
  c : s.t.length ≤ 8
  t : WF s.p s.n s.t
def shD (s : Shp) : PyData := .tuple [.int s.p, .int s.w, .int s.n, .int s.k, .int s.e, .int s.m, matD s.t]
def Sh (K : PySem.W.Frag) (sh : Addr) (s : Shp) (H : Hp) : Prop := ∃ tb, SqT K H sh [.int s.p, .int s.w, .int s.n, .int s.k, .int s.e, .int s.m, .ref tb] ∧ MT K tb s.t H
section
variable {K : PySem.W.Frag} {σ : L2.St} {H H' : Hp} {te ta tb : TE} {sh : Addr} {s : Shp}
theorem Sh.ex (e : Ex H H') (h : Sh K sh s H) : Sh K sh s H' := let ⟨b, h1, h2⟩ := h; ⟨b, ex_t e h1, h2.ex e⟩
theorem Sh.kp (e : Kp H H') (h : Sh K sh s H) : Sh K sh s H' := let ⟨b, h1, h2⟩ := h; ⟨b, e.sqT h1, h2.kp e⟩
theorem Sh.gd (h : Sh K sh s H) (o : s.Ok) : Gd K H 3 (.ref sh) (shD s) := by
  obtain ⟨b, h1, h2⟩ := h
  have p1 := o.p.1
  have p2 := o.p.2.1
  have := o.w; have := o.n; have := o.k; have := o.e; have := o.m.1; have := o.c
  have gi : ∀ {i : Int}, i.natAbs < 2 ^ 64 → Gd K H 2 (.int i) (.int i) := fun h => (gd_int h).up (by decide)
  exact gd_tup h1 (.cons (gi (by omega)) (.cons (gi (by omega)) (.cons (gi (by omega)) (.cons (gi (by omega)) (.cons (gi (by omega)) (.cons (gi (by omega)) (.cons (gd_mat h2 o.t p2 (by omega) (by omega)) .nil))))))) (by show 7 ≤ 20; decide)
theorem sh_p (h : Sh K sh s H) (ha : Ev ta σ H (.ref sh)) : Ev (tOp (rIxT K) ta (tC (.int 0))) σ H (.int s.p) := let ⟨_, h1, _⟩ := h; ev_ixT ha ev_c h1 (atI_nat (j := 0) rfl)
theorem sh_w (h : Sh K sh s H) (ha : Ev ta σ H (.ref sh)) : Ev (tOp (rIxT K) ta (tC (.int 1))) σ H (.int s.w) := let ⟨_, h1, _⟩ := h; ev_ixT ha ev_c h1 (atI_nat (j := 1) rfl)
theorem sh_n (h : Sh K sh s H) (ha : Ev ta σ H (.ref sh)) : Ev (tOp (rIxT K) ta (tC (.int 2))) σ H (.int s.n) := let ⟨_, h1, _⟩ := h; ev_ixT ha ev_c h1 (atI_nat (j := 2) rfl)
theorem sh_k (h : Sh K sh s H) (ha : Ev ta σ H (.ref sh)) : Ev (tOp (rIxT K) ta (tC (.int 3))) σ H (.int s.k) := let ⟨_, h1, _⟩ := h; ev_ixT ha ev_c h1 (atI_nat (j := 3) rfl)
theorem sh_e (h : Sh K sh s H) (ha : Ev ta σ H (.ref sh)) : Ev (tOp (rIxT K) ta (tC (.int 4))) σ H (.int s.e) := let ⟨_, h1, _⟩ := h; ev_ixT ha ev_c h1 (atI_nat (j := 4) rfl)
theorem sh_m (h : Sh K sh s H) (ha : Ev ta σ H (.ref sh)) : Ev (tOp (rIxT K) ta (tC (.int 5))) σ H (.int s.m) := let ⟨_, h1, _⟩ := h; ev_ixT ha ev_c h1 (atI_nat (j := 5) rfl)
theorem sh_t (h : Sh K sh s H) : ∃ t, MT K t s.t H ∧ ∀ (σ : L2.St) (ta : TE) H1, Ex H H1 → Ev ta σ H1 (.ref sh) → Ev (tOp (rIxT K) ta (tC (.int 6))) σ H1 (.ref t) := let ⟨b, h1, h2⟩ := h; ⟨b, h2, fun _ _ _ e ha => ev_ixT ha ev_c (ex_t e h1) (atI_nat (j := 6) rfl)⟩
theorem mt_len {t : Addr} {M : Mx} (h : MT K t M H) (ha : Ev ta σ H (.ref t)) : Ev (tCB (rLenV K) (tCons ta tNil)) σ H (.int (M.length : Int)) := by
  obtain ⟨refs, h1, h2, _⟩ := h
  have := ev_lenT ha h1
  rwa [List.length_map, h2] at this
/-- len(shape[6]) -/
theorem sh_c (h : Sh K sh s H) (ha : Ev ta σ H (.ref sh)) : Ev (tCB (rLenV K) (tCons (tOp (rIxT K) ta (tC (.int 6))) tNil)) σ H (.int s.c) := by
  obtain ⟨t, h1, h2⟩ := sh_t h
  exact mt_len h1 (h2 _ _ _ (.refl H) ha)
end
/-! ### rising numbers, rows, as data -/
def risD : Int → List PyData → Int → Bool
  | _, [], _ => true
  | lo, .int i :: ds, top => decide (lo ≤ i) && decide (i ≤ top - 1) && risD (i + 1) ds top
  | _, _ :: _, _ => false
def risingD (d : PyData) (top : Int) : Bool := match d with
  | .tuple ds => risD 0 ds top
  | _ => false
def tItems : PyData → List PyData
  | .tuple ds => ds
  | _ => []
def numD : PyData → Int
  | .int i => i
  | _ => 0
section
variable {K : PySem.W.Frag} {σ : L2.St} {H H' : Hp} {te ta tb : TE} {x y z v : V} {D : Ends} {tz tu : TS} {k j : Nat} {d e : PyData}
/-- a, b = a pair that stands -/
theorem q_unp2 {i j : Nat} {a : Addr} (h : Ev te σ H (.ref a)) (hs : SqT K H a [x, y]) (k : ∀ H1, Ex H H1 → tz D ((σ.set i (some x)).set j (some y)) H1) : tSeq (tAsg te (gTup K 2 (gCons (gName i) (gCons (gName j) gNil)))) tz D σ H :=
  h H (.refl H) _ fun H1 e1 => ⟨a, _, rfl, ex_t e1 hs, rfl, _, _, rfl, _, _, rfl, rfl, k H1 e1⟩
theorem q_unp3 {i j l : Nat} {a : Addr} (h : Ev te σ H (.ref a)) (hs : SqT K H a [x, y, z]) (k : ∀ H1, Ex H H1 → tz D (((σ.set i (some x)).set j (some y)).set l (some z)) H1) : tSeq (tAsg te (gTup K 3 (gCons (gName i) (gCons (gName j) (gCons (gName l) gNil))))) tz D σ H :=
  h H (.refl H) _ fun H1 e1 => ⟨a, _, rfl, ex_t e1 hs, rfl, _, _, rfl, _, _, rfl, _, _, rfl, rfl, k H1 e1⟩
/-- == of data -/
theorem eqG (g : Gd K H k x d) (g2 : Gd K H j y e) (hk : k ≤ 60) (hj : j ≤ 60) {Q : VK} (q : Q (.bl (PyData.eqv d e)) H) : rEqD K x y H Q := ⟨d, e, g.dp, g2.dp, fine_shaped hk g.fn, fine_shaped hj g2.fn, q⟩
theorem neG (g : Gd K H k x d) (g2 : Gd K H j y e) (hk : k ≤ 60) (hj : j ≤ 60) {Q : VK} (q : Q (.bl (!PyData.eqv d e)) H) : rNeD K x y H Q := ⟨d, e, g.dp, g2.dp, fine_shaped hk g.fn, fine_shaped hj g2.fn, q⟩
theorem ev_eqG (ha : Ev ta σ H x) (hb : Ev tb σ H y) (g : Gd K H k x d) (g2 : Gd K H j y e) (hk : k ≤ 60) (hj : j ≤ 60) : Ev (tOp (rEqD K) ta tb) σ H (.bl (PyData.eqv d e)) := fun H1 e1 Q q =>
  ha H1 e1 _ fun H2 e2 => hb H2 (e1.trans e2) _ fun H3 e3 => eqG (g.ex ((e1.trans e2).trans e3)) (g2.ex ((e1.trans e2).trans e3)) hk hj (q H3 (e2.trans e3))
theorem ev_neG (ha : Ev ta σ H x) (hb : Ev tb σ H y) (g : Gd K H k x d) (g2 : Gd K H j y e) (hk : k ≤ 60) (hj : j ≤ 60) : Ev (tOp (rNeD K) ta tb) σ H (.bl (!PyData.eqv d e)) := fun H1 e1 Q q =>
  ha H1 e1 _ fun H2 e2 => hb H2 (e1.trans e2) _ fun H3 e3 => neG (g.ex ((e1.trans e2).trans e3)) (g2.ex ((e1.trans e2).trans e3)) hk hj (q H3 (e2.trans e3))
theorem inV_ints {i : Int} {l : List Int} : inV (.int i) (l.map V.int) = decide (i ∈ l) := by
  unfold inV
  induction l with
  | nil => simp
  | cons s l ih =>
    rw [List.map_cons, List.any_cons, ih]
    show ((s == i) || decide (i ∈ l)) = _
    by_cases c : s = i
    · subst c; simp
    · have : (s == i) = false := by rw [beq_eq_false_iff_ne]; exact c
      rw [this, Bool.false_or]
      simp [Ne.symm c]
theorem flat_ints (l : List Int) : (l.map V.int).all flatV = true := by
  rw [List.all_eq_true]
  intro v hv
  obtain ⟨s, _, rfl⟩ := List.mem_map.mp hv
  rfl
theorem ev_inL {i : Int} {l : List Int} {p : Addr} (ha : Ev ta σ H (.int i)) (hb : Ev tb σ H (.ref p)) (hs : SqL K H p (l.map V.int)) : Ev (tOp (rIn K false) ta tb) σ H (.bl (decide (i ∈ l))) := by
  rw [← inV_ints]; exact ev_op ha hb (rv_isL hs rfl (flat_ints l))
theorem ev_inT {i : Int} {l : List Int} {p : Addr} (ha : Ev ta σ H (.int i)) (hb : Ev tb σ H (.ref p)) (hs : SqT K H p (l.map V.int)) : Ev (tOp (rIn K false) ta tb) σ H (.bl (decide (i ∈ l))) := by
  rw [← inV_ints]; exact ev_op ha hb (rv_isT hs rfl (flat_ints l))
theorem ev_ninL {i : Int} {l : List Int} {p : Addr} (ha : Ev ta σ H (.int i)) (hb : Ev tb σ H (.ref p)) (hs : SqL K H p (l.map V.int)) : Ev (tOp (rIn K true) ta tb) σ H (.bl (!decide (i ∈ l))) := by
  rw [← inV_ints]; exact ev_op ha hb (rv_niL hs rfl (flat_ints l))
/-- a list of ints against [] -/
theorem ev_eqInts {p : Addr} {ns : List Int} (h : Ev ta σ H (.ref p)) (hs : SqL K H p (ns.map V.int)) : Ev (tOp (rEqD K) ta (tLst tNil)) σ H (.bl ns.isEmpty) :=
  ev_opL h (el_lst ea_nil (Nat.zero_le _)) fun q H1 hq e H2 e2 Q w => ⟨.list (ns.map .int), .list [], .lst (ex_l (e.trans e2) hs) (dp_ints ns), .lst (sq_of (e2 q _ hq)) .nil, shaped_ints ns, rfl, by
    have z : PyData.eqv (.list (ns.map .int)) (.list []) = ns.isEmpty := by cases ns <;> simp [PyData.eqv, PyData.eqvAll]
    rw [z]
    exact w H2 (.refl _)⟩
/-- a comprehension over a tuple of pairs -/
theorem el_lcTp2 {t : TT} {a : Addr} {xs : List V} {tl : TE} {i j : Nat} {vs : List Nat} (f : Nat → Bool) (v : Nat → V) (h : Ev tl σ H (.ref a)) (hx : SqT K H a xs) (hz : xs.length ≤ 40000) (hw : ∀ x y, wipe (((wipe σ vs).set i (some x)).set j (some y)) vs = wipe σ vs)
    (hp : ∀ (m : Nat) (x : V), xs[m]? = some x → ∃ b x1 x2, x = .ref b ∧ SqT K H b [x1, x2] ∧ (∀ H1, Ex H H1 → EvT t (((wipe σ vs).set i (some x1)).set j (some x2)) H1 (f m)) ∧ (∀ H1, Ex H H1 → f m = true → Ev te (((wipe σ vs).set i (some x1)).set j (some x2)) H1 (v m))) :
    EvL (tLc (iTup K tl) (gTup K 2 (gCons (gName i) (gCons (gName j) gNil))) t te vs) σ H (given xs.length f v) := fun H0 e Q q => h H0 e _ fun H1 e1 => ⟨a, rfl, ⟨xs, ex_t (e.trans e1) hx⟩, fun Dl hD =>
  lc_tup (xs := xs) (Cw H1 f v Dl) ⟨hD, Ex.new hD, upd_same⟩ (fun i H' _ p => ex_t ((e.trans e1).trans p.2.1) hx)
    (fun m x H' hi p => by
      obtain ⟨b, x1, x2, rfl, hb, ht, he⟩ := hp m x hi
      exact ⟨b, _, rfl, ex_t ((e.trans e1).trans p.2.1) hb, rfl, x1, _, rfl, x2, _, rfl, rfl, hw _ _, cw_turn p (by have := (List.getElem?_eq_some_iff.mp hi).1; omega) (ht H1 (e.trans e1)) (fun hf => he H1 (e.trans e1) hf)⟩) (fun H' p => q Dl H' (fresh_back e1 p.1) (e1.trans p.2.1) p.2.2)⟩
end
theorem range_get {α : Type} (l : List α) (z : α) : (List.range l.length).map (fun i => l.getD i z) = l := by
  have := range_getD l z (fun x => x)
  rwa [List.map_id'] at this
theorem given_filter (l : List Int) (g : Int → Bool) : given l.length (fun i => g (l.getD i 0)) (fun i => V.int (l.getD i 0)) = (l.filter g).map V.int := by
  unfold given
  conv => rhs; rw [← range_get l 0, List.filter_map, List.map_map]
  rfl
theorem given_ints (n : Nat) (v : Nat → Int) : given n (fun _ => true) (fun i => V.int (v i)) = ((List.range n).map v).map V.int := by
  rw [given_true, List.map_map]; rfl
theorem map_ints {l : List Int} {f : Int → Int} : (List.range l.length).map (fun i => f (l.getD i 0)) = l.map f := range_getD l 0 f
theorem rf_at {refs : List Addr} {i : Nat} {x : V} (h : (refs.map V.ref)[i]? = some x) : ∃ b, refs[i]? = some b ∧ x = .ref b := by
  rw [List.getElem?_map] at h
  cases e : refs[i]? with
  | none => rw [e] at h; cases h
  | some b => rw [e] at h; injection h with h; exact ⟨b, rfl, h.symm⟩
/-- two rising lots with the same members are one -/
theorem pw_ext : ∀ {a b : List Nat}, a.Pairwise (· < ·) → b.Pairwise (· < ·) → (∀ i, i ∈ a ↔ i ∈ b) → a = b
  | [], [], _, _, _ => rfl
  | [], y :: b, _, _, h => absurd ((h y).mpr List.mem_cons_self) List.not_mem_nil
  | x :: a, [], _, _, h => absurd ((h x).mp List.mem_cons_self) List.not_mem_nil
  | x :: a, y :: b, ha, hb, h => by
    rw [List.pairwise_cons] at ha hb
    have e : x = y := by
      rcases List.mem_cons.mp ((h x).mp List.mem_cons_self) with q | q
      · exact q
      · rcases List.mem_cons.mp ((h y).mpr List.mem_cons_self) with r | r
        · exact r.symm
        · have := ha.1 y r; have := hb.1 x q; omega
    subst e
    rw [pw_ext ha.2 hb.2 fun i => ?_]
    constructor
    · intro hi
      rcases List.mem_cons.mp ((h i).mp (List.mem_cons_of_mem _ hi)) with q | q
      · have := ha.1 i hi; omega
      · exact q
    · intro hi
      rcases List.mem_cons.mp ((h i).mpr (List.mem_cons_of_mem _ hi)) with q | q
      · have := hb.1 i hi; omega
      · exact q
/-! ### sums of rows -/
def wsumT (p : Int) (w : Nat) (wt : Ro) (R : Mx) (k : Nat) : Ro := (List.range w).map fun i => sumTo (fun x => nth wt x * ent R x i) k % p
def wsum (s : Shp) (wt : Ro) (R : Mx) : Ro := wsumT s.p s.w wt R s.n
def sumsM (s : Shp) (R : Mx) : Mx := s.t.map fun wt => wsum s wt R
def stripeM (s : Shp) (R : Mx) : Mx := sumsM s R ++ R
theorem len_wsumT {p : Int} {w : Nat} {wt : Ro} {R : Mx} {k : Nat} : (wsumT p w wt R k).length = w := by simp [wsumT]
theorem nth_wsumT {p : Int} {w : Nat} {wt : Ro} {R : Mx} {k i : Nat} (h : i < w) : nth (wsumT p w wt R k) i = sumTo (fun x => nth wt x * ent R x i) k % p := by
  show (wsumT p w wt R k).getD i 0 = _
  rw [getD_lt (by rw [len_wsumT]; exact h)]
  unfold wsumT
  rw [List.getElem_map, List.getElem_range]
theorem wf_wsumT {p : Int} {w : Nat} {wt : Ro} {R : Mx} {k : Nat} (hp : 0 < p) : ∀ x ∈ wsumT p w wt R k, 0 ≤ x ∧ x < p := fun x hx => by
  obtain ⟨i, _, rfl⟩ := List.mem_map.mp hx
  exact ⟨Int.emod_nonneg _ (by omega), Int.emod_lt_of_pos _ hp⟩
theorem wsumT_zero {p : Int} {w : Nat} {wt : Ro} {R : Mx} : wsumT p w wt R 0 = List.replicate w 0 := by
  unfold wsumT
  rw [List.eq_replicate_iff]
  refine ⟨by simp, fun x hx => ?_⟩
  obtain ⟨i, _, rfl⟩ := List.mem_map.mp hx
  exact Int.zero_emod p
theorem wsumT_step {p : Int} {w : Nat} {wt : Ro} {R : Mx} {k i : Nat} (h : i < w) : (nth (wsumT p w wt R k) i + nth wt k * ent R k i) % p = nth (wsumT p w wt R (k + 1)) i := by
  rw [nth_wsumT h, nth_wsumT h, Int.emod_add_emod]
  rfl
theorem len_sumsM {s : Shp} {R : Mx} : (sumsM s R).length = s.c := by simp [sumsM, Shp.c]
theorem row_sumsM {s : Shp} {R : Mx} {j : Nat} (h : j < s.c) : row (sumsM s R) j = wsum s (row s.t j) R := by
  unfold sumsM
  show (List.map _ _).getD j [] = _
  rw [getD_lt (by rw [List.length_map]; exact h), List.getElem_map]
  show wsum s _ R = wsum s (s.t.getD j []) R
  rw [getD_lt (show j < s.t.length from h)]
theorem len_stripeM {s : Shp} {R : Mx} : (stripeM s R).length = s.c + R.length := by simp [stripeM, len_sumsM]
theorem wf_stripeM {s : Shp} {R : Mx} (hp : 0 < s.p) (w : WF s.p s.w R) : WF s.p s.w (stripeM s R) := fun r hr => by
  rcases List.mem_append.mp hr with h | h
  · obtain ⟨wt, _, rfl⟩ := List.mem_map.mp h
    exact ⟨len_wsumT, wf_wsumT hp⟩
  · exact w r h
/-! ### changes, stories, as objects -/
def setAll (R : Mx) : List (Nat × Ro) → Mx
  | [] => R
  | c :: cs => setAll (R.set c.1 c.2) cs
theorem len_setAll : ∀ {cs : List (Nat × Ro)} {R : Mx}, (setAll R cs).length = R.length
  | [], _ => rfl
  | c :: cs, R => by show (setAll (R.set c.1 c.2) cs).length = _; rw [len_setAll]; simp
theorem wf_set {p : Int} {w i : Nat} {R : Mx} {r : Ro} (h : WF p w R) (hr : r.length = w ∧ ∀ x ∈ r, 0 ≤ x ∧ x < p) : WF p w (R.set i r) := fun x hx => by
  rcases List.mem_or_eq_of_mem_set hx with q | q
  · exact h x q
  · rw [q]; exact hr
theorem wf_setAll {p : Int} {w : Nat} : ∀ {cs : List (Nat × Ro)} {R : Mx}, WF p w R → (∀ c ∈ cs, c.2.length = w ∧ ∀ x ∈ c.2, 0 ≤ x ∧ x < p) → WF p w (setAll R cs)
  | [], _, h, _ => h
  | c :: cs, R, h, hc => wf_setAll (cs := cs) (R := R.set c.1 c.2) (wf_set h (hc c List.mem_cons_self)) fun d hd => hc d (List.mem_cons_of_mem _ hd)
theorem setAll_snoc : ∀ {cs : List (Nat × Ro)} {R : Mx} {c : Nat × Ro}, setAll R (cs ++ [c]) = (setAll R cs).set c.1 c.2
  | [], _, _ => rfl
  | d :: cs, R, c => setAll_snoc (cs := cs) (R := R.set d.1 d.2)
structure Sto where
  r : Mx
  ch : List (Nat × Ro)
  cm : List Nat
def Sto.b (t : Sto) : Mx := setAll t.r t.ch
def natI (l : List Nat) : List Int := l.map fun (i : Nat) => (i : Int)
def chD (ch : List (Nat × Ro)) : PyData := .tuple (ch.map fun c => .tuple [.int c.1, intsD c.2])
def stD (t : Sto) : PyData := .tuple [matD t.r, chD t.ch, intsD (natI t.cm)]
structure Sto.Ok (s : Shp) (t : Sto) : Prop where
  r : WF s.p s.w t.r
  n : t.r.length = s.n
  k : t.ch.length ≤ s.k
  c : ∀ c ∈ t.ch, c.1 < s.n ∧ c.2.length = s.w ∧ (∀ x ∈ c.2, 0 ≤ x ∧ x < s.p) ∧ c.2 ≠ row t.r c.1
  cs : (t.ch.map (·.1)).Pairwise (· < ·)
  m : ∀ i ∈ t.cm, i < s.c + s.n
  ms : t.cm.Pairwise (· < ·)
  mc : ∀ i ∈ t.cm, s.c ≤ i → ∃ c ∈ t.ch, i = s.c + c.1
  w : s.m = 0 ∨ (∀ i ∈ t.cm, i < s.c) ∨ (∀ j, j < s.c → j ∈ t.cm)
def CH (K : PySem.W.Frag) (c : Addr) (ch : List (Nat × Ro)) (H : Hp) : Prop := ∃ refs : List Addr, SqT K H c (refs.map V.ref) ∧ refs.length = ch.length ∧ ∀ (i : Nat) (b : Addr) (x : Nat × Ro), refs[i]? = some b → ch[i]? = some x → ∃ cb, SqT K H b [.int x.1, .ref cb] ∧ SqT K H cb (x.2.map V.int)
def St (K : PySem.W.Frag) (a : Addr) (t : Sto) (H : Hp) : Prop := ∃ r c m, SqT K H a [.ref r, .ref c, .ref m] ∧ MT K r t.r H ∧ CH K c t.ch H ∧ SqT K H m ((natI t.cm).map V.int)
/-- a list of cells that may be set -/
def MTl (K : PySem.W.Frag) (l : Addr) (M : Mx) (H : Hp) : Prop := ∃ refs : List Addr, H l = some (.lst (refs.map V.ref)) ∧ refs.length = M.length ∧ ∀ i b, refs[i]? = some b → SqT K H b ((row M i).map V.int)
def CellV (K : PySem.W.Frag) (H : Hp) (v : V) : Option Ro → Prop
  | none => v = .non
  | some r => ∃ b, v = .ref b ∧ SqT K H b (r.map V.int)
/-- a list, a tuple of N cells or Nones -/
def LO (K : PySem.W.Frag) (l : Addr) (N : Nat) (f : Nat → Option Ro) (H : Hp) : Prop := ∃ vs, H l = some (.lst vs) ∧ vs.length = N ∧ ∀ i v, vs[i]? = some v → CellV K H v (f i)
def TupO (K : PySem.W.Frag) (l : Addr) (N : Nat) (f : Nat → Option Ro) (H : Hp) : Prop := ∃ vs, SqT K H l vs ∧ vs.length = N ∧ ∀ i v, vs[i]? = some v → CellV K H v (f i)
section
variable {K : PySem.W.Frag} {σ : L2.St} {H H' : Hp} {te ta tb : TE} {x y z v : V} {D : Ends} {tz tu : TS} {a l : Addr} {M : Mx} {N : Nat} {f : Nat → Option Ro} {o : Option Ro}
theorem CellV.kp (e : Kp H H') (h : CellV K H v o) : CellV K H' v o := by
  cases o with
  | none => exact h
  | some r => obtain ⟨b, h1, h2⟩ := h; exact ⟨b, h1, e.sqT h2⟩
theorem CH.kp {c : Addr} {ch : List (Nat × Ro)} (e : Kp H H') (h : CH K c ch H) : CH K c ch H' := let ⟨refs, h1, h2, h3⟩ := h; ⟨refs, e.sqT h1, h2, fun i b x hb hx => let ⟨cb, q1, q2⟩ := h3 i b x hb hx; ⟨cb, e.sqT q1, e.sqT q2⟩⟩
theorem St.kp {t : Sto} (e : Kp H H') (h : St K a t H) : St K a t H' := let ⟨r, c, m, h1, h2, h3, h4⟩ := h; ⟨r, c, m, e.sqT h1, h2.kp e, h3.kp e, e.sqT h4⟩
theorem St.ex {t : Sto} (e : Ex H H') (h : St K a t H) : St K a t H' := h.kp (.ex e)
theorem TupO.kp (e : Kp H H') (h : TupO K l N f H) : TupO K l N f H' := let ⟨vs, h1, h2, h3⟩ := h; ⟨vs, e.sqT h1, h2, fun i v hv => (h3 i v hv).kp e⟩
theorem LO.ex (e : Ex H H') (h : LO K l N f H) : LO K l N f H' := let ⟨vs, h1, h2, h3⟩ := h; ⟨vs, e _ _ h1, h2, fun i v hv => (h3 i v hv).kp (.ex e)⟩
theorem LO.set {j : Nat} (h : LO K l N f H) (hj : j < N) (hv : CellV K H v o) : ∃ vs, H l = some (.lst vs) ∧ j < vs.length ∧ LO K l N (fun i => if i = j then o else f i) (upd H l (.lst (vs.set j v))) := by
  obtain ⟨vs, h1, h2, h3⟩ := h
  refine ⟨vs, h1, by omega, _, upd_same, by rw [List.length_set, h2], fun i w hw => ?_⟩
  rw [List.getElem?_set] at hw
  by_cases c : j = i
  · subst c
    rw [if_pos rfl, if_pos (by omega)] at hw
    injection hw with hw
    subst hw
    show CellV K _ _ (if j = j then o else f j)
    rw [if_pos rfl]
    exact hv.kp (.lst h1)
  · rw [if_neg c] at hw
    show CellV K _ _ (if i = j then o else f i)
    rw [if_neg (Ne.symm c)]
    exact (h3 i w hw).kp (.lst h1)
/-- tuple(l) -/
theorem en_tupO (h : Ev te σ H (.ref l)) (hl : LO K l N f H) : EvN (tCB (rTupOf K) (tCons te tNil)) σ H (fun t H' => TupO K t N f H') := fun H1 e Q q => by
  obtain ⟨vs, h1, h2, h3⟩ := hl
  exact h H1 e _ fun H2 e2 => ⟨l, vs, rfl, .inl ⟨sq_of ((e.trans e2) _ _ h1), fun t nt => q t _ (fresh_back e2 nt) (e2.trans (Ex.new nt)) ⟨vs, st_of upd_same, h2, fun i v hv => (h3 i v hv).kp (.ex ((e.trans e2).trans (Ex.new nt)))⟩⟩⟩
/-- l[j] = v -/
theorem s_setO {j : Nat} (hl : LO K l N f H) (h : Ev te σ H v) (hv : CellV K H v o) (ho : Ev ta σ H (.ref l)) (hi : Ev tb σ H (.int (j : Int))) (hj : j < N) (k : ∀ H1 vs, Ex H H1 → LO K l N (fun i => if i = j then o else f i) (upd H1 l (.lst vs)) → D.nx σ (upd H1 l (.lst vs))) :
    tAsg te (gSub ta tb rSetL) D σ H := by
  obtain ⟨vs, h1, h2, h3⟩ := id hl
  refine s_setL (j := j) h1 h ho hi (by omega) fun H1 e1 => k H1 _ e1 ?_
  obtain ⟨vs', q1, q2, q3⟩ := (hl.ex e1).set hj (hv.kp (.ex e1))
  rw [e1 _ _ h1] at q1
  injection q1 with q1
  injection q1 with q1
  subst q1
  exact q3
end
end Own


set_option maxHeartbeats 1000000
namespace Own
open PySem PySem.Spec PyProof.Rows L2
open Evl
/-! ### comprehensions that draw -/
def PLsX (H0 : Hp) (a : Addr) (n : Nat) (P : Nat → VP) : VP := fun v H => ∃ b xs, v = .ref b ∧ H0 b = none ∧ b ≠ a ∧ H b = some (.lst xs) ∧ xs.length = n ∧ ∀ i x, xs[i]? = some x → P i x H
def PTX (K : PySem.W.Frag) (n : Nat) (P : Nat → VP) : VP := fun v H => ∃ b xs, v = .ref b ∧ SqT K H b xs ∧ xs.length = n ∧ ∀ i x, xs[i]? = some x → P i x H
/-- a new list of some of n things, in their order -/
def PSubF (H0 : Hp) (a : Addr) (n : Nat) (v : Nat → V) : VP := fun x H => ∃ (b : Addr) (S : List Nat), x = .ref b ∧ H0 b = none ∧ b ≠ a ∧ H b = some (.lst (S.map v)) ∧ S.Pairwise (· < ·) ∧ ∀ i ∈ S, i < n
/-- a test that draws -/
def EvST (a : Addr) (tt : TT) (σ : L2.St) (H : Hp) : Prop := ∀ H1, Up a H H1 → ∀ Q : Bool → Hp → Prop, (∀ b H2, Up a H1 H2 → Q b H2) → tt σ H1 Q
section
variable {K : PySem.W.Frag} {a : Addr} {σ : L2.St} {H H' : Hp} {te ta tb tl : TE} {tt uu : TT} {x y z w v : V} {D : Ends} {tz tu t : TS} {P : VP}
theorem up_mut {b : Addr} {o : HO} {H0 : Hp} (u : Up a H0 H) (nb : b ≠ a) (hb : H0 b = none) : Up a H0 (upd H b o) := ⟨fun c q nc hc => by rw [upd_ne (ne_of_none hc hb)]; exact u.keep c q nc hc, let ⟨x, y, h, r⟩ := u.src; ⟨x, y, by rw [upd_ne nb.symm]; exact h, r⟩⟩
theorem snoc_at {α : Type} {l : List α} {y x : α} {i : Nat} (h : (l ++ [y])[i]? = some x) : (i < l.length ∧ l[i]? = some x) ∨ (i = l.length ∧ x = y) := by
  by_cases c : i < l.length
  · rw [List.getElem?_append_left c] at h; exact .inl ⟨c, h⟩
  · rw [List.getElem?_append_right (by omega)] at h
    have z : i - l.length = 0 := by
      refine Nat.eq_zero_of_not_pos fun q => ?_
      rw [List.getElem?_eq_none (by simp; omega)] at h
      cases h
    rw [z] at h
    simp at h
    exact .inr ⟨by omega, h.symm⟩
/-- the step of a comprehension whose item is drawn -/
theorem lcD_step {P : Nat → VP} (mk : ∀ i, MonoK (P i)) {H2 H3 H4 : Hp} {Dl : Addr} {acc : List V} {y : V} {n : Nat} (hD : H2 Dl = none) (nD : Dl ≠ a) (u3 : Up a H2 H3) (hacc : H3 Dl = some (.lst acc)) (hl : acc.length = n) (hp : ∀ i x, acc[i]? = some x → P i x H3) (u4 : Up a H3 H4) (py : P n y H4) :
    Up a H2 (upd H4 Dl (.lst (acc ++ [y]))) ∧ ∃ ac2, (upd H4 Dl (.lst (acc ++ [y]))) Dl = some (.lst ac2) ∧ ac2.length = n + 1 ∧ ∀ i x, ac2[i]? = some x → P i x (upd H4 Dl (.lst (acc ++ [y]))) := by
  have h4 := u4.keep Dl _ nD hacc
  have kp : Kp H3 (upd H4 Dl (.lst (acc ++ [y]))) := (u4.kp u3.src).trans (.lst h4)
  refine ⟨up_mut (u3.trans u4) nD hD, _, upd_same, by rw [List.length_append, hl]; rfl, fun i x hx => ?_⟩
  rcases snoc_at hx with ⟨_, q⟩ | ⟨q1, q2⟩
  · exact mk i x _ _ kp (hp i x q)
  · rw [q1, hl, q2]; exact mk n y _ _ (.lst h4) py
theorem es_lcE {P : Nat → VP} {elt : TE} {j n : Nat} {vs : List Nat} (e0 : ∀ H1, Up a H H1 → Ev te σ H1 (.int (n : Int))) (hn : n ≤ 1000) (hw : ∀ x, wipe ((wipe σ vs).set j (some x)) vs = wipe σ vs)
    (he : ∀ (i : Nat) H1, Up a H H1 → i < n → EvS a elt ((wipe σ vs).set j (some (.int (i : Int)))) H1 (P i)) (mk : ∀ i, MonoK (P i)) : EvS a (tLc (iRng1 (tCons te tNil)) (gName j) tYes elt vs) σ H (PLsX H a n P) :=
  fun H1 u Q q => e0 H1 u H1 (.refl H1) _ fun H2 e2 => ⟨(n : Int), rfl, by omega, by omega, fun Dl hD => by
    have uE := u.trans (.ex e2 u.src)
    have nD : Dl ≠ a := uE.src.new hD
    exact lc_range (lo := 0) (n := (n : Int).toNat) (fun i H' => Up a H2 H' ∧ ∃ acc, H' Dl = some (.lst acc) ∧ acc.length = i ∧ ∀ k x, acc[k]? = some x → P k x H') ⟨.ex (Ex.new hD) uE.src, [], upd_same, rfl, fun k x h => by simp at h⟩
      (fun i H' hi ⟨u3, acc, hacc, hl, hp⟩ => by
        show wipe ((wipe σ vs).set j (some (.int ((0 : Int) + (i : Int))))) vs = wipe σ vs ∧ elt ((wipe σ vs).set j (some (.int ((0 : Int) + (i : Int))))) H' fun y H4 => ∃ acc, H4 Dl = some (.lst acc) ∧ acc.length < sizeLine ∧ (Up a H2 (upd H4 Dl (.lst (acc ++ [y]))) ∧ ∃ ac2, (upd H4 Dl (.lst (acc ++ [y]))) Dl = some (.lst ac2) ∧ ac2.length = i + 1 ∧ ∀ k x, ac2[k]? = some x → P k x (upd H4 Dl (.lst (acc ++ [y]))))
        rw [Int.zero_add]
        exact ⟨hw _, he i H' (uE.trans u3) (by omega) H' (.refl u3.src) _ fun y H4 u4 py => ⟨acc, u4.keep Dl _ nD hacc, sz_lt (by omega), lcD_step mk hD nD u3 hacc hl hp u4 py⟩⟩)
      (fun H' ⟨u3, acc, hacc, hl, hp⟩ => q _ _ ((Up.ex e2 u.src).trans u3) ⟨Dl, acc, rfl, up_back uE nD hD, nD, hacc, by omega, hp⟩)⟩
/-- .. over a list that stands -/
theorem es_lcLi {P : Nat → VP} {elt : TE} {j : Nat} {l : Addr} {xs : List V} {vs : List Nat} (nl : l ≠ a) (hl0 : H l = some (.lst xs)) (e0 : ∀ H1, Up a H H1 → Ev te σ H1 (.ref l)) (hn : xs.length ≤ 1000) (hw : ∀ x, wipe ((wipe σ vs).set j (some x)) vs = wipe σ vs)
    (he : ∀ (i : Nat) (x : V) H1, Up a H H1 → xs[i]? = some x → EvS a elt ((wipe σ vs).set j (some x)) H1 (P i)) (mk : ∀ i, MonoK (P i)) : EvS a (tLc (iList K te) (gName j) tYes elt vs) σ H (PLsX H a xs.length P) :=
  fun H1 u Q q => e0 H1 u H1 (.refl H1) _ fun H2 e2 => ⟨l, rfl, ⟨xs, sq_of (e2 _ _ (u.keep l _ nl hl0))⟩, fun Dl hD => by
    have uE := u.trans (.ex e2 u.src)
    have nD : Dl ≠ a := uE.src.new hD
    exact lc_list (xs := xs) (fun i H' => Up a H2 H' ∧ ∃ acc, H' Dl = some (.lst acc) ∧ acc.length = i ∧ ∀ k x, acc[k]? = some x → P k x H') ⟨.ex (Ex.new hD) uE.src, [], upd_same, rfl, fun k x h => by simp at h⟩
      (fun i H' _ p => sq_of ((uE.trans p.1).keep l _ nl hl0))
      (fun i x H' hi ⟨u3, acc, hacc, hl, hp⟩ => ⟨hw _, yesT (he i x H' (uE.trans u3) hi H' (.refl u3.src) _ fun y H4 u4 py => ⟨acc, u4.keep Dl _ nD hacc, sz_lt (by have := (List.getElem?_eq_some_iff.mp hi).1; omega), lcD_step mk hD nD u3 hacc hl hp u4 py⟩)⟩)
      (fun H' ⟨u3, acc, hacc, hl, hp⟩ => q _ _ ((Up.ex e2 u.src).trans u3) ⟨Dl, acc, rfl, up_back uE nD hD, nD, hacc, by omega, hp⟩)⟩
/-- [v(j) for j in range(n) if a test that draws] -/
theorem es_lcRT {elt : TE} {j n : Nat} {vs : List Nat} (v : Nat → V) (e0 : ∀ H1, Up a H H1 → Ev te σ H1 (.int (n : Int))) (hn : n ≤ 1000) (hw : ∀ x, wipe ((wipe σ vs).set j (some x)) vs = wipe σ vs)
    (ht : ∀ (i : Nat) H1, Up a H H1 → i < n → EvST a tt ((wipe σ vs).set j (some (.int (i : Int)))) H1) (he : ∀ (i : Nat) H1, Up a H H1 → i < n → Ev elt ((wipe σ vs).set j (some (.int (i : Int)))) H1 (v i)) : EvS a (tLc (iRng1 (tCons te tNil)) (gName j) tt elt vs) σ H (PSubF H a n v) :=
  fun H1 u Q q => e0 H1 u H1 (.refl H1) _ fun H2 e2 => ⟨(n : Int), rfl, by omega, by omega, fun Dl hD => by
    have uE := u.trans (.ex e2 u.src)
    have nD : Dl ≠ a := uE.src.new hD
    exact lc_range (lo := 0) (n := (n : Int).toNat) (fun i H' => Up a H2 H' ∧ ∃ S : List Nat, H' Dl = some (.lst (S.map v)) ∧ S.Pairwise (· < ·) ∧ (∀ k ∈ S, k < i) ∧ S.length ≤ i) ⟨.ex (Ex.new hD) uE.src, [], upd_same, .nil, fun k h => absurd h List.not_mem_nil, Nat.le_refl 0⟩
      (fun i H' hi ⟨u3, S, hacc, hS, hlt, hSl⟩ => by
        show wipe ((wipe σ vs).set j (some (.int ((0 : Int) + (i : Int))))) vs = wipe σ vs ∧ tt ((wipe σ vs).set j (some (.int ((0 : Int) + (i : Int))))) H' fun b H3 => if b = true then elt ((wipe σ vs).set j (some (.int ((0 : Int) + (i : Int))))) H3 fun y H4 => ∃ acc, H4 Dl = some (.lst acc) ∧ acc.length < sizeLine ∧ (Up a H2 (upd H4 Dl (.lst (acc ++ [y]))) ∧ ∃ S : List Nat, (upd H4 Dl (.lst (acc ++ [y]))) Dl = some (.lst (S.map v)) ∧ S.Pairwise (· < ·) ∧ (∀ k ∈ S, k < i + 1) ∧ S.length ≤ i + 1)
          else (Up a H2 H3 ∧ ∃ S : List Nat, H3 Dl = some (.lst (S.map v)) ∧ S.Pairwise (· < ·) ∧ (∀ k ∈ S, k < i + 1) ∧ S.length ≤ i + 1)
        rw [Int.zero_add]
        refine ⟨hw _, ht i H' (uE.trans u3) (by omega) H' (.refl u3.src) _ fun b H3 u4 => ?_⟩
        have h3 := u4.keep Dl _ nD hacc
        cases b with
        | false => exact ⟨u3.trans u4, S, h3, hS, fun k hk => by have := hlt k hk; omega, by omega⟩
        | true =>
          refine he i H3 ((uE.trans u3).trans u4) (by omega) H3 (.refl H3) _ fun H4 e4 => ⟨S.map v, e4 _ _ h3, sz_lt (by rw [List.length_map]; omega), up_mut ((u3.trans u4).trans (.ex e4 u4.src)) nD hD, S ++ [i], by rw [upd_same, List.map_append]; rfl, ?_, fun k hk => ?_, by simp; omega⟩
          · rw [List.pairwise_append]
            exact ⟨hS, by simp, fun x hx y hy => by rw [List.mem_singleton.mp hy]; exact hlt x hx⟩
          · rcases List.mem_append.mp hk with q | q
            · have := hlt k q; omega
            · rw [List.mem_singleton.mp q]; omega)
      (fun H' ⟨u3, S, hacc, hS, hlt, _⟩ => q _ _ ((Up.ex e2 u.src).trans u3) ⟨Dl, S, rfl, up_back uE nD hD, nD, hacc, hS, fun k hk => hlt k hk⟩)⟩
/-- [v(x) for x in xs if a test that draws] -/
theorem es_lcLT {elt : TE} {j : Nat} {l : Addr} {xs : List V} {vs : List Nat} (v : Nat → V) (nl : l ≠ a) (hl0 : H l = some (.lst xs)) (e0 : ∀ H1, Up a H H1 → Ev te σ H1 (.ref l)) (hn : xs.length ≤ 1000) (hw : ∀ x, wipe ((wipe σ vs).set j (some x)) vs = wipe σ vs)
    (ht : ∀ (i : Nat) (x : V) H1, Up a H H1 → xs[i]? = some x → EvST a tt ((wipe σ vs).set j (some x)) H1) (he : ∀ (i : Nat) (x : V) H1, Up a H H1 → xs[i]? = some x → Ev elt ((wipe σ vs).set j (some x)) H1 (v i)) : EvS a (tLc (iList K te) (gName j) tt elt vs) σ H (PSubF H a xs.length v) :=
  fun H1 u Q q => e0 H1 u H1 (.refl H1) _ fun H2 e2 => ⟨l, rfl, ⟨xs, sq_of (e2 _ _ (u.keep l _ nl hl0))⟩, fun Dl hD => by
    have uE := u.trans (.ex e2 u.src)
    have nD : Dl ≠ a := uE.src.new hD
    exact lc_list (xs := xs) (fun i H' => Up a H2 H' ∧ ∃ S : List Nat, H' Dl = some (.lst (S.map v)) ∧ S.Pairwise (· < ·) ∧ (∀ k ∈ S, k < i) ∧ S.length ≤ i) ⟨.ex (Ex.new hD) uE.src, [], upd_same, .nil, fun k h => absurd h List.not_mem_nil, Nat.le_refl 0⟩
      (fun i H' _ p => sq_of ((uE.trans p.1).keep l _ nl hl0))
      (fun i x H' hi ⟨u3, S, hacc, hS, hlt, hSl⟩ => by
        have hix := (List.getElem?_eq_some_iff.mp hi).1
        refine ⟨hw _, ht i x H' (uE.trans u3) hi H' (.refl u3.src) _ fun b H3 u4 => ?_⟩
        have h3 := u4.keep Dl _ nD hacc
        cases b with
        | false => exact ⟨u3.trans u4, S, h3, hS, fun k hk => by have := hlt k hk; omega, by omega⟩
        | true =>
          refine he i x H3 ((uE.trans u3).trans u4) hi H3 (.refl H3) _ fun H4 e4 => ⟨S.map v, e4 _ _ h3, sz_lt (by rw [List.length_map]; omega), up_mut ((u3.trans u4).trans (.ex e4 u4.src)) nD hD, S ++ [i], by rw [upd_same, List.map_append]; rfl, ?_, fun k hk => ?_, by simp; omega⟩
          · rw [List.pairwise_append]
            exact ⟨hS, by simp, fun x hx y hy => by rw [List.mem_singleton.mp hy]; exact hlt x hx⟩
          · rcases List.mem_append.mp hk with q | q
            · have := hlt k q; omega
            · rw [List.mem_singleton.mp q]; omega)
      (fun H' ⟨u3, S, hacc, hS, hlt, _⟩ => q _ _ ((Up.ex e2 u.src).trans u3) ⟨Dl, S, rfl, up_back uE nD hD, nD, hacc, hS, fun k hk => hlt k hk⟩)⟩
theorem es_tupX {H0 : Hp} {n : Nat} {P : Nat → VP} (h : EvS a te σ H (PLsX H0 a n P)) (mk : ∀ i, MonoK (P i)) : EvS a (tCB (rTupOf K) (tCons te tNil)) σ H (PTX K n P) :=
  fun H1 u Q q => h H1 u _ fun v H2 u2 ⟨b, xs, ev, _, _, hb, hl, hp⟩ => ⟨b, xs, by rw [ev], .inl ⟨sq_of hb, fun l hl2 => q _ _ (u2.trans (.ex (Ex.new hl2) u2.src)) ⟨l, xs, rfl, st_of upd_same, hl, fun i x hx => mk i x _ _ (.new hl2) (hp i x hx)⟩⟩⟩
theorem monoK_ptx {n : Nat} {P : Nat → VP} (m : ∀ i, MonoK (P i)) : MonoK (PTX K n P) := fun _ _ _ e ⟨b, xs, ev, hb, hl, hp⟩ => ⟨b, xs, ev, e.sqT hb, hl, fun i x hx => m i x _ _ e (hp i x hx)⟩
theorem et_st (h : EvS a te σ H (fun v _ => ∃ b, v = .bl b)) : EvST a (tTest te) σ H := fun H1 u Q q => h H1 u _ fun v H2 u2 ⟨b, e⟩ => ⟨b, e, q b H2 u2⟩
theorem est_or (h : EvST a tt σ H) (h2 : EvST a uu σ H) : EvST a (tOr tt uu) σ H := fun H1 u Q q => h H1 u _ fun b H2 u2 => by
  cases b with
  | true => exact q true H2 u2
  | false => exact h2 H2 (u.trans u2) Q fun b H3 u3 => q b H3 (u2.trans u3)
theorem est_and (h : EvST a tt σ H) (h2 : EvST a uu σ H) : EvST a (tAnd tt uu) σ H := fun H1 u Q q => h H1 u _ fun b H2 u2 => by
  cases b with
  | false => exact q false H2 u2
  | true => exact h2 H2 (u.trans u2) Q fun b H3 u3 => q b H3 (u2.trans u3)
theorem est_of {f : Hp → Bool} (h : ∀ H1, Up a H H1 → EvT tt σ H1 (f H1)) : EvST a tt σ H := fun H1 u Q q => h H1 u H1 (.refl H1) Q fun H2 e2 => q _ H2 (.ex e2 u.src)
/-- number of a draw against one that is written -/
theorem est_cmpEq {lo hi k : Int} (h : EvS a te σ H (PInt lo hi)) : EvST a (tTest (tOp rEq te (tC (.int k)))) σ H := fun H1 u Q q => h H1 u _ fun v H2 u2 ⟨i, e, _⟩ => by
  subst e
  exact ⟨rfl, _, rfl, q _ H2 u2⟩
theorem est_cmpGt {lo hi k : Int} (h : EvS a te σ H (PInt lo hi)) : EvST a (tTest (tOp rGtI te (tC (.int k)))) σ H := fun H1 u Q q => h H1 u _ fun v H2 u2 ⟨i, e, _⟩ => by
  subst e
  exact ⟨i, k, rfl, rfl, _, rfl, q _ H2 u2⟩
/-- a tuple of rows, drawn -/
def PMat (K : PySem.W.Frag) (p : Int) (w n : Nat) : VP := fun v H => ∃ t M, v = .ref t ∧ MT K t M H ∧ WF p w M ∧ M.length = n
theorem monoK_mat {p : Int} {w n : Nat} : MonoK (PMat K p w n) := fun _ _ _ e ⟨t, M, ev, h1, h2⟩ => ⟨t, M, ev, h1.kp e, h2⟩
theorem mat_of {p : Int} {w n : Nat} (h : PTX K n (fun _ => Rig K p w) v H) : PMat K p w n v H := by
  obtain ⟨b, xs, rfl, hb, hl, hp⟩ := h
  have key : ∀ xs : List V, (∀ (i : Nat) x, xs[i]? = some x → Rig K p w x H) → ∃ (refs : List Addr) (M : Mx), xs = refs.map V.ref ∧ refs.length = M.length ∧ WF p w M ∧ ∀ i b, refs[i]? = some b → SqT K H b ((row M i).map V.int) := fun xs => by
    induction xs with
    | nil => exact fun _ => ⟨[], [], rfl, rfl, fun r hr => absurd hr List.not_mem_nil, fun i b hb => by simp at hb⟩
    | cons x xs ih =>
      intro h
      obtain ⟨refs, M, e, hl, w', hr⟩ := ih fun i y hy => h (i + 1) y (by simpa using hy)
      obtain ⟨c, r, rfl, hc, hrl, hrb⟩ := h 0 x rfl
      refine ⟨c :: refs, r :: M, by rw [e]; rfl, by simp [hl], fun y hy => ?_, fun i d hd => ?_⟩
      · rcases List.mem_cons.mp hy with q | q
        · rw [q]; exact ⟨hrl, hrb⟩
        · exact w' y q
      · cases i with
        | zero => simp at hd; subst hd; exact hc
        | succ i => exact hr i d (by simpa using hd)
  obtain ⟨refs, M, rfl, h1, h2, h3⟩ := key xs hp
  exact ⟨b, M, rfl, ⟨refs, hb, h1, h3⟩, h2, by rw [← h1, ← hl, List.length_map]⟩
theorem rig_of {p : Int} {n : Nat} (h : PTX K n (fun _ => PInt 0 (p - 1)) v H) : Rig K p n v H := by
  obtain ⟨b, xs, rfl, hb, hl, hp⟩ := h
  obtain ⟨r, rfl, hl2, hr⟩ := ints_of (lo := 0) (hi := p - 1) (H := H) (xs := xs) fun x hx => by
    obtain ⟨i, hi, e⟩ := List.mem_iff_getElem.mp hx
    exact hp i x (by rw [List.getElem?_eq_getElem hi, e])
  exact ⟨b, r, rfl, hb, by omega, fun x hx => by have := hr x hx; omega⟩
theorem ss_tupPQ {P R : VP} {i j : Nat} (s : Src H a) (h1 : EvS a ta σ H P) (h2 : EvS a tb σ H R) (m : Mono a P) (k : ∀ x y H1 H2, Up a H H1 → Ex H1 H2 → P x H1 → R y H1 → D.nx ((σ.set i (some x)).set j (some y)) H2) :
    tAsg (tTup (tCons ta (tCons tb tNil))) (gTup K 2 (gCons (gName i) (gCons (gName j) gNil))) D σ H :=
  h1 H (.refl s) _ fun x H1 u1 p => h2 H1 u1 _ fun y H2 u2 r => ⟨by show 2 ≤ sizeLine; decide, fun t nt => ⟨t, _, rfl, st_of upd_same, rfl, x, _, rfl, y, _, rfl, rfl, k x y H2 _ (u1.trans u2) (Ex.new nt) (m x H1 H2 u1.src u2 p) r⟩⟩
theorem ss_parPQ {P R : VP} {i j : Nat} (s : Src H a) (h1 : EvS a ta σ H P) (h2 : EvS a tb σ H R) (m : Mono a P) (k : ∀ x y H1, Up a H H1 → P x H1 → R y H1 → D.nx ((σ.set i (some x)).set j (some y)) H1) :
    tPar i j (tCons ta (tCons tb tNil)) D σ H :=
  h1 H (.refl s) _ fun x H1 u1 p => h2 H1 u1 _ fun y H2 u2 r => ⟨x, y, rfl, k x y H2 (u1.trans u2) (m x H1 H2 u1.src u2 p) r⟩
theorem es_ev {P : VP} (h : ∀ H1, Up a H H1 → Ev te σ H1 v) (p : ∀ H1, Up a H H1 → P v H1) : EvS a te σ H P := fun H1 u Q q => h H1 u H1 (.refl H1) _ fun H2 e => q v H2 (.ex e u.src) (p H2 (u.trans (.ex e u.src)))
def PPrm : VP := fun v _ => ∃ p, v = .int p ∧ Prm p
theorem mono_prm : Mono a PPrm := fun _ _ _ _ _ h => h
def numV : V → Int
  | .int i => i
  | _ => 0
/-- an arrangement of numbers is one of numbers -/
theorem perm_ints {ys : List V} {l : List Int} (h : ys.Perm (l.map V.int)) : ∃ ns : List Int, ys = ns.map V.int ∧ ns.Perm l := by
  refine ⟨ys.map numV, ?_, ?_⟩
  · rw [List.map_map]
    refine (List.map_id' ys).symm.trans (List.map_congr_left fun y hy => ?_)
    obtain ⟨i, _, rfl⟩ := List.mem_map.mp (h.mem_iff.mp hy)
    rfl
  · have := h.map numV
    rw [List.map_map] at this
    exact this.trans (by rw [show (numV ∘ V.int) = id from rfl, List.map_id])
/-- rising: from no more than to less than, where none stands twice -/
theorem strict_of : ∀ {l : List Int}, l.Pairwise (· ≤ ·) → l.Nodup → l.Pairwise (· < ·)
  | [], _, _ => .nil
  | x :: l, h, n => by
    rw [List.pairwise_cons] at h
    rw [List.nodup_cons] at n
    exact List.pairwise_cons.mpr ⟨fun y hy => by have := h.1 y hy; have : x ≠ y := fun z => n.1 (z ▸ hy); omega, strict_of h.2 n.2⟩
/-- a, b = two new things -/
theorem q_tupNN {P R : Addr → Hp → Prop} {i j : Nat} (h1 : EvN ta σ H P) (h2 : ∀ H1, Ex H H1 → EvN tb σ H1 R) (k : ∀ a b H1 H2 H3, Ex H H1 → P a H1 → Ex H1 H2 → R b H2 → Ex H2 H3 → tz D ((σ.set i (some (.ref a))).set j (some (.ref b))) H3) :
    tSeq (tAsg (tTup (tCons ta (tCons tb tNil))) (gTup K 2 (gCons (gName i) (gCons (gName j) gNil)))) tz D σ H :=
  h1 H (.refl H) _ fun a H1 _ e1 p => h2 H1 e1 H1 (.refl H1) _ fun b H2 _ e2 r => ⟨by show 2 ≤ sizeLine; decide, fun t nt => ⟨t, _, rfl, st_of upd_same, rfl, _, _, rfl, _, _, rfl, rfl, k a b H1 H2 _ e1 p e2 r (Ex.new nt)⟩⟩
/-! ### exact data, drawn; lots of data -/
theorem gdAll_dp {k : Nat} : ∀ {vs : List V} {ds : List PyData}, DpAll K H vs ds → (∀ d ∈ ds, fine k d = true) → GdAll K H k vs ds
  | _, _, .nil, _ => .nil
  | _, _, .cons h t, f => .cons ⟨h, f _ List.mem_cons_self⟩ (gdAll_dp t fun d hd => f d (List.mem_cons_of_mem _ hd))
def PG (K : PySem.W.Frag) (k : Nat) (d : PyData) : VP := fun v H => Gd K H k v d
def PBad (K : PySem.W.Frag) (k : Nat) (p : PyData → Prop) : VP := fun v H => ∃ d, Gd K H k v d ∧ p d
theorem monoK_g {k : Nat} {d : PyData} : MonoK (PG K k d) := fun _ _ _ e g => g.kp e
theorem monoK_bad {k : Nat} {p : PyData → Prop} : MonoK (PBad K k p) := fun _ _ _ e ⟨d, g, h⟩ => ⟨d, g.kp e, h⟩
variable {k j : Nat} {d d2 d3 : PyData} {tc : TE}
theorem es_bad {p : PyData → Prop} (h : EvS a te σ H (PG K k d)) (hp : p d) : EvS a te σ H (PBad K k p) := es_imp h fun _ _ g => ⟨d, g, hp⟩
theorem es_upG (h : EvS a te σ H (PG K k d)) (l : k ≤ j) : EvS a te σ H (PG K j d) := es_imp h fun _ _ g => Gd.up l g
theorem es_varG {i : Nat} {v : V} (e : σ[i]? = some (some v)) (g : Gd K H k v d) (s : Src H a) : EvS a (tVar i) σ H (PG K k d) := es_var e fun H1 u => g.kp (u.kp s)
theorem es_intG {i : Int} (h : i.natAbs < 2 ^ 64) : EvS a (tC (.int i)) σ H (PG K 0 (.int i)) := es_c fun _ => gd_int h
theorem es_nonG : EvS a (tC .non) σ H (PG K 0 .none) := es_c fun _ => gd_non
theorem es_strG {x : Str} (h : fine 0 (.str x) = true) : EvS a (tC (.str x)) σ H (PG K 0 (.str x)) := es_c fun _ => gd_str h
theorem es_evG {v : V} (h : ∀ H1, Up a H H1 → Ev te σ H1 v) (g : ∀ H1, Up a H H1 → Gd K H1 k v d) : EvS a te σ H (PG K k d) := es_ev h g
theorem es_tup0G : EvS a (tTup tNil) σ H (PG K 1 (.tuple [])) := fun H1 u Q q => ⟨Nat.zero_le _, fun p np => q _ _ (.ex (Ex.new np) u.src) (gd_tup (st_of upd_same) .nil (Nat.zero_le _))⟩
theorem es_tup1G (h : EvS a te σ H (PG K k d)) : EvS a (tTup (tCons te tNil)) σ H (PG K (k + 1) (.tuple [d])) := fun H1 u Q q =>
  h H1 u _ fun v H2 u2 g => ⟨by show 1 ≤ sizeLine; decide, fun p np => q _ _ (u2.trans (.ex (Ex.new np) u2.src)) (gd_tup (st_of upd_same) (.cons (g.kp (.new np)) .nil) (by show 1 ≤ 20; decide))⟩
theorem es_tup2G (h : EvS a te σ H (PG K k d)) (h2 : EvS a tb σ H (PG K k d2)) : EvS a (tTup (tCons te (tCons tb tNil))) σ H (PG K (k + 1) (.tuple [d, d2])) := fun H1 u Q q =>
  h H1 u _ fun v H2 u2 g => h2 H2 (u.trans u2) _ fun w H3 u3 g2 => ⟨by show 2 ≤ sizeLine; decide, fun p np => q _ _ ((u2.trans u3).trans (.ex (Ex.new np) u3.src)) (gd_tup (st_of upd_same) (.cons ((g.kp (u3.kp u2.src)).kp (.new np)) (.cons (g2.kp (.new np)) .nil)) (by show 2 ≤ 20; decide))⟩
theorem es_tup3G (h : EvS a te σ H (PG K k d)) (h2 : EvS a tb σ H (PG K k d2)) (h3 : EvS a tc σ H (PG K k d3)) : EvS a (tTup (tCons te (tCons tb (tCons tc tNil)))) σ H (PG K (k + 1) (.tuple [d, d2, d3])) := fun H1 u Q q =>
  h H1 u _ fun v H2 u2 g => h2 H2 (u.trans u2) _ fun w H3 u3 g2 => h3 H3 ((u.trans u2).trans u3) _ fun x H4 u4 g3 => ⟨by show 3 ≤ sizeLine; decide, fun p np => q _ _ (((u2.trans u3).trans u4).trans (.ex (Ex.new np) u4.src))
    (gd_tup (st_of upd_same) (.cons (((g.kp (u3.kp u2.src)).kp (u4.kp u3.src)).kp (.new np)) (.cons ((g2.kp (u4.kp u3.src)).kp (.new np)) (.cons (g3.kp (.new np)) .nil))) (by show 3 ≤ 20; decide))⟩
/-- a tuple + a tuple, by their data -/
theorem es_catG {ds es : List PyData} (h : EvS a te σ H (PG K (k + 1) (.tuple ds))) (h2 : EvS a tb σ H (PG K (k + 1) (.tuple es))) (hz : ds.length + es.length ≤ 20) : EvS a (tOp (rCatA K) te tb) σ H (PG K (k + 1) (.tuple (ds ++ es))) := fun H1 u Q q =>
  h H1 u _ fun v H2 u2 g => h2 H2 (u.trans u2) _ fun w H3 u3 g2 => by
    have g1 : Gd K H3 (k + 1) v (.tuple ds) := g.kp (u3.kp u2.src)
    have g2 : Gd K H3 (k + 1) w (.tuple es) := g2
    obtain ⟨b, xs, j, rfl, e1, hx, lx, _, ax, fx, _⟩ := g1.tup
    obtain ⟨c, ys, j2, rfl, e2, hy, ly, _, ay, fy, _⟩ := g2.tup
    have ej : k = j := by omega
    have ej2 : k = j2 := by omega
    subst ej ej2
    refine ⟨b, c, xs, ys, rfl, rfl, hx, hy, sz_of (by omega), fun z => ?_, fun _ z => ?_, fun _ _ p np => q _ _ ((u2.trans u3).trans (.ex (Ex.new np) u3.src)) ?_⟩
    · have : ds = [] := List.eq_nil_of_length_eq_zero (by rw [← lx, z]; rfl)
      subst this
      exact q _ _ (u2.trans u3) g2
    · have : es = [] := List.eq_nil_of_length_eq_zero (by rw [← ly, z]; rfl)
      subst this
      rw [List.append_nil] at *
      exact q _ _ (u2.trans u3) g1
    · exact gd_tup (st_of upd_same) (((gdAll_dp ax fx).app (gdAll_dp ay fy)).kp (.new np)) (by rw [List.length_append]; omega)
/-- a slice of a tuple, by its data -/
theorem es_cutG {ds : List PyData} {tl th : L2.TO} {lo hi : Option Int} (h : EvS a te σ H (PG K (k + 1) (.tuple ds))) (hl : ∀ H1, Up a H H1 → ∀ Q : Option Int → Hp → Prop, (∀ H2, Up a H1 H2 → Q lo H2) → tl σ H1 Q) (hh : ∀ H1, Up a H H1 → ∀ Q : Option Int → Hp → Prop, (∀ H2, Up a H1 H2 → Q hi H2) → th σ H1 Q)
    (es : List PyData) (hd : ∀ xs : List V, xs.length = ds.length → ∃ m n, cutV xs lo hi = (xs.drop m).take n ∧ es = (ds.drop m).take n) : EvS a (tSl (rSlA K) te tl th) σ H (PG K (k + 1) (.tuple es)) := fun H1 u Q q =>
  h H1 u _ fun x H2 u2 px => hl H2 (u.trans u2) _ fun H3 u3 => hh H3 ((u.trans u2).trans u3) _ fun H4 u4 => by
    have g : Gd K H4 (k + 1) x (.tuple ds) := Gd.kp ((u3.kp u2.src).trans (u4.kp u3.src)) px
    obtain ⟨b, xs, j, rfl, e1, hx, lx, l20, ax, fx, _⟩ := g.tup
    have ej : k = j := by omega
    subst ej
    obtain ⟨m, n, e2, e3⟩ := hd xs lx
    have U := (u2.trans u3).trans u4
    have dr : ∀ (m : Nat) {xs : List V} {ds : List PyData}, GdAll K H4 k xs ds → GdAll K H4 k (xs.drop m) (ds.drop m) := fun m => by
      induction m with
      | zero => exact fun h => h
      | succ m ih => exact fun h => by cases h with
        | nil => exact .nil
        | cons _ t => exact ih t
    have tk : ∀ (n : Nat) {xs : List V} {ds : List PyData}, GdAll K H4 k xs ds → GdAll K H4 k (xs.take n) (ds.take n) := fun n => by
      induction n with
      | zero => exact fun _ => .nil
      | succ n ih => exact fun h => by cases h with
        | nil => exact .nil
        | cons h t => exact .cons h (ih t)
    have G := tk n (dr m (gdAll_dp ax fx))
    rw [← e3, ← e2] at G
    have le : (cutV xs lo hi).length ≤ 20 := by have := cutV_length xs lo hi; omega
    exact ⟨b, xs, rfl, hx, fun ⟨h1, h2⟩ => q _ H4 U (by rw [cut_whole h1 h2] at G; exact gd_tup hx G (by omega)), fun _ p np => q _ _ (U.trans (.ex (Ex.new np) u4.src)) (gd_tup (st_of upd_same) (G.kp (.new np)) le)⟩
/-- a bag: a list of its own, filled by and by -/
structure Bag (a sl : Addr) (P : VP) (n : Nat) (H : Hp) : Prop where
  ne : sl ≠ a
  all : ∃ ys, H sl = some (.lst ys) ∧ 0 < ys.length ∧ ys.length ≤ n ∧ ∀ y ∈ ys, P y H
theorem Bag.up {sl : Addr} {n : Nat} (s : Src H a) (mk : MonoK P) (u : Up a H H') (B : Bag a sl P n H) : Bag a sl P n H' := let ⟨ys, h1, h2, h3, h4⟩ := B.all; ⟨B.ne, ys, u.keep sl _ B.ne h1, h2, h3, fun y hy => mk y _ _ (u.kp s) (h4 y hy)⟩
theorem Bag.grow {sl : Addr} {n m : Nat} (h : n ≤ m) (B : Bag a sl P n H) : Bag a sl P m H := let ⟨ys, h1, h2, h3, h4⟩ := B.all; ⟨B.ne, ys, h1, h2, by omega, h4⟩
/-- a list of the items, new -/
theorem es_lstF {ta : TA} {n : Nat} (h : EvSA a ta σ H n P) (hn : n ≤ 1000) (m : Mono a P) : EvS a (tLst ta) σ H (PLsF H a n P) :=
  fun H1 u Q q => h H1 u _ fun vs H2 u2 hl hp => ⟨sz_of (by omega), fun p np => q _ _ (u2.trans (.ex (Ex.new np) u2.src))
    ⟨p, vs, rfl, up_back (u.trans u2) (u2.src.new np) np, u2.src.new np, upd_same, hl, fun x hx => m x _ _ u2.src (.ex (Ex.new np) u2.src) (hp x hx)⟩⟩
theorem bag_of {n : Nat} {v : V} {H0 : Hp} (h : PLsF H0 a n P v H) (hn : 0 < n) : ∃ sl, v = .ref sl ∧ H0 sl = none ∧ Bag a sl P n H := let ⟨b, xs, ev, h0, nb, hb, hl, hp⟩ := h; ⟨b, ev, h0, nb, xs, hb, by omega, by omega, hp⟩
theorem bag_add {H0 : Hp} {sl : Addr} {n i : Nat} (nl : H0 sl = none) (u : Up a H0 H) (B : Bag a sl P n H) (hv : σ[i]? = some (some (.ref sl))) (h : EvS a te σ H P) (mk : MonoK P) (hn : n ≤ 1000) (k : ∀ H1, Up a H0 H1 → Kp H H1 → (∀ b o, b ≠ sl → b ≠ a → H b = some o → H1 b = some o) → Bag a sl P (n + 1) H1 → D.nx σ H1) :
    tDrop (tBM K "list" rAppend (tVar i) (tCons te tNil)) D σ H := by
  obtain ⟨ys, h1, h2, h3, h4⟩ := B.all
  refine ss_app u.src B.ne h1 hv h (by omega) fun y H1 u1 p => ?_
  have h1' := u1.keep sl _ B.ne h1
  have kp : Kp H (upd H1 sl (.lst (ys ++ [y]))) := (u1.kp u.src).trans (.lst h1')
  refine k _ (up_mut (u.trans u1) B.ne nl) kp (fun b o nb na hb => by rw [upd_ne nb]; exact u1.keep b o na hb) ⟨B.ne, _, upd_same, by rw [List.length_append]; omega, by rw [List.length_append]; show _ + 1 ≤ _; omega, fun z hz => ?_⟩
  rcases List.mem_append.mp hz with q | q
  · exact mk z _ _ kp (h4 z q)
  · rw [List.mem_singleton.mp q]; exact mk y _ _ (.lst h1') p
theorem q_bag {H0 : Hp} {sl : Addr} {n i : Nat} (nl : H0 sl = none) (u : Up a H0 H) (B : Bag a sl P n H) (hv : σ[i]? = some (some (.ref sl))) (h : EvS a te σ H P) (mk : MonoK P) (hn : n ≤ 1000) (k : ∀ H1, Up a H0 H1 → Kp H H1 → (∀ b o, b ≠ sl → b ≠ a → H b = some o → H1 b = some o) → Bag a sl P (n + 1) H1 → tz D σ H1) :
    tSeq (tDrop (tBM K "list" rAppend (tVar i) (tCons te tNil))) tz D σ H := bag_add (D := { D with nx := tz D }) nl u B hv h mk hn k
/-- bag + [..] -/
theorem es_bagCat {H0 : Hp} {sl : Addr} {n m i : Nat} (u0 : Up a H0 H) (B : Bag a sl P n H) (hv : σ[i]? = some (some (.ref sl))) (mk : MonoK P) (hb : EvS a tb σ H (fun v H' => ∃ c ys, v = .ref c ∧ c ≠ a ∧ H' c = some (.lst ys) ∧ ys.length ≤ m ∧ ∀ y ∈ ys, P y H')) (hz : n + m ≤ 1000) :
    EvS a (tOp rCat (tVar i) tb) σ H (fun v H' => ∃ nl, v = .ref nl ∧ H0 nl = none ∧ Bag a nl P (n + m) H') := fun H1 u Q q => ⟨_, hv, hb H1 u _ fun v H2 u2 ⟨c, ys, ev, nc, hc, ly, py⟩ => by
    subst ev
    obtain ⟨xs, x1, x2, x3, x4⟩ := (B.up u0.src mk (u.trans u2)).all
    refine ⟨sl, c, xs, ys, rfl, rfl, x1, hc, sz_of (by omega), fun p np => q _ _ (u2.trans (.ex (Ex.new np) u2.src)) ⟨p, rfl, up_back ((u0.trans u).trans u2) (u2.src.new np) np, u2.src.new np, xs ++ ys, upd_same, by rw [List.length_append]; omega, by rw [List.length_append]; omega, fun z hz => ?_⟩⟩
    rcases List.mem_append.mp hz with w | w
    · exact mk z _ _ (.new np) (x4 z w)
    · exact mk z _ _ (.new np) (py z w)⟩
theorem es_bagOne {E : XK} {sl : Addr} {n s0 i : Nat} (e0 : σ[s0]? = some (some (.ref a))) (hv : σ[i]? = some (some (.ref sl))) (s : Src H a) (B : Bag a sl P n H) (mk : MonoK P) (hn : n ≤ 1000) : EvS a (tCall (spOne K) [] E (tCons (tVar s0) (tCons (tVar i) tNil))) σ H P :=
  fun H1 u Q q => by
    obtain ⟨xs, x1, x2, x3, x4⟩ := (B.up s mk u).all
    exact ⟨_, e0, _, hv, ⟨a, sl, xs, rfl, B.ne, u.src, sq_of x1, (fun z => by rw [z] at x2; cases x2), by omega, fun x hx H3 u3 => q x H3 u3 (mk x _ _ (u3.kp u.src) (x4 x hx))⟩⟩
/-- for x in a list of items: something that keeps the list -/
theorem q_forB {P : VP} {j n : Nat} (s : Src H a) (h : EvS a tl σ H (PLsF H a n P)) (Pv : Addr → Hp → Nat → L2.St → Hp → Prop) (h0 : ∀ L HL, H L = none → Up a H HL → Pv L HL 0 σ HL)
    (hL : ∀ L HL xs i σ' H', H L = none → HL L = some (.lst xs) → Pv L HL i σ' H' → H' L = some (.lst xs))
    (hs : ∀ L HL i x σ' H', H L = none → Up a H HL → P x HL → i < n → Pv L HL i σ' H' → tu { D with nx := Pv L HL (i + 1), ct := Pv L HL (i + 1), bk := tz D } (σ'.set j (some x)) H') (hd : ∀ L HL σ' H', Up a H HL → Pv L HL n σ' H' → tz D σ' H') :
    tSeq (tFor (iList K tl) (gName j) tu) tz D σ H :=
  h H (.refl s) _ fun v HL u ⟨L, xs, ev, nL, nLa, hLx, hl, hp⟩ => ⟨L, ev, ⟨xs, sq_of hLx⟩, for_list (xs := xs) (Pv L HL) (h0 L HL nL u) (fun i σ' H' _ p => sq_of (hL L HL xs i σ' H' nL hLx p))
    (fun i x σ' H' hx p => hs L HL i x σ' H' nL u (hp x (List.mem_of_getElem? hx)) (by have := (List.getElem?_eq_some_iff.mp hx).1; omega) p) (fun σ' H' p => hd L HL σ' H' u (by rw [← hl]; exact p))⟩
end
end Own


namespace Own
open PySem PySem.Spec PyProof.Rows L2 LamX
/-! ### the law's own call, where defs make lambdas: their tables of code objects are seen, too -/
/-- nothing is seen but the script and empty tables -/
def OnlyT (Ps : List Addr) (H : Hp) : Prop := ∀ b, H b = none ∨ (b ∈ Ps ∧ H b = some (.tbl #[])) ∨ ∃ o xs, H b = some (.frz o (.lst xs))
structure Fresh0 (Ps : List Addr) (K : PySem.W.Frag) (s : Shared) (a : Addr) (ns : List Int) (H : Hp) : Prop where
  only : OnlyT Ps H
  seq : SqL K H a (ns.map V.int)
  tabs : ∀ P ∈ Ps, H P = some (.tbl #[])
  else_ : ∀ b, b ≠ a → b ∉ Ps → H b = none
  own : H a ≠ none → K.lookup a = none
theorem fresh0 {P : Program} {w : World} {K : PySem.W.Frag} {s : Shared} {a : Addr} {vs : List Value} {ns : List Int} {Ps : List Addr} (KX : K.In s.heap)
    (ht : ∀ q ∈ Ps, s.heap.get? q = some { cls := .none, data := .fields #[] }) (ha : s.heap.get? a = some { cls := .type "list", data := .seq vs.toArray }) (hi : IntsAre vs ns) (hl : ns.length ≤ sizeLine) : ∃ H, Fresh0 Ps K s a ns H ∧ HOk P w H s.heap := by
  have na : a ∉ Ps := fun m => by
    have z := ht a m
    rw [ha] at z
    injection z with z
    injection z with _ _ z
    cases z
  obtain ⟨H0, e, hok⟩ := entry_ok (P := P) (w := w) KX ha hi hl
  have z0 : ∀ q ∈ Ps, H0 q = none := fun q hq => e.none_ q fun z => na (z ▸ hq)
  refine ⟨fun b => if b ∈ Ps then some (.tbl #[]) else H0 b, ⟨fun b => ?_, ?_, fun q hq => if_pos hq, fun b nb nq => (if_neg nq).trans (e.none_ b nb), fun z => e.own fun y => z ((if_neg na).trans y)⟩, fun b u h => ?_⟩
  · by_cases m : b ∈ Ps
    · exact .inr (.inl ⟨m, if_pos m⟩)
    · rcases e.only b with z | ⟨o, xs, z⟩
      · exact .inl ((if_neg m).trans z)
      · exact .inr (.inr ⟨o, xs, (if_neg m).trans z⟩)
  · rcases e.seq with (z | ⟨o, z⟩) | z
    · exact .inl (.inl ((if_neg na).trans z))
    · exact .inl (.inr ⟨o, (if_neg na).trans z⟩)
    · exact .inr z
  · by_cases m : b ∈ Ps
    · obtain rfl : HO.tbl #[] = u := Option.some.inj ((if_pos m).symm.trans h)
      exact ht b m
    · have h0 : H0 b = some u := (if_neg m).symm.trans h
      rcases e.only b with z | ⟨o, xs, z⟩
      · rw [z] at h0; cases h0
      · rw [z] at h0
        injection h0 with h0
        subst h0
        exact hok b _ z
theorem lawGT {P : Program} {w : World} {K : PySem.W.Frag} {mg mb : Str → Option Value} {k : Nat} {fa a : Addr} {fd : FuncData} {x : Str} {sp : Sp} {s : Shared} {vs : List Value} {ns : List Int} {cs : List (Addr × Addr)}
    (KX : K.In s.heap) (g1 : s.heap.Ns mainGlobals mg) (g2 : s.heap.Ns builtinsNs mb) (g3 : ∀ x : Str, x ≠ "__name__" → mb x = bootBuiltins x) (g4 : s.heap.NoLimit) (hg : s.gens = #[])
    (g5 : ∃ (bm : Addr) (ob : Obj), mg "__builtins__" = some (.ref bm) ∧ bm ≠ builtinsNs ∧ s.heap.get? bm = some ob ∧ ob.cls = .type "module" ∧ ob.dict = some builtinsNs ∧ ob.data = .plain)
    (t1 : ∀ q ∈ cs, s.heap.get? q.2 = some { cls := .none, data := .fields #[] }) (t2 : ∀ q ∈ cs, K.lookup q.2 = none) (t3 : ∀ q ∈ cs, PySem.W.codeHdIn K q.1 q.2 = true)
    (ha : s.heap.get? a = some { cls := .type "list", data := .seq vs.toArray }) (hi : IntsAre vs ns) (hl : ns.length ≤ sizeLine) (hr : Room k callerA)
    (F : ∀ base : Heap, K.In base → base.Ns mainGlobals mg → (∀ q ∈ cs, TabB base mg q.1 q.2) → FnG P w K mg base CX0 k fa fd [x] sp) (hb : ∀ (s : Shared) (u : Value), BindsTo s fd ⟨[u], []⟩ [(x, u)])
    (hsp : ∀ H : Hp, OnlyT (cs.map (·.2)) H → (∀ q ∈ cs, H q.2 = some (.tbl #[])) → SqL K H a (ns.map V.int) → sp [.ref a] H (fun v _ => v = .bl true) E0) :
    codeAny (model P w) callerA (.call (.ref fa) ⟨[.ref a], []⟩) (fun r s' => r = .ok (.ret (.bool true)) ∧ OldK s.heap s'.heap ∧ s'.os = s.os ∧ AllBare s'.gens) s := by
  have mem : ∀ q ∈ cs, q.2 ∈ cs.map (·.2) := fun q hq => List.mem_map_of_mem hq
  have back : ∀ b ∈ cs.map (·.2), ∃ q ∈ cs, q.2 = b := fun b hb => let ⟨q, h1, h2⟩ := List.mem_map.mp hb; ⟨q, h1, h2⟩
  have tb : ∀ b ∈ cs.map (·.2), s.heap.get? b = some { cls := .none, data := .fields #[] } := fun b hb => let ⟨q, h1, h2⟩ := back b hb; h2 ▸ t1 q h1
  obtain ⟨H, e, hok⟩ := fresh0 (P := P) (w := w) KX tb ha hi hl
  -- what isn't a list and no table isn't seen
  have hid : ∀ {b : Addr} {o : Obj}, s.heap.get? b = some o → (∀ us n, o.data ≠ .seq us n) → o.data ≠ .fields #[] → H b = none := fun {b o} q n1 n2 => by
    refine e.else_ b (fun z => ?_) fun z => ?_
    · subst z
      rw [ha] at q
      injection q with q
      subst q
      exact n1 _ _ rfl
    · rw [tb b z] at q
      injection q with q
      subst q
      exact n2 rfl
  have nsB : ∀ {b : Addr} {m : Str → Option Value}, s.heap.Ns b m → (hidT s.heap H).Ns b m := fun {b m} ⟨o, es, ep, q, d, r⟩ =>
    ⟨o, es, ep, hidT_get q (hid q (fun us n z => by rw [d] at z; cases z) fun z => by rw [d] at z; cases z), d, r⟩
  have KB : K.In (hidT s.heap H) := fun b o q => hidT_get (KX b o q) (by
    by_cases z : b = a
    · subst z
      by_cases y : H b = none
      · exact y
      · have n := e.own y
        rw [q] at n
        cases n
    · refine e.else_ b z fun m => ?_
      obtain ⟨p, h1, h2⟩ := back b m
      have n := t2 p h1
      rw [h2, q] at n
      cases n)
  have TBs : ∀ q ∈ cs, TabB (hidT s.heap H) mg q.1 q.2 := fun q hq => by
    obtain ⟨bm, ob, b1, b2, b3, b4, b5, b6⟩ := g5
    have hm := hid b3 (fun us n z => by rw [b6] at z; cases z) fun z => by rw [b6] at z; cases z
    refine ⟨PySem.W.codeHd_of_K KB (t3 q hq), ⟨bm, ob, b1, b2, fun z => ?_, fun z => ?_, hidT_get b3 hm, b4, b5, b6⟩, fun z => ?_⟩
    · obtain ⟨o, es, ep, y, d, _⟩ := g1
      rw [← z, b3] at y
      injection y with y
      subst y
      rw [b6] at d
      cases d
    · rw [z, e.tabs _ (mem q hq)] at hm
      cases hm
    · obtain ⟨o, es, ep, y, d, _⟩ := g1
      rw [z, t1 q hq] at y
      injection y with y
      subst y
      cases d
  have e0 : Env0 P w K mg (hidT s.heap H) callerA [] s H :=
    ⟨rfl, ⟨KB, nsB g1, ⟨mb, nsB g2, g3⟩, (let ⟨mc, h1, h2⟩ := g4; ⟨mc, nsB h1, h2⟩)⟩, fun b o q => of_hidT q, Nat.le_of_eq (hidT_size _ _), trivial, fun b z => absurd z (List.not_mem_nil), hok, .of_eq hg⟩
  refine codeAny_mono ((F _ KB (nsB g1) TBs).goes callerA [] s H ⟨[.ref a], []⟩ [.ref a] [.ref a] _ _ rfl hr e0 (hb s (.ref a)) (.cons rfl .nil) (hsp H e.only (fun q hq => e.tabs _ (mem q hq)) e.seq)) fun r s' z => ?_
  match r, z with
  | .error _, z => exact z.elim
  | .ok .next, z => exact z.elim
  | .ok .brk, z => exact z.elim
  | .ok .cont, z => exact z.elim
  | .ok (.ret u), z =>
    obtain ⟨v, H', os, bare, ch, hok', ru, q⟩ := z
    have q : v = .bl true := q
    subst q
    have eu : u = Value.bool true := ru
    have grown : ∀ p ∈ cs, ∃ more : Array Value, s'.heap.get? p.2 = some { cls := .none, data := .fields more } := fun p hp =>
      let ⟨more, y⟩ := ch.tbls p.2 #[] (e.tabs _ (mem p hp)); ⟨_, hok' p.2 _ y⟩
    have same : ∀ b o, b ∉ cs.map (·.2) → s.heap.get? b = some o → s'.heap.get? b = some o := fun b o nb q => by
      rcases e.only b with y | ⟨m, _⟩ | ⟨ob, xs, y⟩
      · exact ch.keep b o q y (fun z => by cases z) (fun z => by cases z)
      · exact absurd m nb
      · have o1 := (hok b _ y).1
        have o2 := (hok' b _ (ch.frzs b ob _ y)).1
        rw [q] at o1
        injection o1 with o1
        rw [o1]
        exact o2
    refine ⟨by rw [eu], ⟨fun b o q => ?_, fun b o q => ?_⟩, os, bare⟩
    · by_cases m : b ∈ cs.map (·.2)
      · obtain ⟨p, h1, rfl⟩ := back b m
        obtain ⟨more, y⟩ := grown p h1
        obtain rfl : Obj.mk .none none (.fields #[]) #[] = o := Option.some.inj ((t1 p h1).symm.trans q)
        exact .inr (.inl ⟨((PySem.W.codeHd_of_K KX (t3 p h1)).tab (t1 p h1)).isCodeTable, rfl, #[], more, rfl, by rw [Array.empty_append]; exact y⟩)
      · exact .inl (same b o m q)
    · by_cases m : b ∈ cs.map (·.2)
      · obtain ⟨p, h1, rfl⟩ := back b m
        obtain ⟨more, y⟩ := grown p h1
        exact ⟨_, y⟩
      · exact ⟨o, same b o m q⟩
theorem walkGT {l : PySem.W.OpenLaw} {n k : Nat} {q : Program} {loose : List Str} {XP : (Str → Option Value) → Heap → Prop} {YP : World → Heap → Prop} {d : DefRec} {K : Params → PySem.W.Frag} {sp : List Addr → PySem.W.Frag → Sp} {x : Str} {ts : List Addr}
    (h1 : l.most = some n) (h2 : n ≤ sizeLine) (h3 : d.params.defaults = []) (hr : Room k callerA) (hY : ∀ (w : World) (h : Heap), YP w h → (K w.params).In h ∧ ∀ b ∈ ts, h.get? b = some { cls := .none, data := .fields #[] })
    (F : ∀ (w : World) (mg : Str → Option Value) (fa : Addr) (h : Heap), (K w.params).In h → h.Ns mainGlobals mg → mg d.name = some (.ref fa) →
      ∃ (fd : FuncData) (cs : List (Addr × Addr)), (∀ p ∈ cs, p.2 ∈ ts) ∧ (∀ p ∈ cs, (K w.params).lookup p.2 = none) ∧ (∀ p ∈ cs, PySem.W.codeHdIn (K w.params) p.1 p.2 = true) ∧ (∀ (s : Shared) (u : Value), BindsTo s fd ⟨[u], []⟩ [(x, u)]) ∧
        ∀ base : Heap, (K w.params).In base → base.Ns mainGlobals mg → (∀ p ∈ cs, TabB base mg p.1 p.2) → FnG l.prog w (K w.params) mg base CX0 k fa fd [x] (sp (cs.map (·.2)) (K w.params)))
    (hsp : ∀ (Ps : List Addr) (K : PySem.W.Frag) (H : Hp) (a : Addr) (ns : List Int), ns.length ≤ n → OnlyT Ps H → (∀ b ∈ Ps, H b = some (.tbl #[])) → SqL K H a (ns.map V.int) → sp Ps K [.ref a] H (fun v _ => v = .bl true) E0) :
    PySem.W.WalkO q loose XP YP l.row.toRowW d [] (fun f vs => PySem.call f vs) :=
  Att.attach_call h1 h3 fun w s₀ s₁ mg mb fa o pm cd doc a vs ns G Y ho hd hcd hmg hobj hints hlen hg =>
    let ⟨fd, cs, hts, h4, h5, hb, hF⟩ := F w mg fa _ (hY w _ Y).1 G.T.g hmg
    lawGT (hY w _ Y).1 G.T.g G.T.b G.T.builtins G.T.nolimit hg G.T.bmain (fun p hp => (hY w _ Y).2 _ (hts p hp)) h4 h5 hobj hints (Nat.le_trans hlen h2) hr hF hb
      fun H hO hT hS => hsp _ _ H a ns hlen hO (fun b hb => let ⟨p, q1, q2⟩ := List.mem_map.mp hb; q2 ▸ hT p q1) hS
end Own


namespace Own
open PySem PySem.Spec PyProof.Rows L2 LamX
section
variable {P : Program} {w : World} {K : PySem.W.Frag} {mg : Str → Option Value} {base : Heap}
/-- a def whose code object is known (it makes lambdas) -/
structure FunC (K : PySem.W.Frag) (x qual : Str) (st : Stmt) (f : Addr) (fd : FuncData) (cc : Addr) : Prop where
  ex : ∃ (oc : Value) (od : Option Addr) (kV doc pm : Value) (an : Option Addr) (ct : Value) (osl : Array (Option Value)),
    fd = PySem.W.fnOf x qual (defArgs st) (defBody st) (defScope st) .none kV doc pm an (.ref cc) ct ∧ K.lookup f = some ⟨oc, od, .func fd, osl⟩ ∧ PySem.W.codeIn K (.ref cc) qual = true
theorem fnG_okC {x qual : Str} {st : Stmt} {f cc : Addr} {fd : FuncData} {N ps : List Str} {k : Nat} {sp : Sp} (F : FunC K x qual st f fd cc) (S : FnScope N ps (defScope st)) (sz : ∀ vs H Q E, sp vs H Q E → vs.length = ps.length)
    (hb : ∀ (A : Around) (outer : List Env) (s : Shared) (H : Hp) (vs : List V) (Q : VK) (E : XK),
      (A.deeper (envOfC qual (defScope st) s.heap.objs.size f (.ref cc))).guards = some [] → Room k (A.deeper (envOfC qual (defScope st) s.heap.objs.size f (.ref cc))) → sp vs H Q E →
        ∃ t, PSs (cxOf CX0 P w K mg base N qual (defScope st) f (.ref cc) A outer s H E).nox (defBody st) t ∧ t { nx := fun _ H' => Q .non H', rt := Q } (start N vs) H) :
    FnG P w K mg base CX0 (k + 1) f fd ps sp := by
  obtain ⟨oc, od, kV, doc, pm, an, ct, osl, efd, look, code⟩ := F.ex
  subst efd
  refine ⟨sz, fun A o s H args us vs Q E gA room e0 bind rv pre => ?_⟩
  have inside : K.In s.heap := e0.mod.kin.keeps fun b u q => (e0.bs b u q).1
  have free : s.heap.NoLimit := e0.mod.nolimit.keeps fun b u q => (e0.bs b u q).1
  refine codeAny_call_function room.depth (inside _ _ look) rfl S.co S.gen rfl (PySem.W.codeRec_of inside code) (bind _ _ _ _ ?_)
  refine wpAny_newFunctionEnv_cells S.kind (fun y hy => ?_) fun env he s1 x => ?_
  · have m := (List.of_mem_zip (show (y.1, y.2) ∈ ps.zip us from hy)).1
    exact (S.par y.1 m).elim Or.inl fun q => Or.inr ⟨q, PySem.W.cellsFrom_some _ _ _ (.inl q)⟩
  · subst he
    refine ⟨free.keeps x.toInCall.keep, codeAny_func ?_⟩
    obtain ⟨t, ht, rd⟩ := hb A o s H vs Q E (guards_deeper.trans gA) (room.deeper _) pre
    have I := inv_start (CX := CX0) (P := P) (w := w) (mg := mg) (E := E) (N := N) S room.hd e0 (sz _ _ _ _ pre) rv x
    refine wpAny_mono (ht.nox.run [] s1 (start N vs) H _ I rd) (fun fl s' hs => ?_) fun _ _ z => z
    match fl, hs with
    | .ret u, hs => exact (let ⟨v, _, H', J, r2, q⟩ := hs; ⟨v, H', J.os, J.bare, J.base, J.hok, r2, q⟩)
    | .next, hs => exact (let ⟨_, H', J, q⟩ := hs; ⟨V.non, H', J.os, J.bare, J.base, J.hok, rfl, q⟩)
    | .brk, hs => exact (let ⟨_, _, _, z⟩ := hs; z.elim)
    | .cont, hs => exact (let ⟨_, _, _, z⟩ := hs; z.elim)
end
section
variable {X : Cx}
/-- a text that is read in two ways -/
theorem pss_alt {sts : List Stmt} {t u : TS} (h1 : PSs X sts t) (h2 : PSs X sts u) : PSs X sts (fun D σ H => t D σ H ∨ u D σ H) :=
  ⟨fun pins s σ H D I h => h.elim (h1.run pins s σ H D I) (h2.run pins s σ H D I)⟩
/-- a name that holds one of several defs, which may raise -/
def tCallM (i : Nat) (S : Addr → Sp → Prop) (E : XK) (t : TA) : TE := fun σ H Q => ∃ f sp, σ[i]? = some (some (.ref f)) ∧ S f sp ∧ t σ H fun vs H1 => sp vs H1 Q E
theorem pe_callM {S : Addr → Sp → Prop} {C : CXT} {k i : Nat} {E : XK} {x : Str} {p pos : Pos} {e : Expr} {es : List Expr} {t : TA}
    (A : ∀ f sp, S f sp → ∃ fd ps, FnOk X.prog X.w X.K X.mg X.base C k f fd ps sp ∧ PySem.W.keepIn X.K (.ref f) = true ∧ Binds X.K fd ps []) (hr : Room k X.A) (hN : X.N[i]? = some x) (hv : Vis X.env.scope x) (hx : Passes C X E) (ha : PA X (e :: es) t)
    (h1 : (x == ("__debug__" : Str)) = false := by decide) (h2 : (x == ("__classdict__" : Str)) = false := by decide)
    (h3 : starEach (e :: es) X.env = (false, eval e X.env) :: starEach es X.env := by rfl) (h4 : (backTo pos (starEach es X.env)).any (·.1) = false := by rfl) : PE X (.Call (.Name x p) (e :: es) [] pos) (tCallM i S E t) :=
  ⟨fun pins s σ H Q I ⟨f, sp, hs, hS, ht⟩ => by
    obtain ⟨fd, ps, F, hk, hb⟩ := A f sp hS
    refine (pe_callL (i := i) (f := f) (sp := sp) (dvs := []) (E := E) F hr hN hv hk hb .nil hx ha h1 h2 h3 h4).run pins s σ H Q I ⟨hs, ?_⟩
    simpa only [List.append_nil] using ht⟩
/-- x(lambda: ..), x a def of the text -/
theorem pe_lamF {T : List (Addr × Str)} {TT : (XK → Hp → VK → Prop) → Hp → VK → Prop} {x a : Str} {g c Pt : Addr} {k : Nat} {st : Stmt} {fd : FuncData} {Ng : List Str} {params : Arguments} {body : Expr} {scope : Scope} {t : XK → TE} {p lpos pos : Pos}
    (F : Fun X.K x x st g fd) (hg : Gl X x) (hm : X.mg x = some (.ref g)) (hb : Binds X.K fd [a] []) (Sg : FnScope Ng [a] (defScope st)) (hNg : Ng[0]? = some a) (hva : Vis (defScope st) a)
    (hG : ∀ cdg, GivesTo X Ng x (defScope st) g cdg (defBody st) a (X.env.qual ++ "<lambda>") TT) (TB : TabB X.base X.mg c Pt) (hcode : X.env.code = .ref c) (hmT : (Pt, X.env.qual ++ "<lambda>") ∈ T) (hu : ∀ p ∈ T, p.1 = Pt → p.2 = X.env.qual ++ "<lambda>")
    (hr : Room (k + 2) X.A) (L : LamS X.env.scope scope) (hdef : defaultsOf params X.env = ([], []))
    (hbind : ∀ (q : Str) (cl : List (Str × Addr)) (pm cv ctv : Value), bindArgs (PySem.W.kla_fn "<lambda>" q params body scope cl pm cv ctv) ⟨[], []⟩ = pure [])
    (hbody : ∀ (A : Around) (outer : List Env) (s : Shared) (H : Hp) (E : XK) (f c' : Addr), Room k (A.deeper (lamEnv X scope s.heap.objs.size f c')) → PE (lamCx X A outer s H E scope f c') body (t E))
    (h1 : (x == ("__debug__" : Str)) = false := by decide) (h2 : (a == ("__debug__" : Str)) = false := by decide) (h3 : (a == ("__classdict__" : Str)) = false := by decide) :
    PE X (.Call (.Name x p) [.Lambda params body scope lpos] [] pos) (tLam T TT t) := by
  obtain ⟨oc, od, kV, doc, pm, an, cdv, ct, osl, efd, look, code⟩ := F.ex
  subst efd
  exact pe_lamcall hg hm F.kp look code hb Sg hNg hva (hG cdv) TB hcode hmT hu hr L hdef hbind hbody h1 h2 h3
/-- try: return a() / except C as e: .., the suite read by ts, whatever stands in the first slot -/
def TTry (K : PySem.W.Frag) (CS : Addr) (ts : Addr → Value → Option Addr → Hp → VK → Prop) : (XK → Hp → VK → Prop) → Hp → VK → Prop := fun tl H Q =>
  tl (fun cls dd H' => ∃ yes, PySem.W.exmOne K cls (.ref CS) = some yes ∧ (yes = true → ∀ b, H' b = none → ts b cls dd H' Q) ∧ (yes = false → False)) H Q
theorem gives_try {Ng : List Str} {x a e q C : Str} {sg : Scope} {g CS : Addr} {cdg : Value} {first : Stmt} {more : List Stmt} {p1 p2 p3 p4 p5 p6 : Pos} {ts : Addr → Value → Option Addr → Hp → VK → Prop} {tss : Addr → Value → Option Addr → TS}
    (hN : Ng.Nodup) (hn : Ng = [a, e]) (hl : sg.names.lookup e = some .local) (hc : sg.names.lookup C = some .globalImplicit) (hcd : (C == ("__debug__" : Str)) = false) (hm : X.mg C = some (.ref CS))
    (hts : ∀ (f b : Addr) cls dd H' Q, ts b cls dd H' Q → ∀ D : Ends, D.rt = Q → tss b cls dd D [some (.ref f), some (.ref b)] H')
    (suite : ∀ (Z : Cx), Z.prog = X.prog → Z.w = X.w → ∀ (hK : Z.K = X.K) (hmg : Z.mg = X.mg), True → ∀ (b : Addr) (oe : Obj) (cls : Value) (dd : Option Addr) (pn : List (Addr × Obj)), Zc cls dd oe → (∃ vs, oe.data = .fields vs) → Z.N = Ng → Z.env.scope = sg → True → PSs Z (first :: more) (tss b cls dd)) :
    True := trivial
end
end Own


namespace Own
open PySem PySem.Spec PyProof.Rows L2 LamX
/-! ### lambdas as values: laid in a list, called later by a name -/
section
variable {X : Cx}
/-- what is true of the one object of a lambda that the frame X has made; its body is read by r -/
def LamM (X : Cx) (k : Nat) (r : XK → TE) (f d : Addr) : Heap → Prop := fun h => ∃ (ps : Arguments) (b : Expr) (sc : Scope) (pm tv : Value),
  h.get? f = some (PySem.W.kla_obj "<lambda>" (X.env.qual ++ "<lambda>") ps b sc (cloFrom X.env.cells sc.names []) pm d tv) ∧ LamS X.env.scope sc ∧
  (∀ (q : Str) (cl : List (Str × Addr)) (pm cv tv : Value), bindArgs (PySem.W.kla_fn "<lambda>" q ps b sc cl pm cv tv) ⟨[], []⟩ = pure []) ∧
  ∀ (A : Around) (o : List Env) (s : Shared) (H : Hp) (E : XK) (f d : Addr), Room k (A.deeper (lamEnv X sc s.heap.objs.size f d)) → PE (lamCx X A o s H E sc f d) b (r E)
/-- a lambda that is written as a value -/
def tLamV (T : List (Addr × Str)) (q : Str) (M : (XK → TE) → Addr → Addr → Heap → Prop) (r : XK → TE) : TE := fun σ H Q =>
  Tabs T H ∧ ∀ H1 f d, ExtN H H1 → Tabs T H1 → H f = none → H1 f = some (.ext (M r f d)) → H1 d = some (CodeO d q) → Q (.ref f) H1
/-- x(y), where y holds a lambda of this frame -/
def tLamN (q : Str) (TT : (XK → Hp → VK → Prop) → Hp → VK → Prop) (M : (XK → TE) → Addr → Addr → Heap → Prop) (i : Nat) : TE := fun σ H Q =>
  ∃ f d r, σ[i]? = some (some (.ref f)) ∧ H f = some (.ext (M r f d)) ∧ H d = some (CodeO d q) ∧ TT (fun E H' Q' => H' f = some (.ext (M r f d)) ∧ r E σ H' Q') H Q
theorem lam_stable {k : Nat} {r : XK → TE} {f d : Addr} (h1 h2 : Heap) (h : LamM X k r f d h1) (e : ∀ o, h1.get? f = some o → h2.get? f = some o) : LamM X k r f d h2 :=
  let ⟨ps, b, sc, pm, tv, h0, hh⟩ := h
  ⟨ps, b, sc, pm, tv, e _ h0, hh⟩
theorem pe_lamV {T : List (Addr × Str)} {c P : Addr} {k : Nat} {ps : Arguments} {b : Expr} {sc : Scope} {pos : Pos} {r : XK → TE} (TB : TabB X.base X.mg c P) (hc : X.env.code = .ref c) (hm : (P, X.env.qual ++ "<lambda>") ∈ T) (hu : ∀ p ∈ T, p.1 = P → p.2 = X.env.qual ++ "<lambda>")
    (L : LamS X.env.scope sc) (hdf : defaultsOf ps X.env = ([], [])) (hbi : ∀ (q : Str) (cl : List (Str × Addr)) (pm cv tv : Value), bindArgs (PySem.W.kla_fn "<lambda>" q ps b sc cl pm cv tv) ⟨[], []⟩ = pure [])
    (hbo : ∀ (A : Around) (o : List Env) (s : Shared) (H : Hp) (E : XK) (f d : Addr), Room k (A.deeper (lamEnv X sc s.heap.objs.size f d)) → PE (lamCx X A o s H E sc f d) b (r E)) :
    PE X (.Lambda ps b sc pos) (tLamV T (X.env.qual ++ "<lambda>") (LamM X k) r) := ⟨fun pins s σ H Q I ⟨hT, h⟩ => by
  obtain ⟨es, tp, tt, ta⟩ := hT _ hm
  dsimp only at tp ta
  have bP := TB.bm.keeps I.bk
  have oP : s.heap.get? P = some { cls := .none, data := .fields es } := I.hok P _ tp
  refine PySem.W.kla_eval hdf ?_
  cases am : codeAmong pos es.toList with
  | some cv =>
    obtain ⟨d, rfl, hd⟩ := ta pos cv am
    refine PySem.W.kla_makeFunctionHit (closure_ok (L.has I.ok)) I.ok.glob (I.mod.glob.keeps I.bk) hc (TB.code.keeps I.bk) oP tt am bP fun tv h1 tk k1 k2 => ?_
    have J : Inv X pins σ H { s with heap := h1, toks := tk } := I.kept k1
    have nf : H h1.objs.size = none := J.hok.fresh (Nat.le_refl _)
    refine ⟨.ref h1.objs.size, upd H h1.objs.size (.ext (LamM X k r h1.objs.size d)), J.laid (t' := tk) (fun _ _ q => Heap.get?_push_of_some _ q) (Nat.le_refl _) ⟨⟨ps, b, sc, _, tv, Heap.get?_push_size _ rfl, L, hbi, hbo⟩, ⟨_, Heap.get?_push_size _ rfl⟩, lam_stable⟩, rfl, ?_⟩
    have e0 : ∀ x o, H x = some o → upd H h1.objs.size (.ext (LamM X k r h1.objs.size d)) x = some o := fun x o e => by rw [upd_ne (ne_of_none e nf)]; exact e
    exact h _ _ _ (ExtN.of e0) (hT.ext e0) nf upd_same (e0 _ _ hd)
  | none =>
    refine PySem.W.kla_makeFunction (closure_ok (L.has I.ok)) I.ok.glob (I.mod.glob.keeps I.bk) hc (TB.code.keeps I.bk) oP tt am TB.gP bP fun d tv h1 tk k1 k2 k3 k4 k5 => ?_
    obtain ⟨d2, oc, vs, t, e2, k6, k7, k8⟩ := k4
    cases e2
    have nd : H d = none := I.hok.fresh k2
    have J := inv_table (t' := tk) (q := X.env.qual ++ "<lambda>") I tp (fun x o hx e => k1 x o hx e) k5 k2 ⟨oc, vs, t, k6, k7, k8⟩
    have nf := J.hok.fresh (Nat.le_refl h1.objs.size)
    have e1 : ExtN H (upd (upd H P (.tbl (es ++ #[rawInt pos.line, rawInt pos.col, .ref d]))) d (CodeO d (X.env.qual ++ "<lambda>"))) := fun x o e n => by
      rw [upd_ne (ne_of_none e nd), upd_ne fun z => n es (Option.some.inj (e.symm.trans (by rw [z]; exact tp)))]
      exact e
    have el : (es ++ #[rawInt pos.line, rawInt pos.col, .ref d]).toList = es.toList ++ [rawInt pos.line, rawInt pos.col, .ref d] := by simp
    have T1 : Tabs T (upd (upd H P (.tbl (es ++ #[rawInt pos.line, rawInt pos.col, .ref d]))) d (CodeO d (X.env.qual ++ "<lambda>"))) := fun p hp => by
      by_cases z : p.1 = P
      · rw [hu p hp z, z]
        refine ⟨_, (upd_ne (ne_of_none tp nd)).trans upd_same, ?_, fun p' w hw => ?_⟩
        · rw [el]
          exact PySem.TriplesOk_snoc _ _ _ _ tt
        · rw [el] at hw
          rcases among_app _ tt hw with y | y
          · obtain ⟨x, y1, y2⟩ := ta p' w y
            exact ⟨x, y1, e1 _ _ y2 codeO_ne⟩
          · exact ⟨d, y, upd_same⟩
      · obtain ⟨qs, q1, q2, q3⟩ := hT p hp
        refine ⟨qs, ((upd_ne (ne_of_none q1 nd)).trans (upd_ne z)).trans q1, q2, fun p' w hw => ?_⟩
        obtain ⟨x, y1, y2⟩ := q3 p' w hw
        exact ⟨x, y1, e1 _ _ y2 codeO_ne⟩
    generalize hG : upd (upd H P (.tbl (es ++ #[rawInt pos.line, rawInt pos.col, .ref d]))) d (CodeO d (X.env.qual ++ "<lambda>")) = G at J nf e1 T1
    have gd : G d = some (CodeO d (X.env.qual ++ "<lambda>")) := by rw [← hG]; exact upd_same
    have e0 : ∀ x o, G x = some o → upd G h1.objs.size (.ext (LamM X k r h1.objs.size d)) x = some o := fun x o e => by rw [upd_ne (ne_of_none e nf)]; exact e
    refine ⟨.ref h1.objs.size, upd G h1.objs.size (.ext (LamM X k r h1.objs.size d)), J.laid (t' := tk) (fun _ _ q => Heap.get?_push_of_some _ q) (Nat.le_refl _) ⟨⟨ps, b, sc, _, tv, Heap.get?_push_size _ rfl, L, hbi, hbo⟩, ⟨_, Heap.get?_push_size _ rfl⟩, lam_stable⟩, rfl, ?_⟩
    exact h _ _ _ (e1.trans (ExtN.of e0)) (T1.ext e0) (I.hok.fresh (Nat.le_of_lt (Nat.lt_of_le_of_lt k2 k3))) upd_same (e0 _ _ gd)⟩
/-- the lambda is called, in the def that was handed it -/
theorem act_lam {pins : List (Addr × Obj)} {σ : L2.St} {H : Hp} {s : Shared} {CXg : CXT} {Eg : XK} {Ng : List Str} {qg : Str} {sg : Scope} {g f d : Addr} {cdg : Value} {k i : Nat} {a : Str} {pn : List (Addr × Obj)} {xe : Value → Shared → Prop} {W : WX} {E : XK} {r : XK → TE} {p1 p2 : Pos}
    (I : Inv X pins σ H s) (tk : Takes ((cxOf CXg X.prog X.w X.K X.mg X.base Ng qg sg g cdg X.A X.stack s H Eg).tr pn xe) W) (hW : ∀ cls d σ' H', E cls d H' → W cls d σ' H') (hr : Room (k + 1) (X.A.deeper (envOfC qg sg s.heap.objs.size g cdg)))
    (hN : Ng[i]? = some a) (hv : Vis sg a) (h1 : (a == ("__debug__" : Str)) = false) (h2 : (a == ("__classdict__" : Str)) = false) :
    PE ((cxOf CXg X.prog X.w X.K X.mg X.base Ng qg sg g cdg X.A X.stack s H Eg).tr pn xe) (.Call (.Name a p1) [] [] p2)
      (fun σZ HZ Q => σZ[i]? = some (some (.ref f)) ∧ HZ d = some (CodeO d (X.env.qual ++ "<lambda>")) ∧ HZ f = some (.ext (LamM X k r f d)) ∧ r E σ HZ Q) := ⟨fun pinsZ sZ σZ HZ Q IZ ⟨hs, hc, hf, ht⟩ => by
  have named := (pe_var (pos := p1) (i := i) hN hv h1 h2).run pinsZ sZ σZ HZ (fun v G => v = .ref f ∧ G = HZ) IZ ⟨.ref f, hs, rfl, rfl⟩
  refine wpAny_Call_Name_kw (thn named fun u s1 ⟨v, G, J, rv, ev, eG⟩ => ?_)
  subst ev eG
  obtain rfl : u = Value.ref f := rv
  obtain ⟨⟨ps, b, sc, pm, tv, hob, L, hbi, hbo⟩, _⟩ := J.hok f _ hf
  obtain ⟨⟨oc, vs, t, c1, c2, c3⟩, _⟩ := J.hok d _ hc
  refine PySem.W.callWith_F0 ⟨_, _, _, _, hob⟩ (wpAny_call (codeAny_mono (R := CR (L2.CX X.prog X.w) (envOfC qg sg s.heap.objs.size g cdg :: X.stack) X.prog X.w G s1 Q E) ?_ fun z s2 hz => ?_))
  · refine PySem.W.kla_callFunE hr.depth hob rfl L.co L.gen rfl ⟨d, oc, vs, t, rfl, c1, c2, c3⟩ ?_
    rw [List.nil_append, hbi]
    refine wpAny_pure (wpAny_newFunctionEnv (fun y hy => (L.own y hy).2) (fun y hy => nomatch hy) (fun h₁ n1 n2 => ⟨J.nolimit.fresh _ n2, ?_⟩) L.kind)
    have keeps : ∀ x o, s1.heap.get? x = some o → h₁.get? x = some o := fun x o e => n2.extBut x o (Nat.ne_of_lt (Heap.lt_size e)) (Heap.get?_push_of_some _ e)
    have st := lam_start2 (E := E) (f := f) (c' := d) (tk := s1.toks + ([] : List (Str × Value)).length) I L J.env0 hr.hd J.base n1 keeps
    refine PySem.W.kla_codeExpr (wpAny_mono ((hbo _ _ s1 G E f d (hr.deeper _)).run [] _ _ G Q st ht) (fun v s' ⟨w', H', J', rv, q⟩ => ?_) fun e s' hq => hq)
    exact ⟨w', H', J'.os, J'.bare, J'.base, J'.hok, rv, q⟩
  · match z, hz with
    | .error e, hz => exact passes_call tk hW pinsZ σZ G s1 e s2 J hz
    | .ok (.ret u), hz => exact J.after hz
    | .ok .next, hz => exact hz.elim
    | .ok .brk, hz => exact hz.elim
    | .ok .cont, hz => exact hz.elim⟩
/-- x(y), x a def of the text, y a name that holds a lambda of this frame -/
theorem pe_lamN {TT : (XK → Hp → VK → Prop) → Hp → VK → Prop} {x a : Str} {g : Addr} {k i : Nat} {st : Stmt} {fd : FuncData} {Ng : List Str} {e : Expr} {p pos : Pos}
    (F : Fun X.K x x st g fd) (hg : Gl X x) (hm : X.mg x = some (.ref g)) (hb : Binds X.K fd [a] []) (Sg : FnScope Ng [a] (defScope st)) (hN : Ng[0]? = some a) (hv : Vis (defScope st) a)
    (hG : ∀ cdg, GivesTo X Ng x (defScope st) g cdg (defBody st) a (X.env.qual ++ "<lambda>") TT) (hr : Room (k + 2) X.A) (ha : PA X [e] (tCons (tVar i) tNil))
    (hst : starEach [e] X.env = (false, eval e X.env) :: starEach [] X.env := by rfl) (hpl : (backTo pos (starEach [] X.env)).any (·.1) = false := by rfl)
    (h1 : (x == ("__debug__" : Str)) = false := by decide) (h2 : (a == ("__debug__" : Str)) = false := by decide) (h3 : (a == ("__classdict__" : Str)) = false := by decide) :
    PE X (.Call (.Name x p) [e] [] pos) (tLamN (X.env.qual ++ "<lambda>") TT (LamM X k) i) := ⟨fun pins s σ H Q I ⟨f, d, r, hs, hf, hc, h⟩ => by
  obtain ⟨oc, od, kV, doc, pm, an, cdv, ct, osl, efd, look, code⟩ := F.ex
  subst efd
  refine wpAny_Call_Name_kw (ld_glob I hg hm (PySem.W.callWith_K (h₀ := X.base) I.ok.mod.kin F.kp (thn (ha.run pos pins s σ H (fun vs G => vs = [.ref f] ∧ G = H) I ⟨.ref f, hs, rfl, rfl⟩) fun us s1 ⟨vs, G, J, rv, ev, eG⟩ => ⟨J.kIn, ?_⟩) hst hpl) h1)
  subst ev eG
  obtain rfl : us = [.ref f] := by
    cases rv with
    | cons r0 r1 => cases r1 with | nil => rw [show _ = Value.ref f from r0]
  refine wpAny_call (codeAny_mono (R := CR C8.CX0 X.stack X.prog X.w G s1 Q C8.E0) ?_ fun z s2 hz => ?_)
  · refine run_ofS (N := Ng) (ps := [a]) (us := [.ref f]) (vs := [.ref f]) look code Sg hr J.env0 (hb s1 [.ref f] J.kIn rfl) (.cons rfl .nil) rfl fun hr' => ?_
    obtain ⟨t', q1, q2⟩ := hG cdv f d s1 G Q (fun E H' Q' => H' f = some (.ext (LamM X k r f d)) ∧ r E σ H' Q') (fun W pn xe E p1 p2 tk hW => act_lam J tk hW hr' hN hv h2 h3) hc h
    exact ⟨t', q1.nox, q2⟩
  · match z, hz with
    | .error e, hz => exact (show False from hz).elim
    | .ok (.ret u), hz => exact J.after hz
    | .ok .next, hz => exact hz.elim
    | .ok .brk, hz => exact hz.elim
    | .ok .cont, hz => exact hz.elim⟩
end
end Own


set_option maxHeartbeats 1000000
namespace Own
open PySem PySem.Spec PyProof.Rows L2
open Evl
/-! ### x in t, t a tuple of data -/
def rInT (K : PySem.W.Frag) (neg : Bool) : R2 := fun x y H Q => ∃ k j d ds, Gd K H k x d ∧ Gd K H j y (.tuple ds) ∧ k ≤ 40 ∧ j ≤ 40 ∧ Q (.bl (if neg then !(ds.any fun z => PyData.eqv z d) else ds.any fun z => PyData.eqv z d)) H
section
variable {X : Cx}
theorem op_inT (hu : X.A.units + 64 < cLine) : OpR X (compareOp .In) (rInT X.K false) := by
  intro pins s σ H x y v u Q I rx ry h
  obtain ⟨k, j, d, ds, g, g2, hk, hj, q⟩ := h
  obtain ⟨as, r1⟩ := Dp.reads I d x v g.dp rx
  obtain ⟨bs, r2⟩ := Dp.reads I (.tuple ds) y u g2.dp ry
  have l2 : PyData.canLay0 (.tuple ds) = true := fine_lay _ _ g2.fn
  refine SeqAt.in_tuple_reads r2 r1 l2 (fine_lay _ _ g.fn) ?_ ⟨.bl _, H, I, rfl, q⟩
  have := (shows d k g.fn).2.2
  omega
theorem op_notInT (hu : X.A.units + 64 < cLine) : OpR X (compareOp .NotIn) (rInT X.K true) := by
  intro pins s σ H x y v u Q I rx ry h
  obtain ⟨k, j, d, ds, g, g2, hk, hj, q⟩ := h
  obtain ⟨as, r1⟩ := Dp.reads I d x v g.dp rx
  obtain ⟨bs, r2⟩ := Dp.reads I (.tuple ds) y u g2.dp ry
  have l2 : PyData.canLay0 (.tuple ds) = true := fine_lay _ _ g2.fn
  refine SeqAt.notIn_tuple_reads r2 r1 l2 (fine_lay _ _ g.fn) ?_ ⟨.bl _, H, I, rfl, q⟩
  have := (shows d k g.fn).2.2
  omega
end
section
variable {K : PySem.W.Frag} {σ : L2.St} {H H' : Hp} {ta tb : TE} {x y : V} {k j : Nat} {d : PyData} {ds : List PyData}
theorem ev_inTD {neg : Bool} (ha : Ev ta σ H x) (hb : Ev tb σ H y) (g : Gd K H k x d) (g2 : Gd K H j y (.tuple ds)) (hk : k ≤ 40) (hj : j ≤ 40) : Ev (tOp (rInT K neg) ta tb) σ H (.bl (if neg then !(ds.any fun z => PyData.eqv z d) else ds.any fun z => PyData.eqv z d)) := fun H1 e1 Q q =>
  ha H1 e1 _ fun H2 e2 => hb H2 (e1.trans e2) _ fun H3 e3 => ⟨k, j, d, ds, g.ex ((e1.trans e2).trans e3), g2.ex ((e1.trans e2).trans e3), hk, hj, q H3 (e2.trans e3)⟩
end
end Own


/-! Tc: itertools.combinations of a range. -/
namespace RC
open PySem
open PySem.Sem (wp)
namespace F
open PySem.F
theorem slot_comb_next : Slot "itertools.combinations" "__next__" "itertools.combinations.__next__" :=
  .of (owner := "itertools.combinations") (n := "__next__") (by rw [typeLookup_type, builtinLookup_eq_fast]; kernel_rfl) (by decide +kernel) (by decide +kernel) (by decide +kernel)
    (by first | exact .inl (by decide +kernel) | exact .inr (by decide +kernel)) (by rw [isSubtype_type]; kernel_rfl)
theorem slot_comb_iter : Slot "itertools.combinations" "__iter__" "itertools.combinations.__iter__" :=
  .of (owner := "itertools.combinations") (n := "__iter__") (by rw [typeLookup_type, builtinLookup_eq_fast]; kernel_rfl) (by decide +kernel) (by decide +kernel) (by decide +kernel)
    (by first | exact .inl (by decide +kernel) | exact .inr (by decide +kernel)) (by rw [isSubtype_type]; kernel_rfl)
theorem slot_comb_init : Slot "itertools.combinations" "__init__" "object.__init__" :=
  .of (owner := "object") (n := "__init__") (by rw [typeLookup_type, builtinLookup_eq_fast]; kernel_rfl) (by decide +kernel) (by decide +kernel) (by decide +kernel)
    (by first | exact .inl (by decide +kernel) | exact .inr (by decide +kernel)) (by rw [isSubtype_type]; kernel_rfl)
theorem entry_comb_next : entryFor table "itertools.combinations.__next__" = some Builtin.«itertools.combinations.__next__» := entryFor_of_tree (by kernel_rfl)
theorem entry_comb_new : entryFor table "itertools.combinations.__new__" = some Builtin.«itertools.combinations.__new__» := entryFor_of_tree (by kernel_rfl)
theorem entry_comb_iter : entryFor table "itertools.combinations.__iter__" = some Builtin.«dict_keyiterator.__iter__» :=
  entryFor_alias (id' := "dict_keyiterator.__iter__") (by kernel_rfl) (by first | rfl | decide +kernel | (unfold String.splitOn; simp +decide [String.splitOnAux])) (by decide +kernel) (by kernel_rfl)
theorem mro_comb : mroOf (.type "itertools.combinations") = pure [.type "itertools.combinations", .type "object"] := by rw [mroOf_type]; kernel_rfl
theorem lookup_comb_new : typeLookup (.type "itertools.combinations") "__new__" = pure (some (.builtin "itertools.combinations.__new__")) := by rw [typeLookup_type, builtinLookup_eq_fast]; kernel_rfl
theorem called_comb : TypeCalled "itertools.combinations" "itertools.combinations.__new__" "object.__init__" :=
  ⟨by decide +kernel, by decide +kernel, ⟨_, _, mro_comb⟩, madeBy_type mro_comb lookup_comb_new (by decide +kernel), by decide +kernel, by rw [isSubtype_type]; kernel_rfl, slot_comb_init⟩
theorem typeCall_comb_2 (a b : Value) : checkTypeCall "itertools.combinations" ⟨[a, b], []⟩ = pure () := by kernel_rfl
theorem newCall_comb_2 (a b : Value) : checkBuiltinCall "itertools.combinations.__new__" ⟨[.type "itertools.combinations", a, b], []⟩ = pure () := by kernel_rfl
theorem sub_comb : isSubtype (.type "itertools.combinations") (.type "itertools.combinations") = pure true := by rw [isSubtype_type]; kernel_rfl
end F
end RC


/-! Td: the next of combinations. -/
namespace RC
open PySem
open PySem.Sem (wp)
theorem owner_comb : Manifest.owners.lookup (String.ofList ['s', 'n', 'o', 'i', 't', 'a', 'n', 'i', 'b', 'm', 'o', 'c', '.', 's', 'l', 'o', 'o', 't', 'r', 'e', 't', 'i'].reverse) = some Manifest.sig_itertools_combinations := by kernel_rfl
theorem args_comb_next_1 (a : Value) : argsOk "itertools.combinations.__next__" ⟨[a], []⟩ := by
  unfold argsOk; rw [signature?_of (id := "itertools.combinations.__next__") (n := ['_', '_', 't', 'x', 'e', 'n', '_', '_']) (o := ['s', 'n', 'o', 'i', 't', 'a', 'n', 'i', 'b', 'm', 'o', 'c', '.', 's', 'l', 'o', 'o', 't', 'r', 'e', 't', 'i']) (by kernel_rfl) owner_comb]; kernel_rfl
theorem args_comb_iter_1 (a : Value) : argsOk "itertools.combinations.__iter__" ⟨[a], []⟩ := by
  unfold argsOk; rw [signature?_of (id := "itertools.combinations.__iter__") (n := ['_', '_', 'r', 'e', 't', 'i', '_', '_']) (o := ['s', 'n', 'o', 'i', 't', 'a', 'n', 'i', 'b', 'm', 'o', 'c', '.', 's', 'l', 'o', 'o', 't', 'r', 'e', 't', 'i']) (by kernel_rfl) owner_comb]; kernel_rfl

/-- the fields of a combinations object: pool, where it stands (0 new, 1 begun, 2 over), what it gave last, its places -/
def cf (P : Addr) (st : Int) (res : Value) (ix : List Nat) : Array Value := (.ref P :: rawInt st :: res :: ix.map fun (i : Nat) => rawInt i).toArray
theorem cf_st {P : Addr} {st k : Int} {res : Value} {ix : List Nat} : (cf P st res ix).setIfInBounds 1 (rawInt k) = cf P k res ix := by simp [cf]
theorem cf_res {P : Addr} {st : Int} {res r2 : Value} {ix : List Nat} : (cf P st res ix).setIfInBounds 2 r2 = cf P st r2 ix := by simp [cf]
theorem cf_ix {P : Addr} {st : Int} {res : Value} {ix i2 : List Nat} : (cf P st res ix).extract 0 3 ++ (i2.map fun (n : Nat) => rawInt n).toArray = cf P st res i2 := by simp [cf]
abbrev IsComb (h : Heap) (c P : Addr) (st : Int) (res : Value) (ix : List Nat) : Prop :=
  h.get? c = some { cls := .type "itertools.combinations", dict := none, data := .fields (cf P st res ix), slots := #[] }
abbrev IsTp (h : Heap) (T : Addr) (xs : List Value) : Prop := h.get? T = some { cls := .type "tuple", data := .seq xs.toArray }
def got (items : Array Value) (ix : List Nat) : List Value := ix.map fun i => items.getD i .none
section
variable {prog : Program} {w : World} {A : Around} {E : Value → Shared → Prop} {s : Shared} {c P : Addr} {res : Value} {ix : List Nat} {items : Array Value}
theorem cf_nums (P : Addr) (st : Int) (res : Value) (ix : List Nat) : ((cf P st res ix).toList.drop 3).map (fun | .int n _ => n.toNat | _ => 0) = ix := by
  simp only [cf, List.drop_succ_cons, List.drop_zero, List.map_map]
  induction ix with
  | nil => rfl
  | cons i ix ih => rw [List.map_cons, ih]; rfl
theorem hand_out {oP : Obj} {nP : Nat} {jx : List Nat} {k : Int} {Q : Value → Shared → Prop} (hc : IsComb s.heap c P k res ix) (hoP : s.heap.get? P = some oP) (hdP : oP.data = .seq items nP) (hl : jx.length ≤ 100) {jy : List Nat} (he : jy = jx) {z : Nat} (hz : s.heap.objs.size = z)
    (hQ : ∀ h', IsComb h' c P k (.ref z) ix → IsTp h' z (got items jx) → h'.objs.size = z + 1 → (∀ b o, b ≠ c → s.heap.get? b = some o → h'.get? b = some o) → Q (.ref z) { s with heap := h' }) :
    wpAny (model prog w) A (do
      let result ← (do let items ← Builtin.Itertools.itPoolItems (.ref P); newTuple (jy.map fun i => items.getD i .none))
      let before ← field (.ref c) 2
      setField (.ref c) 2 result
      letGo [before] [result]
      ret result) (fun fin s' => ∃ v, fin = .done (.ret v) ∧ Q v s') E s := by
  subst he
  subst hz
  refine wpAny_bind ?_
  show wpAny _ _ (Builtin.Itertools.itPoolItems (.ref P) >>= _) _ _ _
  refine wpAny_bind ?_
  show wpAny _ _ (seqItems? (.ref P) >>= _) _ _ _
  refine wpAny_bind (wpAny_seqItems hoP hdP ?_)
  refine wpAny_pure ?_
  refine wpAny_newTuple ?_ (by rw [List.length_map]; exact Nat.le_trans hl (by decide))
  have hlt : c < s.heap.objs.size := Heap.lt_size hc
  have hc₁ : IsComb (s.heap.push { cls := .type "tuple", data := .seq (got items jy).toArray }) c P k res ix := Heap.get?_push_of_some _ hc
  refine wpAny_bind (wpAny_field hc₁ rfl (x := res) rfl ?_)
  refine wpAny_bind (wpAny_setField_rec hc₁ (by simp [cf]) fun h₂ hc₂ hs₂ => ?_)
  rw [cf_res] at hc₂
  refine wpAny_bind (wpAny_letGo ?_)
  refine wpAny_pure ⟨_, rfl, ?_⟩
  exact hQ h₂ hc₂ (hs₂.extBut _ _ (Nat.ne_of_gt hlt) (Heap.get?_push_size _ rfl)) (by rw [hs₂.1, Heap.size_push]) fun b o hb q => hs₂.extBut _ _ hb (Heap.get?_push_of_some _ q)
theorem next_first {Q : Value → Shared → Prop} (hc : IsComb s.heap c P 0 res ix) (hP : s.heap.IsTuple P items) (hcP : P ≠ c) (hl : ix.length ≤ 100)
    (hQ : ∀ h', IsComb h' c P 1 (.ref s.heap.objs.size) ix → IsTp h' s.heap.objs.size (got items ix) → h'.objs.size = s.heap.objs.size + 1 → (∀ b o, b ≠ c → s.heap.get? b = some o → h'.get? b = some o) → Q (.ref s.heap.objs.size) { s with heap := h' }) :
    wpAny (model prog w) A (Builtin.«itertools.combinations.__next__» ⟨[.ref c], []⟩) (fun fin s' => ∃ v, fin = .done (.ret v) ∧ Q v s') E s := by
  obtain ⟨oP, hoP, _, nP, hdP⟩ := hP
  show wpAny _ _ (field (.ref c) 0 >>= _) _ _ _
  refine wpAny_bind (wpAny_field hc rfl (x := .ref P) rfl ?_)
  show wpAny _ _ (Builtin.Itertools.itNumbersFrom (.ref c) 3 >>= _) _ _ _
  refine wpAny_bind ?_
  show wpAny _ _ (load c >>= _) _ _ _
  refine wpAny_bind (wpAny_load hc ?_)
  refine wpAny_pure ?_
  show wpAny _ _ (Builtin.Itertools.itIntField (.ref c) 1 >>= _) _ _ _
  refine wpAny_bind ?_
  show wpAny _ _ (field (.ref c) 1 >>= _) _ _ _
  refine wpAny_bind (wpAny_field hc rfl (x := rawInt 0) rfl ?_)
  refine wpAny_pure ?_
  show wpAny _ _ (setField (.ref c) 1 (rawInt 1) >>= _) _ _ _
  refine wpAny_bind (wpAny_setField_rec hc (by simp [cf]) fun h₁ hc₁ hs₁ => ?_)
  rw [cf_st] at hc₁
  exact hand_out hc₁ (hs₁.extBut _ _ hcP hoP) hdP hl (cf_nums ..) hs₁.1 fun h' a b d e => hQ h' a b d fun x o hx q => e x o hx (hs₁.extBut _ _ hx q)

/-- what the next asks of the places -/
def NxtS (prog : Program) (w : World) (f : Nat → List Nat → Option (List Nat)) : Prop :=
  (∀ (A : Around) (E : Value → Shared → Prop) (s : Shared) (c P : Addr) (res : Value) (ix jx : List Nat) (items : Array Value) (Q : Value → Shared → Prop), IsComb s.heap c P 1 res ix → s.heap.IsTuple P items → P ≠ c → f items.size ix = some jx → jx.length ≤ 100 →
    (∀ h', IsComb h' c P 1 (.ref s.heap.objs.size) jx → IsTp h' s.heap.objs.size (got items jx) → h'.objs.size = s.heap.objs.size + 1 → (∀ b o, b ≠ c → s.heap.get? b = some o → h'.get? b = some o) → Q (.ref s.heap.objs.size) { s with heap := h' }) →
    wpAny (model prog w) A (Builtin.«itertools.combinations.__next__» ⟨[.ref c], []⟩) (fun fin s' => ∃ v, fin = .done (.ret v) ∧ Q v s') E s) ∧
  (∀ (A : Around) (E : Value → Shared → Prop) (s : Shared) (c P : Addr) (res : Value) (ix : List Nat) (items : Array Value) (Q : Fin → Shared → Prop), A.handled = none → IsComb s.heap c P 1 res ix → s.heap.IsTuple P items → f items.size ix = none →
    (∀ h' e, (∀ b o, b ≠ c → s.heap.get? b = some o → h'.get? b = some o) → (∃ o, h'.get? e = some o ∧ o.cls = .type "StopIteration") → E (.ref e) { s with heap := h' }) →
    wpAny (model prog w) A (Builtin.«itertools.combinations.__next__» ⟨[.ref c], []⟩) Q E s)
theorem stop_now {α : Type} {Q : α → Shared → Prop} (hh : A.handled = none) (hE : ∀ h' e, (∀ b o, s.heap.get? b = some o → h'.get? b = some o) → (∃ o, h'.get? e = some o ∧ o.cls = .type "StopIteration") → E (.ref e) { s with heap := h' }) :
    wpAny (model prog w) A (Builtin.Itertools.itStop : Sem α) Q E s := by
  unfold Builtin.Itertools.itStop
  show wpAny _ _ (newExc (.type "StopIteration") [] >>= _) _ _ _
  refine wpAny_bind ?_
  simp only [newExc, newTuple]
  refine wpAny_bind (wpAny_newObj_type ?_ (by size_fits))
  refine wpAny_bind (m := firstArgMember _ _) (wpAny_of_eq (a := Value.none) (by first | rfl | (simp only [firstArgMember]; rfl)) ?_)
  refine wpAny_newObj_type ?_ (by size_fits)
  simp only [raiseNew]
  refine wpAny_bind (wpAny_handled ?_)
  first | rw [show A.in1.handled = none from hh] | rw [hh]
  refine wpAny_bind (wpAny_pure (wpAny_throw ?_))
  exact hE _ _ (fun b o q => Heap.get?_push_of_some _ (Heap.get?_push_of_some _ q)) ⟨_, Heap.get?_push_size _ rfl, rfl⟩
/-- all rising lists of r places below n, in their order, the first of them not below lo -/
def ups (n : Nat) : Nat → Nat → List (List Nat)
  | 0, _ => [[]]
  | r + 1, lo => ((List.range n).filter (lo ≤ ·)).flatMap fun i => (ups n r (i + 1)).map (i :: ·)
def combs (n r : Nat) : List (List Nat) := ups n r 0
def chk (f : Nat → List Nat → Option (List Nat)) : Bool := (List.range 9).all fun n => (List.range 4).all fun r => decide (n < r) || (List.range (combs n r).length).all fun i => f n ((combs n r).getD i []) == (combs n r)[i + 1]?
theorem chk_of (f : Nat → List Nat → Option (List Nat)) (h : chk f = true) : ∀ n < 9, ∀ r < 4, r ≤ n → ∀ i < (combs n r).length, f n ((combs n r).getD i []) = (combs n r)[i + 1]? := fun n hn r hr hrn i hi => by
  have h1 := List.all_eq_true.mp (List.all_eq_true.mp h n (List.mem_range.mpr hn)) r (List.mem_range.mpr hr)
  rw [Bool.or_eq_true, decide_eq_true_iff] at h1
  rcases h1 with h1 | h1
  · omega
  · exact eq_of_beq (List.all_eq_true.mp h1 i (List.mem_range.mpr hi))
theorem nxt_is (prog : Program) (w : World) : ∃ f, NxtS prog w f ∧ ∀ n < 9, ∀ r < 4, r ≤ n → ∀ i < (combs n r).length, f n ((combs n r).getD i []) = (combs n r)[i + 1]? := by
  apply Exists.intro
  refine ⟨⟨?_, ?_⟩, ?_⟩
  · intro A E s c P res ix jx items Q hc hP hcP hf hl hQ
    obtain ⟨oP, hoP, _, nP, hdP⟩ := hP
    show wpAny _ _ (field (.ref c) 0 >>= _) _ _ _
    refine wpAny_bind (wpAny_field hc rfl (x := .ref P) rfl ?_)
    show wpAny _ _ (Builtin.Itertools.itNumbersFrom (.ref c) 3 >>= _) _ _ _
    refine wpAny_bind ?_
    show wpAny _ _ (load c >>= _) _ _ _
    refine wpAny_bind (wpAny_load hc ?_)
    refine wpAny_pure ?_
    show wpAny _ _ (Builtin.Itertools.itIntField (.ref c) 1 >>= _) _ _ _
    refine wpAny_bind ?_
    show wpAny _ _ (field (.ref c) 1 >>= _) _ _ _
    refine wpAny_bind (wpAny_field hc rfl (x := rawInt 1) rfl ?_)
    refine wpAny_pure ?_
    show wpAny _ _ (Builtin.Itertools.itPoolItems (.ref P) >>= _) _ _ _
    refine wpAny_bind ?_
    show wpAny _ _ (seqItems? (.ref P) >>= _) _ _ _
    refine wpAny_bind (wpAny_seqItems hoP hdP ?_)
    refine wpAny_pure ?_
    generalize hL : List.map _ (List.drop 3 (cf P 1 res ix).toList) = L
    obtain rfl : L = ix := hL.symm.trans (cf_nums P 1 res ix)
    split
    · rename_i nx heq
      obtain rfl : nx = jx := Option.some.inj (heq.symm.trans hf)
      refine wpAny_bind ?_
      show wpAny _ _ (updateFields c _) _ _ _
      refine wpAny_updateFields hc rfl ?_ (by simp [cf]; exact Nat.le_trans hl (by decide))
      have hs₁ : Heap.SameBut c s.heap (s.heap.update c (Obj.mapFields fun fs => fs.extract 0 3 ++ (nx.map fun (n : Nat) => rawInt n).toArray)) := Heap.SameBut.update ..
      have hc₁ : IsComb (s.heap.update c (Obj.mapFields fun fs => fs.extract 0 3 ++ (nx.map fun (n : Nat) => rawInt n).toArray)) c P 1 res nx := by
        have e := Heap.get?_update_self (Obj.mapFields fun fs => fs.extract 0 3 ++ (nx.map fun (n : Nat) => rawInt n).toArray) hc rfl
        refine e.trans ?_
        show some ({ cls := Value.type "itertools.combinations", dict := none, data := Data.fields ((cf P 1 res L).extract 0 3 ++ (nx.map fun (n : Nat) => rawInt n).toArray), slots := #[] } : Obj) = _
        rw [cf_ix]
      exact hand_out hc₁ (hs₁.extBut _ _ hcP hoP) hdP hl rfl hs₁.1 fun h' a b d e => hQ h' a b d fun x o hx q => e x o hx (hs₁.extBut _ _ hx q)
    · rename_i heq
      exact absurd (heq.symm.trans hf) (by intro z; cases z)
  · intro A E s c P res ix items Q hh hc hP hf hE
    obtain ⟨oP, hoP, _, nP, hdP⟩ := hP
    show wpAny _ _ (field (.ref c) 0 >>= _) _ _ _
    refine wpAny_bind (wpAny_field hc rfl (x := .ref P) rfl ?_)
    show wpAny _ _ (Builtin.Itertools.itNumbersFrom (.ref c) 3 >>= _) _ _ _
    refine wpAny_bind ?_
    show wpAny _ _ (load c >>= _) _ _ _
    refine wpAny_bind (wpAny_load hc ?_)
    refine wpAny_pure ?_
    show wpAny _ _ (Builtin.Itertools.itIntField (.ref c) 1 >>= _) _ _ _
    refine wpAny_bind ?_
    show wpAny _ _ (field (.ref c) 1 >>= _) _ _ _
    refine wpAny_bind (wpAny_field hc rfl (x := rawInt 1) rfl ?_)
    refine wpAny_pure ?_
    show wpAny _ _ (Builtin.Itertools.itPoolItems (.ref P) >>= _) _ _ _
    refine wpAny_bind ?_
    show wpAny _ _ (seqItems? (.ref P) >>= _) _ _ _
    refine wpAny_bind (wpAny_seqItems hoP hdP ?_)
    refine wpAny_pure ?_
    generalize hL : List.map _ (List.drop 3 (cf P 1 res ix).toList) = L
    obtain rfl : L = ix := hL.symm.trans (cf_nums P 1 res ix)
    split
    · rename_i nx heq
      exact absurd (heq.symm.trans hf) (by intro z; cases z)
    · refine wpAny_bind (wpAny_setField_rec hc (by simp [cf]) fun h₁ hc₁ hs₁ => ?_)
      exact stop_now hh fun h' e k x => hE h' e (fun b o hb q => k b o (hs₁.extBut _ _ hb q)) x
  · exact chk_of _ (by decide +kernel)
/-- over from the start: more places than numbers -/
theorem next_over {Q : Fin → Shared → Prop} (hh : A.handled = none) (hc : IsComb s.heap c P 2 res ix)
    (hE : ∀ h' e, (∀ b o, s.heap.get? b = some o → h'.get? b = some o) → (∃ o, h'.get? e = some o ∧ o.cls = .type "StopIteration") → E (.ref e) { s with heap := h' }) :
    wpAny (model prog w) A (Builtin.«itertools.combinations.__next__» ⟨[.ref c], []⟩) Q E s := by
  show wpAny _ _ (field (.ref c) 0 >>= _) _ _ _
  refine wpAny_bind (wpAny_field hc rfl (x := .ref P) rfl ?_)
  show wpAny _ _ (Builtin.Itertools.itNumbersFrom (.ref c) 3 >>= _) _ _ _
  refine wpAny_bind ?_
  show wpAny _ _ (load c >>= _) _ _ _
  refine wpAny_bind (wpAny_load hc ?_)
  refine wpAny_pure ?_
  show wpAny _ _ (Builtin.Itertools.itIntField (.ref c) 1 >>= _) _ _ _
  refine wpAny_bind ?_
  show wpAny _ _ (field (.ref c) 1 >>= _) _ _ _
  refine wpAny_bind (wpAny_field hc rfl (x := rawInt 2) rfl ?_)
  refine wpAny_pure ?_
  show wpAny _ _ (rule _ >>= _) _ _ _
  refine wpAny_bind (wpAny_rule ?_)
  exact stop_now hh hE
theorem combs_first : ∀ n < 9, ∀ r < 4, r ≤ n → (combs n r)[0]? = some (List.range r) := by decide +kernel
theorem combs_none : ∀ n < 9, ∀ r < 4, n < r → combs n r = [] := by decide +kernel
theorem combs_len : ∀ n < 9, ∀ r < 4, ∀ l ∈ combs n r, l.length = r ∧ ∀ i ∈ l, i < n := by decide +kernel
end
end RC


/-! Te: combinations(range(n), r) is made. -/
namespace RC
open PySem PySem.Spec PyProof.Rows
open PySem.Sem (wp)
theorem plain_comb_new : plainId "itertools.combinations.__new__" = true := by decide +kernel
theorem app_comb : ("itertools." ++ "combinations" : String) = "itertools.combinations" := by decide
theorem sub_comb2 : isSubtype (.type "itertools.combinations") (.type ("itertools." ++ "combinations")) = pure true := by rw [app_comb]; exact F.sub_comb
theorem bind_comb (x y : Value) : Builtin.Itertools.itBindNamed "combinations" ["iterable", "r"] 2 2 [x, y] [] = pure [some x, some y] := by rfl
theorem no_dict_comb : (!typeHasDict (.type "itertools.combinations")) = true := by decide +kernel
theorem get_two (h : Heap) (o o2 : Obj) (f : o2.isFreed = false) : ((h.push o).push o2).get? (h.objs.size + 1) = some o2 := by
  have e := Heap.get?_push_size (h := h.push o) (o := o2) f
  rwa [Heap.size_push] at e
section
variable {prog : Program} {w : World} {A : Around} {E : Value → Shared → Prop} {s : Shared} {r : Addr} {a b c m : Int} {t u v tm : Tok} {n : Nat}
theorem code_comb_new {Q₁ : Value → Shared → Prop} (hh : A.handled = none) (hr : IsRange s.heap r a b c t u v) (hsmall : Builtin.Range.small a b c = true) (hn : Builtin.Range.rangeSize a b c = n) (hlen : n ≤ 2 ^ 16) (hm : 0 ≤ m) (hm2 : m ≤ 100)
    (h : ∀ (h' : Heap) (tk : Nat) (acc : Array Value), (∀ b o, s.heap.get? b = some o → h'.get? b = some o) → ItemsOf (fun i v => ∃ t, v = .int (a + i * c) t) acc n →
      Q₁ (.ref (h'.objs.size + 1)) { s with heap := (h'.push { cls := .type "tuple", data := .seq acc }).push { cls := .type "itertools.combinations", data := .fields (cf h'.objs.size (if m.toNat > n then 2 else 0) .none (List.range m.toNat)) }, toks := tk }) :
    codeAny (model prog w) A (.call (.builtin "itertools.combinations.__new__") ⟨[.type "itertools.combinations", .ref r, .int m tm], []⟩) (wants Q₁ E) s := by
  refine codeAny_of_tree ?_
  show wpAny _ A.in1 (do checkBuiltinCall "itertools.combinations.__new__" ⟨[.type "itertools.combinations", .ref r, .int m tm], []⟩; again (.builtin "itertools.combinations.__new__" ⟨[.type "itertools.combinations", .ref r, .int m tm], []⟩)) _ _ s
  refine wpAny_bind (wpAny_of_eq (F.newCall_comb_2 _ _) (wpAny_pure ⟨plainId_quiet plain_comb_new _, codeAny_builtin F.entry_comb_new ?_⟩))
  rw [Around.under_plainId plain_comb_new _]
  have hsub : isSubtype (.type "itertools.combinations") (.type ("itertools." ++ "combinations")) = pure true := sub_comb2
  have hbn := bind_comb (.ref r) (.int m tm)
  have hTI : s.TypeIs (.ref r) "range" := ⟨_, hr, rfl⟩
  have hh1 : A.in1.handled = none := hh
  wp_walk using wpAny_typeOf hTI, L2.collect_range (A := A.in1) hh1 hr hsmall hn (Nat.le_trans hlen (by decide))
  rw [if_neg (by simp only [Bool.or_eq_true, decide_eq_true_iff]; omega)]
  refine wpAny_pure ?_
  refine wpAny_bind (L2.collect_range (A := A.in1) hh1 hr hsmall hn (Nat.le_trans hlen (by decide)) fun h' tk acc hk hacc => ?_)
  dsimp only
  rw [if_neg (show ¬ m < 0 by omega), if_neg (show ¬ Builtin.Itertools.itTooMany m = true by
    unfold Builtin.Itertools.itTooMany
    rw [decide_eq_true_iff]
    omega)]
  have hsz : acc.toList.length = n := by rw [Array.length_toList]; exact hacc.1
  refine wpAny_bind (wpAny_newTuple ?_ (by rw [hsz, sizeLine_eq]; omega))
  refine wpAny_pure ?_
  dsimp only
  refine wpAny_bind ?_
  unfold Builtin.Itertools.itNewRecord
  rw [if_pos no_dict_comb]
  rw [hsz]
  refine wpAny_newObj_type ?_ ?_
  · refine wpAny_pure ?_
    have q := h h' tk acc hk hacc
    have e : acc.toList.toArray = acc := by simp
    rw [e]
    show Q₁ (.ref (h'.push { cls := .type "tuple", data := .seq acc }).objs.size) _
    rw [Heap.size_push]
    exact q
  · show _ ≤ _
    simp
    exact Nat.le_trans (show m.toNat + 1 ≤ 200 by omega) (show 200 ≤ sizeLine by decide)
theorem call_comb {Q : Value → Shared → Prop} (hh : A.handled = none) (hr : IsRange s.heap r a b c t u v) (hsmall : Builtin.Range.small a b c = true) (hn : Builtin.Range.rangeSize a b c = n) (hlen : n ≤ 2 ^ 16) (hm : 0 ≤ m) (hm2 : m ≤ 100)
    (hQ : ∀ (h' : Heap) (tk : Nat) (acc : Array Value), (∀ b o, s.heap.get? b = some o → h'.get? b = some o) → ItemsOf (fun i v => ∃ t, v = .int (a + i * c) t) acc n →
      Q (.ref (h'.objs.size + 1)) { s with heap := (h'.push { cls := .type "tuple", data := .seq acc }).push { cls := .type "itertools.combinations", data := .fields (cf h'.objs.size (if m.toNat > n then 2 else 0) .none (List.range m.toNat)) }, toks := tk }) :
    wpAny (model prog w) A (call (.type "itertools.combinations") [.ref r, .int m tm]) Q E s := by
  refine callType_codes (Q₁ := fun obj s₁ => s₁.TypeIs obj "itertools.combinations" ∧ Q obj s₁) F.called_comb (F.typeCall_comb_2 _ _) F.entry_object_init
    (code_comb_new (A := A.in1) hh hr hsmall hn hlen hm hm2 fun h' tk acc hk hacc => ⟨⟨{ cls := .type "itertools.combinations", data := .fields (cf h'.objs.size (if m.toNat > n then 2 else 0) .none (List.range m.toNat)) }, get_two _ _ _ rfl, rfl⟩, hQ h' tk acc hk hacc⟩) fun obj s₁ h₁ => ?_
  exact ⟨h₁.1, F.args_object_init_3 obj _ _, object_init_meets F.called_comb.init.lookup F.called_comb.made (by decide) prog w A.in1 _ s₁ ⟨h₁.1, rfl, h₁.2⟩⟩
theorem pyIter_comb {c P : Addr} {st : Int} {res : Value} {ix : List Nat} {Q : Value → Shared → Prop} (hc : IsComb s.heap c P st res ix) (h : Q (.ref c) s) : wpAny (model prog w) A (pyIter (.ref c)) Q E s := by
  have hT : s.TypeIs (.ref c) "itertools.combinations" := ⟨_, hc, rfl⟩
  refine wpAny_pyIter_slot hT F.slot_comb_iter (wpAny_call_entry F.slot_comb_iter hT F.entry_comb_iter ?_ (args_comb_iter_1 _))
  show wpAny _ _ (ret (.ref c)) _ _ s
  exact wpAny_pure ⟨_, rfl, "itertools.combinations", _, hT, F.slot_comb_next.lookup, h⟩
theorem pyNext_some {c P : Addr} {st : Int} {res : Value} {ix : List Nat} {Q : Option Value → Shared → Prop} (hc : IsComb s.heap c P st res ix)
    (h : wpAny (model prog w) A.in1 (Builtin.«itertools.combinations.__next__» ⟨[.ref c], []⟩) (fun fin s' => ∃ v, fin = .done (.ret v) ∧ Q (some v) s') (fun _ _ => False) s) : wpAny (model prog w) A (pyNext (.ref c)) Q E s := by
  have hT : s.TypeIs (.ref c) "itertools.combinations" := ⟨_, hc, rfl⟩
  unfold pyNext
  refine wpAny_bind (wpAny_attempt (wpAny_callSpecial?_slot (name := Str.ofString "__next__") hT F.slot_comb_next
    (wpAny_call_entry F.slot_comb_next hT F.entry_comb_next ?_ (args_comb_next_1 _))))
  exact wpAny_mono h (fun fin s' ⟨v, e, q⟩ => ⟨v, e, wpAny_pure q⟩) (fun _ _ z => z.elim)
theorem pyNext_none {c P : Addr} {st : Int} {res : Value} {ix : List Nat} {Q : Option Value → Shared → Prop} (hc : IsComb s.heap c P st res ix)
    (h : wpAny (model prog w) A.in1 (Builtin.«itertools.combinations.__next__» ⟨[.ref c], []⟩) (fun _ _ => False) (fun e s' => ∃ a, e = .ref a ∧ (∃ o, s'.heap.get? a = some o ∧ o.cls = .type "StopIteration") ∧ Q none s') s) : wpAny (model prog w) A (pyNext (.ref c)) Q E s := by
  have hT : s.TypeIs (.ref c) "itertools.combinations" := ⟨_, hc, rfl⟩
  unfold pyNext
  refine wpAny_bind (wpAny_attempt (wpAny_callSpecial?_slot (name := Str.ofString "__next__") hT F.slot_comb_next
    (wpAny_call_entry F.slot_comb_next hT F.entry_comb_next ?_ (args_comb_next_1 _))))
  refine wpAny_mono h (fun fin s' z => z.elim) (fun e s' ⟨a, ea, ⟨o, ho, hcl⟩, q⟩ => ?_)
  subst ea
  exact wpAny_bind (wpAny_isInstance (T := "StopIteration") (b := true) ⟨o, ho, hcl⟩ isSubtype_stop (wpAny_pure q))
end
end RC


/-! Tf: combinations(range(n), r) as what a for goes over. -/
namespace RC
open PySem PySem.Spec PyProof.Rows L2
def Itb (n r : Nat) : It := ⟨fun i _ => i < (combs n r).length, fun i H v H' => ∃ T l, v = .ref T ∧ H T = none ∧ (combs n r)[i]? = some l ∧ H' = upd H T (.tup (l.map fun j => V.int (j : Nat))), fun i _ => (combs n r).length ≤ i⟩
/-- how the object stands ahead of turn i -/
def AtTurn (n r i : Nat) (st : Int) (ix : List Nat) : Prop :=
  (n < r ∧ st = 2) ∨ (r ≤ n ∧ i = 0 ∧ st = 0 ∧ ix = List.range r) ∨ (r ≤ n ∧ 0 < i ∧ st = 1 ∧ (combs n r)[i - 1]? = some ix)
def Pool (h : Heap) (P : Addr) (n : Nat) : Prop := ∃ acc : Array Value, h.get? P = some { cls := .type "tuple", data := .seq acc } ∧ ItemsOf (fun i v => ∃ t, v = Value.int (0 + i * 1) t) acc n
def CombT (n r : Nat) (c P : Addr) (i : Nat) (h : Heap) : Prop := ∃ st res ix, IsComb h c P st res ix ∧ Pool h P n ∧ AtTurn n r i st ix ∧ P ≠ c
theorem vals_got {acc : Array Value} {n : Nat} (h : ItemsOf (fun i v => ∃ t, v = Value.int (0 + i * 1) t) acc n) : ∀ l : List Nat, (∀ i ∈ l, i < n) → Vals (l.map fun j => V.int (j : Nat)) (got acc l)
  | [], _ => .nil
  | j :: l, hl => by
    have hj : j < acc.size := by rw [h.1]; exact hl j List.mem_cons_self
    refine .cons ?_ (vals_got h l fun i hi => hl i (List.mem_cons_of_mem _ hi))
    obtain ⟨t, e⟩ := h.2 j acc[j] (Array.getElem?_eq_getElem hj)
    have e2 : acc.getD j .none = acc[j] := by simp [Array.getD, hj]
    show RelV (V.int (j : Nat)) (acc.getD j .none)
    rw [e2, e]
    exact ⟨t, by simp⟩
theorem comb_at {n r i : Nat} {l : List Nat} (hn : n < 9) (hr : r < 4) (h : (combs n r)[i]? = some l) : l.length = r ∧ ∀ j ∈ l, j < n := combs_len n hn r hr l (List.mem_of_getElem? h)
theorem turn_comb {P : Program} {w : World} {K : PySem.W.Frag} {tg : Expr} {n r : Nat} {c p : Addr} (hn : n < 9) (hr : r < 4) : Turn P w K tg (Itb n r) [c, p] c (CombT n r c p) where
  mem := by simp
  obj := fun i h st b hb => by
    obtain ⟨st0, res, ix, hC, ⟨acc, hP, _⟩, _, _⟩ := st
    have e' : b = c ∨ b = p := by simpa using hb
    rcases e' with z | z
    · rw [z]; exact ⟨_, hC, fun v q => nomatch q⟩
    · rw [z]; exact ⟨_, hP, fun v q => nomatch q⟩
  keep := fun i h h' st k => by
    obtain ⟨st0, res, ix, hC, ⟨acc, hP, hi⟩, a, b⟩ := st
    exact ⟨st0, res, ix, k c (by simp) _ hC, ⟨acc, k p (by simp) _ hP, hi⟩, a, b⟩
  item := by
    intro X hP hw hK hc i pins s σ H E I hf st hg
    subst hP hw hK
    obtain ⟨st0, res, ix, hC, ⟨acc, hPo, hit⟩, hat, hne⟩ := st
    have hcl : c < s.heap.objs.size := Heap.lt_size hC
    have hpl : p < s.heap.objs.size := Heap.lt_size hPo
    have hT : s.heap.IsTuple p acc := ⟨_, hPo, rfl, _, rfl⟩
    have fin : ∀ (h' : Heap) (l : List Nat), r ≤ n → (combs n r)[i]? = some l → IsComb h' c p 1 (.ref s.heap.objs.size) l → IsTp h' s.heap.objs.size (got acc l) → h'.objs.size = s.heap.objs.size + 1 → (∀ b o, b ≠ c → s.heap.get? b = some o → h'.get? b = some o) →
        ∃ u, some (Value.ref s.heap.objs.size) = some u ∧ wpAny (model X.prog X.w) X.A (letOwnedTupleGo tg (.ref c) u) (fun _ s2 => ∃ x H', Inv X pins σ H' s2 ∧ RelV x u ∧ (Itb n r).yld i H x H' ∧ CombT n r c p (i + 1) s2.heap ∧ ∀ b ∈ [c, p], H' b = none) E { s with heap := h' } := by
      intro h' l hrn hl hC' hT' hsz hk
      refine ⟨_, rfl, go_of (s := { s with heap := h' }) hC' rfl rfl (by decide) ?_⟩
      obtain ⟨ll, lb⟩ := comb_at hn hr hl
      have hv := vals_got hit l lb
      have new : ObjOk X.prog X.w (upd H s.heap.objs.size (.tup (l.map fun j => V.int (j : Nat)))) h' s.heap.objs.size (.tup (l.map fun j => V.int (j : Nat))) :=
        ⟨by show (l.map _).length ≤ sizeLine; rw [List.length_map, ll]; exact Nat.le_trans (Nat.le_of_lt hr) (by decide), got acc l, hv, ⟨_, hT', rfl, _, rfl⟩⟩
      have I1 : Inv X pins σ (upd H s.heap.objs.size (.tup (l.map fun j => V.int (j : Nat)))) { s with heap := h' } :=
        I.turnedNew (t' := s.toks) (ch := [c, p]) (fun b ob hb q => hk b ob (fun z => hb (by simp [z])) q) hf (Nat.le_refl _) new
      refine ⟨.ref s.heap.objs.size, _, I1, rfl, ⟨_, l, rfl, I.hok.fresh (Nat.le_refl _), hl, rfl⟩, ⟨1, _, l, hC', ⟨acc, hk p _ hne hPo, hit⟩, .inr (.inr ⟨hrn, Nat.succ_pos _, rfl, by rw [Nat.add_sub_cancel]; exact hl⟩), hne⟩, fun b hb => ?_⟩
      have hb' : b < s.heap.objs.size := by
        have e' : b = c ∨ b = p := by simpa using hb
        rcases e' with z | z
        · rw [z]; exact hcl
        · rw [z]; exact hpl
      rw [upd_ne (Nat.ne_of_lt hb')]
      exact (hf b hb).1
    rcases hat with ⟨h1, _⟩ | ⟨h1, rfl, rfl, rfl⟩ | ⟨h1, h2, rfl, h3⟩
    · have g : i < (combs n r).length := hg
      rw [combs_none n hn r hr h1] at g
      exact absurd g (Nat.not_lt_zero _)
    · refine pyNext_some hC (next_first hC hT hne (by rw [List.length_range]; omega) fun h' a b d e => ?_)
      exact fin h' (List.range r) h1 (combs_first n hn r hr h1) a b d e
    · obtain ⟨f, ⟨N1, _⟩, F⟩ := nxt_is X.prog X.w
      have g : i < (combs n r).length := hg
      have hl : (combs n r)[i]? = some (combs n r)[i] := List.getElem?_eq_getElem g
      have hfx : f acc.size ix = some (combs n r)[i] := by
        have z := F n hn r hr h1 (i - 1) (by omega)
        rw [List.getD_eq_getElem?_getD, h3, Nat.sub_add_cancel h2, hl] at z
        rw [hit.1]
        exact z
      refine pyNext_some hC (N1 _ _ s c p res ix _ acc _ hC hT hne hfx (by rw [(comb_at hn hr hl).1]; omega) fun h' a b d e => ?_)
      exact fin h' _ h1 hl a b d e
  done := by
    intro X hP hw hK hc i pins s σ H E I hf st hg
    subst hP hw hK
    obtain ⟨st0, res, ix, hC, ⟨acc, hPo, hit⟩, hat, hne⟩ := st
    have hT : s.heap.IsTuple p acc := ⟨_, hPo, rfl, _, rfl⟩
    have g : (combs n r).length ≤ i := hg
    have fin : ∀ h', (∀ b o, b ≠ c → s.heap.get? b = some o → h'.get? b = some o) → (none : Option Value) = none ∧ Inv X pins σ H { s with heap := h' } := fun h' k =>
      ⟨rfl, I.turnedL (t' := s.toks) (ch := [c, p]) (fun b o hb q => k b o (fun z => hb (by simp [z])) q) hf⟩
    rcases hat with ⟨h1, rfl⟩ | ⟨h1, rfl, rfl, rfl⟩ | ⟨h1, h2, rfl, h3⟩
    · exact pyNext_none hC (next_over (I.ok.hd hc) hC fun h' e k x => ⟨e, rfl, x, fin h' fun b o _ q => k b o q⟩)
    · have z := combs_first n hn r hr h1
      rw [List.getElem?_eq_none g] at z
      cases z
    · obtain ⟨f, ⟨_, N2⟩, F⟩ := nxt_is X.prog X.w
      have h4 : i - 1 < (combs n r).length := (List.getElem?_eq_some_iff.mp h3).1
      have hfx : f acc.size ix = none := by
        have z := F n hn r hr h1 (i - 1) h4
        rw [List.getD_eq_getElem?_getD, h3, Nat.sub_add_cancel h2, List.getElem?_eq_none g] at z
        rw [hit.1]
        exact z
      exact pyNext_none hC (N2 _ _ s c p res ix acc _ (I.ok.hd hc) hC hT hfx fun h' e k x => ⟨e, rfl, x, fin h' k⟩)
  self := fun A i s Q E st h => by
    obtain ⟨st0, res, ix, hC, _⟩ := st
    exact pyIter_comb hC h
section
variable {X : Cx} {tg a b : Expr} {ta tb : TE} {p p1 pos pos1 : Pos}
/-- combinations(range(n), r) of small n and r -/
def iComb (ta tb : TE) : TI := fun σ H R => ta σ H fun x H1 => ∃ n : Nat, x = .int n ∧ n < 9 ∧ tb σ H1 fun y H2 => ∃ r : Nat, y = .int r ∧ r < 4 ∧ R (Itb n r) H2
theorem pi_comb (hc : X.calm = true) (hg : Gl X "combinations") (hm : X.mg "combinations" = some (.type "itertools.combinations")) (hg1 : Gl X "range") (hm1 : X.mg "range" = none) (ha : PE X a ta) (hb : PE X b tb)
    (n0 : starEach [a] X.env = (false, eval a X.env) :: starEach [] X.env := by rfl)
    (na : starEach [.Call (.Name "range" p1) [a] [] pos1, b] X.env = (false, eval (.Call (.Name "range" p1) [a] [] pos1) X.env) :: starEach [b] X.env := by rfl)
    (nb : starEach [b] X.env = (false, eval b X.env) :: starEach [] X.env := by rfl) (hp : (backTo pos (starEach [b] X.env)).any (·.1) = false := by rfl) :
    PI X tg (.Call (.Name "combinations" p) [.Call (.Name "range" p1) [a] [] pos1, b] [] pos) (iComb ta tb) := by
  refine ⟨fun pins s σ H R I h => ?_⟩
  refine Call_ (ld_glob I hg hm (PyProof.Rows.callWith_type1 (args_cons (thn (Q := fun x s' => ∃ r t u v H1, ∃ n : Nat, x = .ref r ∧ Inv X ((r, ({ cls := .type "range", dict := none, data := .fields #[.int 0 t, .int (n : Int) u, .int 1 v], slots := #[] } : Obj)) :: pins) σ H1 s' ∧ n < 9 ∧ tb σ H1 (fun y H2 => ∃ k : Nat, y = .int k ∧ k < 4 ∧ R (Itb n k) H2)) ?_ fun x s1 ⟨r, t, u, v, H1, n, ex, I1, hn9, q1⟩ => one_arg hb I1 q1 (fun w2 s2 y H2 I2 r2 q2 => ?_) nb) na) na hp))
  · refine Call_ (ld_blt I hg1 hm1 boot_range (PyProof.Rows.callWith_type1 (one_arg ha I h (fun w2 s2 x H2 I2 r2 q2 => ?_) n0) n0))
    obtain ⟨n, rfl, hn9, q⟩ := q2
    obtain ⟨t, rfl⟩ := r2
    exact call_range_1 ⟨_, _, t, _, H2, n, rfl, ClX.pin_new I2 (fun b o e => Heap.get?_push_of_some _ e) (Nat.le_refl _) (Heap.get?_push_size _ rfl) (fun v z => nomatch z), hn9, q⟩
  · subst ex
    obtain ⟨k, rfl, hk4, q⟩ := q2
    obtain ⟨tk, rfl⟩ := r2
    have hR : IsRange s2.heap r 0 n 1 t u v := ClX.pin_at I2
    refine call_comb (n := n) (I2.ok.hd hc) hR (small_one (by omega) (by omega) (by omega) (by omega)) (by rw [rangeSize_one]; split <;> omega) (by omega) (by omega) (by omega) fun h' tk2 acc hk hacc => ?_
    have I3 : Inv X pins σ H2 { s2 with heap := h', toks := tk2 } := (ClX.unpin I2).kept hk
    have hC : IsComb ((h'.push { cls := .type "tuple", data := .seq acc }).push { cls := .type "itertools.combinations", data := .fields (cf h'.objs.size (if (k : Int).toNat > n then 2 else 0) .none (List.range (k : Int).toNat)) }) (h'.objs.size + 1) h'.objs.size (if (k : Int).toNat > n then 2 else 0) .none (List.range (k : Int).toNat) := get_two _ _ _ rfl
    refine pyIter_comb hC ?_
    refine ⟨h'.objs.size + 1, [h'.objs.size + 1, h'.objs.size], _, _, H2, rfl, I3.kept (t' := tk2) (fun b o e => Heap.get?_push_of_some _ (Heap.get?_push_of_some _ e)), turn_comb hn9 hk4, ⟨_, _, _, hC, ⟨acc, Heap.get?_push_of_some _ (Heap.get?_push_size _ rfl), hacc⟩, ?_, Nat.ne_of_lt (Nat.lt_succ_self _)⟩, fun b hb => ?_, q⟩
    · rw [Int.toNat_natCast]
      by_cases hkn : k > n
      · rw [if_pos hkn]; exact .inl ⟨hkn, rfl⟩
      · rw [if_neg hkn]; exact .inr (.inl ⟨by omega, rfl, rfl, rfl⟩)
    · have e' : b = h'.objs.size + 1 ∨ b = h'.objs.size := by simpa using hb
      have hle : h'.objs.size ≤ b := by
        rcases e' with z | z
        · rw [z]; exact Nat.le_succ _
        · rw [z]; exact Nat.le_refl _
      exact I3.fpOk hle (I3.hok.fresh hle)
end
end RC


set_option maxHeartbeats 2000000
namespace Own
open PySem PySem.Spec PyProof.Rows L2
open Evl
/-! Th: lists whose items read as data. -/
/-- a list at p whose items read as ds -/
def LD (K : PySem.W.Frag) (k : Nat) (ds : List PyData) : Addr → Hp → Prop := fun p H => ∃ vs, H p = some (.lst vs) ∧ GdAll K H k vs ds
/-- all but what stands at f is kept -/
def But (f : Addr) (H H' : Hp) : Prop := ∀ b o, b ≠ f → H b = some o → H' b = some o
/-- what reads as d -/
def PD (K : PySem.W.Frag) (k : Nat) (d : PyData) : VP := fun v H => Gd K H k v d
section
variable {K : PySem.W.Frag} {σ : L2.St} {H H' H1 : Hp} {te ta tb tl : TE} {D : Ends} {tu tz : TS} {k k0 : Nat} {a f p : Addr} {ds es : List PyData} {d e : PyData} {v : V}
theorem gdAll_at : ∀ {vs : List V} {ds : List PyData} {i : Nat} {x : V}, GdAll K H k vs ds → vs[i]? = some x → ∃ d, ds[i]? = some d ∧ Gd K H k x d
  | _, _, _, _, .nil, h => by simp at h
  | _, _, 0, _, .cons g _, h => by simp at h; subst h; exact ⟨_, rfl, g⟩
  | _, _, i + 1, _, .cons _ t, h => by
    obtain ⟨d, h1, h2⟩ := gdAll_at (i := i) t (by simpa using h)
    exact ⟨d, by simpa using h1, h2⟩
theorem But.refl (f : Addr) (H : Hp) : But f H H := fun _ _ _ h => h
theorem But.trans {H2 : Hp} (h : But f H H1) (h2 : But f H1 H2) : But f H H2 := fun b o n e => h2 b o n (h b o n e)
theorem But.ex (e : Ex H H1) : But f H H1 := fun b o _ h => e b o h
theorem But.kp {xs : List V} (h : H f = some (.lst xs)) (b : But f H H1) : Kp H H1 := fun a o q n => by
  by_cases e : a = f
  · rw [e, h] at q
    cases q
    exact absurd rfl (n.1 _)
  · exact b a o e q
theorem But.upd {o : HO} (b : But f H H1) : But f H (upd H1 f o) := fun c x n h => by rw [upd_ne n]; exact b c x n h
theorem LD.ex (e : Ex H H1) (h : LD K k ds p H) : LD K k ds p H1 := let ⟨vs, h1, h2⟩ := h; ⟨vs, e _ _ h1, h2.kp (.ex e)⟩
theorem LD.but {xs : List V} (hf : H f = some (.lst xs)) (n : p ≠ f) (b : But f H H1) (h : LD K k ds p H) : LD K k ds p H1 := let ⟨vs, h1, h2⟩ := h; ⟨vs, b _ _ n h1, h2.kp (b.kp hf)⟩
/-- [] -/
theorem en_nilD : EvN (tLst tNil) σ H (LD K k []) := fun H1 u Q q => ⟨Nat.zero_le _, fun p np => q p _ np (Ex.new np) ⟨[], upd_same, .nil⟩⟩
/-- [e] -/
theorem en_oneD (h : EvX te σ H (PD K k d)) : EvN (tLst (tCons te tNil)) σ H (LD K k [d]) := fun H1 u Q q =>
  h H1 u _ fun v H2 u2 g => ⟨by show 1 ≤ sizeLine; decide, fun p np => q p _ (fresh_back u2 np) (u2.trans (Ex.new np)) ⟨[v], upd_same, .cons (g.kp (.new np)) .nil⟩⟩
/-- a list that stands -/
theorem en_catD (ha : Ev ta σ H (.ref a)) (hx : LD K k ds a H) (hb : EvN tb σ H (LD K k es)) (hz : ds.length + es.length ≤ 100000) : EvN (tOp rCat ta tb) σ H (LD K k (ds ++ es)) := fun H1 u Q q =>
  ha H1 u _ fun H2 u2 => hb H2 (u.trans u2) _ fun r H3 hr u3 ⟨ys, hy, gy⟩ => by
    obtain ⟨xs, h1, gx⟩ := hx.ex ((u.trans u2).trans u3)
    have l1 := gdAll_len gx
    have l2 := gdAll_len gy
    exact ⟨a, r, xs, ys, rfl, rfl, h1, hy, sz_of (by omega), fun c hc => q c _ (fresh_back (u2.trans u3) hc) ((u2.trans u3).trans (Ex.new hc)) ⟨_, upd_same, (gx.app gy).kp (.new hc)⟩⟩
/-- [e for x in xs], e made anew -/
theorem lcD {J : It} {n : Nat} {xs : List V} {j : Nat} {vs : List Nat} {H1 : Hp} {Qd : Addr → Hp → Prop} (G : Hp → Prop) (w : Walk J n G (YAt xs)) (hG : ∀ H', Ex H1 H' → G H') (hn : n ≤ 40000) (hw : ∀ x, wipe ((wipe σ vs).set j (some x)) vs = wipe σ vs)
    (he : ∀ (i : Nat) x H', Ex H1 H' → xs[i]? = some x → i < n → EvX te ((wipe σ vs).set j (some x)) H' (fun v H2 => ∃ e, es[i]? = some e ∧ Gd K H2 k v e)) {Dl : Addr} (hD : H1 Dl = none) (hd : ∀ H', Ex H1 H' → LD K k (es.take n) Dl H' → Qd Dl H') :
    ∃ W : Nat → Nat → Hp → Prop, (∃ m, W 0 m (upd H1 Dl (.lst []))) ∧ ∀ i m H, W i m H →
      (J.stop i H ∧ Qd Dl H) ∨ (J.go i H ∧ ∃ Nx : Hp → Prop, (∀ H', Nx H' → ∃ m', m' < m ∧ W (i + 1) m' H') ∧ ∀ x H', J.yld i H x H' → gName j x (wipe σ vs) H' fun σ2 H2 => wipe σ2 vs = wipe σ vs ∧ tYes σ2 H2 fun b H3 =>
        if b = true then te σ2 H3 fun y H4 => ∃ acc, H4 Dl = some (.lst acc) ∧ acc.length < sizeLine ∧ Nx (upd H4 Dl (.lst (acc ++ [y]))) else Nx H3) :=
  lc_it w (fun i H' => Ex H1 H' ∧ LD K k (es.take i) Dl H' ∧ (es.take i).length = i) ⟨Ex.new hD, ⟨[], upd_same, .nil⟩, rfl⟩ (fun i H' _ p => hG H' p.1)
    (fun i x H2 H3 hi => by
      rintro ⟨e2, ⟨ys, hy, gy⟩, hl⟩ ⟨e3, hx⟩
      subst e3
      refine ⟨hw x, ?_⟩
      refine yesT ?_
      refine he i x H3 e2 hx hi H3 (.refl H3) _ fun y H4 u4 ⟨e, he1, ge⟩ => ⟨ys, u4 _ _ hy, sz_lt (by rw [gdAll_len gy, hl]; omega), Ex.mut (e2.trans u4) hD, ⟨ys ++ [y], upd_same, ?_⟩, ?_⟩
      · rw [List.take_succ, he1]
        have kp : Kp H4 (upd H4 Dl (.lst (ys ++ [y]))) := Kp.lst (u4 _ _ hy)
        exact (gy.kp ((Kp.ex u4).trans kp)).app (.cons (ge.kp kp) .nil)
      · rw [List.take_succ, he1, List.length_append, hl]
        rfl)
    (fun H' p => hd H' p.1 p.2.1)
theorem en_lcD {j : Nat} {vs : List Nat} (h : Ev tl σ H (.ref a)) (hx : LD K k0 ds a H) (hn : ds.length ≤ 40000) (hl : es.length = ds.length) (hw : ∀ x, wipe ((wipe σ vs).set j (some x)) vs = wipe σ vs)
    (he : ∀ (i : Nat) x d H', Ex H H' → ds[i]? = some d → Gd K H' k0 x d → EvX te ((wipe σ vs).set j (some x)) H' (fun v H2 => ∃ e, es[i]? = some e ∧ Gd K H2 k v e)) : EvN (tLc (iList K tl) (gName j) tYes te vs) σ H (LD K k es) :=
  fun H0 u Q q => h H0 u _ fun H1 u1 => by
    obtain ⟨xs, h1, gx⟩ := hx.ex (u.trans u1)
    have l1 := gdAll_len gx
    refine ⟨a, rfl, ⟨xs, sq_of h1⟩, fun Dl hD => lcD (es := es) (k := k) (K := K) (Qd := fun l H => Q (.ref l) H) _ walk_list (fun H' e' => ex_l e' (sq_of (K := K) h1)) (by omega) hw (fun i x H' e' hx hi => ?_) hD (fun H' e' p => q Dl H' (fresh_back u1 hD) (u1.trans e') ?_)⟩
    · obtain ⟨d, hd, gd⟩ := gdAll_at gx hx
      exact he i x d H' ((u.trans u1).trans e') hd (gd.ex e')
    · rw [List.take_of_length_le (by omega)] at p
      exact p
/-- for x in a new list of data; the list at f may grow meanwhile -/
theorem s_forD {j : Nat} {ys : List V} (h : EvN tl σ H (LD K k ds)) (hf : H f = some (.lst ys)) (Pv : Hp → Nat → L2.St → Hp → Prop) (h0 : ∀ HL, Ex H HL → Pv HL 0 σ HL) (hB : ∀ HL i σ' H', Pv HL i σ' H' → But f HL H')
    (hs : ∀ HL (i : Nat) d x σ' H', Ex H HL → ds[i]? = some d → Gd K H' k x d → Pv HL i σ' H' → tu { D with nx := Pv HL (i + 1), ct := Pv HL (i + 1), bk := D.nx } (σ'.set j (some x)) H') (hd : ∀ HL σ' H', Ex H HL → Pv HL ds.length σ' H' → D.nx σ' H') :
    tFor (iList K tl) (gName j) tu D σ H :=
  h H (.refl H) _ fun L HL nL u ⟨xs, hL, gx⟩ => by
    have nf : L ≠ f := fun z => by rw [z, hf] at nL; cases nL
    have hfL := u _ _ hf
    have l1 := gdAll_len gx
    exact ⟨L, rfl, ⟨xs, sq_of hL⟩, for_list (xs := xs) (Pv HL) (h0 HL u) (fun i σ' H' _ p => sq_of (hB HL i σ' H' p _ _ nf hL))
      (fun i x σ' H' hx p => by
        obtain ⟨d, hd, gd⟩ := gdAll_at gx hx
        exact hs HL i d x σ' H' u hd (gd.kp ((hB HL i σ' H' p).kp hfL)) p) (fun σ' H' p => hd HL σ' H' u (by rw [← l1]; exact p))⟩
theorem q_forD {j : Nat} {ys : List V} (h : EvN tl σ H (LD K k ds)) (hf : H f = some (.lst ys)) (Pv : Hp → Nat → L2.St → Hp → Prop) (h0 : ∀ HL, Ex H HL → Pv HL 0 σ HL) (hB : ∀ HL i σ' H', Pv HL i σ' H' → But f HL H')
    (hs : ∀ HL (i : Nat) d x σ' H', Ex H HL → ds[i]? = some d → Gd K H' k x d → Pv HL i σ' H' → tu { D with nx := Pv HL (i + 1), ct := Pv HL (i + 1), bk := tz D } (σ'.set j (some x)) H') (hd : ∀ HL σ' H', Ex H HL → Pv HL ds.length σ' H' → tz D σ' H') :
    tSeq (tFor (iList K tl) (gName j) tu) tz D σ H := s_forD (D := { D with nx := tz D }) h hf Pv h0 hB hs hd
/-- xs.append(e) -/
theorem s_appD {i : Nat} (hl : LD K k ds f H) (hv : σ[i]? = some (some (.ref f))) (h : EvX te σ H (PD K k e)) (hz : ds.length < 100000) (q : ∀ H1, But f H H1 → LD K k (ds ++ [e]) f H1 → D.nx σ H1) : tDrop (tBM K "list" rAppend (tVar i) (tCons te tNil)) D σ H := by
  obtain ⟨xs, h1, gx⟩ := hl
  refine ⟨_, hv, .inl ⟨rfl, _, sq_of h1⟩, h H (.refl H) _ fun y H2 u p => ⟨f, xs, y, rfl, rfl, u f _ h1, sz_lt (by rw [gdAll_len gx]; exact hz), ?_⟩⟩
  have kp : Kp H2 (upd H2 f (.lst (xs ++ [y]))) := Kp.lst (u _ _ h1)
  exact q _ (But.upd (.ex u)) ⟨_, upd_same, (gx.kp ((Kp.ex u).trans kp)).app (.cons (Gd.kp kp p) .nil)⟩
end
end Own


set_option maxHeartbeats 2000000
namespace Own
open PySem PySem.Spec PyProof.Rows L2
open Evl
/-! Ti: tuples of whole numbers as data, all parts of a list, combinations in a for. -/
def D1 (l : List Nat) : PyData := intsD (natI l)
def D2 (x : List Nat × List Nat) : PyData := .tuple [D1 x.1, D1 x.2]
/-- numbers that read as data -/
def Nats (m : Nat) (l : List Nat) : Prop := l.length ≤ m ∧ ∀ i ∈ l, i < 2 ^ 60
theorem ofN_natI (l : List Nat) : ofN l = (natI l).map V.int := by unfold ofN natI; rw [List.map_map]; rfl
/-- all parts, as the program lists them -/
def partStep (ps : List (List Nat)) (n : Nat) : List (List Nat) := ps ++ ps.map (· ++ [n])
def partsM (ns : List Nat) : List (List Nat) := ns.foldl partStep [[]]
theorem partsM_take {ns : List Nat} {i n : Nat} (h : ns[i]? = some n) : partsM (ns.take (i + 1)) = partStep (partsM (ns.take i)) n := by
  unfold partsM
  rw [List.take_succ, h, List.foldl_append]
  rfl
theorem partsM_app (ns : List Nat) (n : Nat) : partsM (ns ++ [n]) = partStep (partsM ns) n := by
  unfold partsM
  rw [List.foldl_append]
  rfl
theorem partsM_len : ∀ (k : Nat) (ns : List Nat), ns.length = k → (partsM ns).length = 2 ^ k
  | 0, ns, h => by rw [List.length_eq_zero_iff.mp h]; rfl
  | k + 1, ns, h => by
    have e : ns = ns.dropLast ++ [ns.getLast (by intro z; rw [z] at h; cases h)] := (List.dropLast_concat_getLast _).symm
    have l : ns.dropLast.length = k := by rw [List.length_dropLast, h]; rfl
    rw [e, partsM_app]
    unfold partStep
    rw [List.length_append, List.length_map, partsM_len k _ l, Nat.pow_succ]
    omega
theorem partsM_sub : ∀ (k : Nat) (ns : List Nat), ns.length = k → ∀ l ∈ partsM ns, l.Sublist ns
  | 0, ns, h, l, hl => by
    rw [List.length_eq_zero_iff.mp h] at hl ⊢
    have : l ∈ [([] : List Nat)] := hl
    rw [List.mem_singleton.mp this]
    exact List.Sublist.refl _
  | k + 1, ns, h, l, hl => by
    have e : ns = ns.dropLast ++ [ns.getLast (by intro z; rw [z] at h; cases h)] := (List.dropLast_concat_getLast _).symm
    have ll : ns.dropLast.length = k := by rw [List.length_dropLast, h]; rfl
    rw [e] at hl ⊢
    rw [partsM_app] at hl
    rcases List.mem_append.mp hl with m | m
    · exact (partsM_sub k _ ll l m).trans (List.sublist_append_left _ _)
    · obtain ⟨p, hp, rfl⟩ := List.mem_map.mp m
      exact (partsM_sub k _ ll p hp).append (List.Sublist.refl _)
section
variable {K : PySem.W.Frag} {σ : L2.St} {H H' H1 : Hp} {te ta tb tl : TE} {D : Ends} {tu tz : TS} {k k0 : Nat} {a f p : Addr} {ds es : List PyData} {d e : PyData} {v : V}
theorem gd_D1 {l : List Nat} {m : Nat} (h : SqT K H a (ofN l)) (n : Nats m l) (hm : m ≤ 20) : Gd K H 1 (.ref a) (D1 l) := by
  rw [ofN_natI] at h
  refine gd_ints h (by unfold natI; rw [List.length_map]; exact Nat.le_trans n.1 hm) fun x hx => ?_
  obtain ⟨i, hi, rfl⟩ := List.mem_map.mp hx
  have := n.2 i hi
  show (Int.natAbs (i : Int)) < 2 ^ 64
  rw [Int.natAbs_natCast]
  omega
theorem gd_D1_of {l : List Nat} {x : V} (g : Gd K H k x (D1 l)) : ∃ a, x = .ref a ∧ SqT K H a (ofN l) ∧ l.length ≤ 20 := by
  obtain ⟨a, xs, j, rfl, rfl, hs, hl, h20, _, _, hx⟩ := g.tup
  rw [List.length_map] at hl h20
  have z : xs = ofN l := by
    rw [ofN_natI]
    apply List.ext_getElem?
    intro i
    by_cases c : i < xs.length
    · obtain ⟨d, hd, gd⟩ := hx i xs[i] (List.getElem?_eq_getElem c)
      rw [List.getElem?_map] at hd
      have hil : i < (natI l).length := by rw [← hl]; exact c
      rw [List.getElem?_eq_getElem hil] at hd
      injection hd with hd
      subst hd
      have := gd.dp
      rw [List.getElem?_eq_getElem c, List.getElem?_map, List.getElem?_eq_getElem hil]
      generalize xs[i] = y at this
      cases this
      rfl
    · rw [List.getElem?_eq_none (by omega), List.getElem?_eq_none (by rw [List.length_map, ← hl]; omega)]
  subst z
  unfold natI at h20
  rw [List.length_map] at h20
  exact ⟨a, rfl, hs, h20⟩
theorem et_notInT {n : Nat} {S : List Nat} (ha : Ev ta σ H (.int (n : Int))) (hb : Ev tb σ H (.ref p)) (hs : SqT K H p (ofN S)) : EvT (tTest (tOp (rIn K true) ta tb)) σ H (!decide (n ∈ S)) := by
  rw [← inV_nat]; exact et_test (ev_op ha hb (rv_niT hs rfl flat_nat))
theorem given_nat (n : Nat) (g : Nat → Bool) : given n g (fun i => V.int (i : Int)) = ofN ((List.range n).filter g) := rfl
theorem given_at (g : Nat → Bool) (u : Nat → Int) : ∀ l : List Nat, given l.length (fun i => g (l.getD i 0)) (fun i => V.int (u (l.getD i 0))) = (l.filter g).map fun n => V.int (u n)
  | l => by
    have e : (List.range l.length).map (fun i => l.getD i 0) = l := by
      apply List.ext_getElem?
      intro i
      rw [List.getElem?_map]
      by_cases c : i < l.length
      · rw [List.getElem?_range c, List.getElem?_eq_getElem c]; simp [c]
      · rw [List.getElem?_eq_none (by simp; omega), List.getElem?_eq_none (by omega)]; rfl
    unfold given
    have q : l.filter g = ((List.range l.length).filter fun i => g (l.getD i 0)).map fun i => l.getD i 0 := by
      conv => lhs; rw [← e]
      rw [List.filter_map]
      rfl
    rw [q, List.map_map]
    rfl
theorem given_at1 (g : Nat → Bool) (l : List Nat) : given (ofN l).length (fun i => g (l.getD i 0)) (fun i => V.int ((l.getD i 0 : Nat) : Int)) = ofN (l.filter g) := by
  have e : (ofN l).length = l.length := by unfold ofN; rw [List.length_map]
  rw [e]
  exact given_at g (fun n => (n : Int)) l
theorem ofN_at {l : List Nat} {i : Nat} {x : V} (h : (ofN l)[i]? = some x) : x = V.int ((l.getD i 0 : Nat) : Int) ∧ i < l.length := by
  unfold ofN at h
  rw [List.getElem?_map] at h
  by_cases c : i < l.length
  · rw [List.getElem?_eq_getElem c] at h
    injection h with h
    refine ⟨?_, c⟩
    rw [← h]
    simp [c]
  · rw [List.getElem?_eq_none (by omega)] at h
    cases h
/-- [x for x in t if x not in S] of two tuples, or the second a list -/
theorem el_outT {j : Nat} {vs : List Nat} {l S : List Nat} {b : Addr} {t2 : TE} (h : Ev tl σ H (.ref a)) (hx : SqT K H a (ofN l)) (hl : l.length ≤ 40000) (hw : ∀ x, wipe ((wipe σ vs).set j (some x)) vs = wipe σ vs) (hj : ∀ x, ((wipe σ vs).set j (some x))[j]? = some (some x))
    (h2 : ∀ x H1, Ex H H1 → Ev t2 ((wipe σ vs).set j (some x)) H1 (.ref b)) (hs : SqT K H b (ofN S)) : EvL (tLc (iTup K tl) (gName j) (tTest (tOp (rIn K true) (tVar j) t2)) (tVar j) vs) σ H (ofN (l.filter fun i => !decide (i ∈ S))) := by
  rw [← given_at1]
  refine el_lcTp (K := K) _ _ h hx (by unfold ofN; rw [List.length_map]; exact hl) hw (fun i x H1 u hi => ?_) (fun i x H1 u hi _ => ?_)
  · obtain ⟨rfl, _⟩ := ofN_at hi
    exact et_notInT (ev_var (hj _)) (h2 _ H1 u) (ex_t u hs)
  · obtain ⟨rfl, _⟩ := ofN_at hi
    exact ev_var (hj _)
theorem el_outL {j : Nat} {vs : List Nat} {l S : List Nat} {b : Addr} {t2 : TE} (h : Ev tl σ H (.ref a)) (hx : SqT K H a (ofN l)) (hl : l.length ≤ 40000) (hw : ∀ x, wipe ((wipe σ vs).set j (some x)) vs = wipe σ vs) (hj : ∀ x, ((wipe σ vs).set j (some x))[j]? = some (some x))
    (h2 : ∀ x H1, Ex H H1 → Ev t2 ((wipe σ vs).set j (some x)) H1 (.ref b)) (hs : SqL K H b (ofN S)) : EvL (tLc (iTup K tl) (gName j) (tTest (tOp (rIn K true) (tVar j) t2)) (tVar j) vs) σ H (ofN (l.filter fun i => !decide (i ∈ S))) := by
  rw [← given_at1]
  refine el_lcTp (K := K) _ _ h hx (by unfold ofN; rw [List.length_map]; exact hl) hw (fun i x H1 u hi => ?_) (fun i x H1 u hi _ => ?_)
  · obtain ⟨rfl, _⟩ := ofN_at hi
    exact et_notIn (ev_var (hj _)) (h2 _ H1 u) (ex_l u hs)
  · obtain ⟨rfl, _⟩ := ofN_at hi
    exact ev_var (hj _)
theorem q_setN {i : Nat} {P : Addr → Hp → Prop} (h : EvN te σ H P) (q : ∀ l H1, H l = none → Ex H H1 → P l H1 → tz D (σ.set i (some (.ref l))) H1) : tSeq (tAsg te (gName i)) tz D σ H := h H (.refl H) _ fun l H1 n u p => q l H1 n u p
theorem s_setN {i : Nat} {P : Addr → Hp → Prop} (h : EvN te σ H P) (q : ∀ l H1, H l = none → Ex H H1 → P l H1 → D.nx (σ.set i (some (.ref l))) H1) : tAsg te (gName i) D σ H := h H (.refl H) _ fun l H1 n u p => q l H1 n u p
theorem q_asgL2 {i : Nat} {xs : List V} (h : EvL te σ H xs) (q : ∀ l H1, H l = none → Ex H H1 → H1 l = some (.lst xs) → tz D (σ.set i (some (.ref l))) H1) : tSeq (tAsg te (gName i)) tz D σ H := h H (.refl H) _ fun l H1 n u p => q l H1 n u p
theorem s_retNN {P : Addr → Hp → Prop} (h : EvN te σ H P) (q : ∀ l H1, H l = none → Ex H H1 → P l H1 → D.rt (.ref l) H1) : tRet te D σ H := h H (.refl H) _ fun l H1 n u p => q l H1 n u p
/-- a def called with a new list -/
theorem en_callL {sp : Sp} {E : XK} {xs : List V} {P : Addr → Hp → Prop} (h : EvL tl σ H xs) (hs : ∀ b H1, Ex H H1 → H1 b = some (.lst xs) → SpN sp [.ref b] H1 P) : EvN (tCall sp [] E (tCons tl tNil)) σ H P := fun H1 u Q q =>
  h H1 u _ fun b H2 hb u2 hx => by
    show sp ([.ref b] ++ []) H2 Q E
    rw [List.append_nil]
    exact hs b H2 (u.trans u2) hx H2 (.refl H2) Q (fun l H3 hl u3 p => q l H3 (fresh_back u2 hl) (u2.trans u3) p) E
/-- tuple(a new list) -/
theorem ex_tupL {xs : List V} (h : EvL te σ H xs) : EvX (tCB (rTupOf K) (tCons te tNil)) σ H (PSq K xs) := fun H1 u Q q =>
  h H1 u _ fun l H2 hl u2 hx => ⟨l, xs, rfl, .inl ⟨sq_of hx, fun t nt => q _ _ (u2.trans (Ex.new nt)) ⟨t, rfl, st_of upd_same⟩⟩⟩
theorem exT_cat {xs ys : List V} (ha : EvX ta σ H (PSq K xs)) (hb : EvX tb σ H (PSq K ys)) (hz : xs.length + ys.length ≤ 1000) : EvX (tOp (rCatA K) ta tb) σ H (PSq K (xs ++ ys)) := fun H1 u Q q =>
  ha H1 u _ fun x H2 u2 ⟨b, ex, hx⟩ => hb H2 (u.trans u2) _ fun y H3 u3 ⟨c, ey, hy⟩ => by
    have hx3 : SqT K H3 b xs := ex_t u3 hx
    have U := u2.trans u3
    exact ⟨b, c, xs, ys, ex, ey, hx3, hy, sz_of (by omega), fun z => q _ H3 U ⟨c, rfl, by rw [z]; exact hy⟩, fun _ z => q _ H3 U ⟨b, rfl, by rw [z, List.append_nil]; exact hx3⟩, fun _ _ p np => q _ _ (U.trans (Ex.new np)) ⟨p, rfl, st_of upd_same⟩⟩
theorem exT_v {i : Nat} {b : Addr} {xs : List V} (e : σ[i]? = some (some (.ref b))) (h : SqT K H b xs) : EvX (tVar i) σ H (PSq K xs) := fun H1 u Q q => ⟨_, e, q _ H1 (.refl H1) ⟨b, rfl, ex_t u h⟩⟩
theorem exT_1 {v : V} (h : Ev te σ H v) : EvX (tTup (tCons te tNil)) σ H (PSq K [v]) := fun H1 u Q q => h H1 u _ fun H2 u2 => ⟨by show 1 ≤ sizeLine; decide, fun p np => q _ _ (u2.trans (Ex.new np)) ⟨p, rfl, st_of upd_same⟩⟩
theorem exT_0 : EvX (tTup tNil) σ H (PSq K []) := fun H1 u Q q => ⟨Nat.zero_le _, fun p np => q _ _ (Ex.new np) ⟨p, rfl, st_of upd_same⟩⟩
theorem ex_D1 {l : List Nat} {m : Nat} (h : EvX te σ H (PSq K (ofN l))) (n : Nats m l) (hm : m ≤ 20) : EvX te σ H (PD K 1 (D1 l)) := ex_imp h fun v H1 ⟨b, ev, hb⟩ => by
  subst ev
  exact gd_D1 hb n hm
/-- (x, y) of two data -/
theorem ex_pairD {d1 d2 : PyData} (h1 : EvX ta σ H (PD K k d1)) (h2 : EvX tb σ H (PD K k d2)) : EvX (tTup (tCons ta (tCons tb tNil))) σ H (PD K (k + 1) (.tuple [d1, d2])) := fun H1 u Q q =>
  h1 H1 u _ fun x H2 u2 g1 => h2 H2 (u.trans u2) _ fun y H3 u3 g2 => ⟨by show 2 ≤ sizeLine; decide, fun p np => q _ _ ((u2.trans u3).trans (Ex.new np)) (by
    have gs : GdAll K H3 k [x, y] [d1, d2] := .cons (Gd.ex u3 g1) (.cons g2 .nil)
    exact gd_tup (st_of upd_same) (gs.kp (.new np)) (by show 2 ≤ 20; decide))⟩
theorem ex_vD {i : Nat} {v : V} (e : σ[i]? = some (some v)) (g : Gd K H k v d) : EvX (tVar i) σ H (PD K k d) := fun H1 u Q q => ⟨_, e, q _ H1 (.refl H1) (g.ex u)⟩
/-- for x in combinations(range(n), r) -/
theorem walk_comb {n r : Nat} : Walk (RC.Itb n r) (RC.combs n r).length (fun _ => True) (fun i H v H' => ∃ T l, v = .ref T ∧ H T = none ∧ (RC.combs n r)[i]? = some l ∧ H' = upd H T (.tup (ofN l))) :=
  ⟨fun i H h _ => h, fun H _ => Nat.le_refl _, fun i H x H' h _ y => y⟩
theorem s_forC {n r j : Nat} (ha : Ev ta σ H (.int (n : Int))) (hb : Ev tb σ H (.int (r : Int))) (hn : n < 9) (hr : r < 4) (Pv : Nat → L2.St → Hp → Prop) (h0 : ∀ H1, Ex H H1 → Pv 0 σ H1)
    (hs : ∀ i l T σ' H' H2, (RC.combs n r)[i]? = some l → Pv i σ' H' → Ex H' H2 → SqT K H2 T (ofN l) → tu { D with nx := Pv (i + 1), ct := Pv (i + 1), bk := D.nx } (σ'.set j (some (.ref T))) H2) (hd : ∀ σ' H', Pv (RC.combs n r).length σ' H' → D.nx σ' H') :
    tFor (RC.iComb ta tb) (gName j) tu D σ H := ha H (.refl H) _ fun H1 u1 => ⟨n, rfl, hn, hb H1 u1 _ fun H2 u2 => ⟨r, rfl, hr, for_it walk_comb Pv (h0 H2 (u1.trans u2)) (fun _ _ _ _ _ => trivial)
      (fun i x σ' H' H2 hi p => by
        rintro ⟨T, l, rfl, hT, hl, rfl⟩
        exact hs i l T σ' H' _ hl p (Ex.new hT) (st_of upd_same)) hd⟩⟩
theorem q_forC {n r j : Nat} (ha : Ev ta σ H (.int (n : Int))) (hb : Ev tb σ H (.int (r : Int))) (hn : n < 9) (hr : r < 4) (Pv : Nat → L2.St → Hp → Prop) (h0 : ∀ H1, Ex H H1 → Pv 0 σ H1)
    (hs : ∀ i l T σ' H' H2, (RC.combs n r)[i]? = some l → Pv i σ' H' → Ex H' H2 → SqT K H2 T (ofN l) → tu { D with nx := Pv (i + 1), ct := Pv (i + 1), bk := tz D } (σ'.set j (some (.ref T))) H2) (hd : ∀ σ' H', Pv (RC.combs n r).length σ' H' → tz D σ' H') :
    tSeq (tFor (RC.iComb ta tb) (gName j) tu) tz D σ H := s_forC (K := K) (D := { D with nx := tz D }) ha hb hn hr Pv h0 hs hd
end
end Own


set_option maxHeartbeats 2000000
/-! Tg: the call of a lambda x: (len(x[0]) + len(x[1]), x), all that stands kept. -/
namespace RC
open PySem PySem.Spec PyProof.Rows L2
section
variable {prog : Program} {w : World} {A : Around} {E : Value → Shared → Prop} {s : Shared} {env : Env}
/-- what the reading of x and of len asks of a frame -/
structure Fr1 (env : Env) (h : Heap) (x : Str) (v : Value) : Prop where
  kind : env.scope.kind = .function
  loc : env.kindOf x = some .local
  ns : ∃ m, h.Ns env.locals m ∧ m x = some v
  gl : env.kindOf "len" = some .globalImplicit
  len : ∃ mg mb, h.Ns env.globals mg ∧ mg "len" = none ∧ h.Ns env.builtins mb ∧ mb "len" = some (.builtin "len")
  hx : (x == ("__debug__" : Str)) = false
theorem ev_x {x : Str} {v : Value} {p : Pos} {Q : Value → Shared → Prop} (F : Fr1 env s.heap x v) (q : Q v s) : wpAny (model prog w) A (eval (.Name x p) env) Q E s := by
  obtain ⟨m, h1, h2⟩ := F.ns
  exact wpAny_Name (wpAny_loadName_local F.kind F.loc h1 h2 q) F.hx
/-- x[i] -/
theorem ev_xi {x : Str} {a : Addr} {its : Array Value} {i : Nat} {b : Value} {k : Nat} {p1 p2 p3 : Pos} {Q : Value → Shared → Prop} (F : Fr1 env s.heap x (.ref a)) (ht : IsTup s.heap a its) (hb : its[i]? = some b) (hi : i < 100)
    (q : Q b { s with toks := s.toks + 1 }) : wpAny (model prog w) A (eval (.Subscript (.Name x p1) (.Constant (.int (i : Int)) k p2) p3) env) Q E s := by
  refine Subscript_ (ev_x F (wpAny_Constant_int ?_))
  have hs : i < its.size := (Array.getElem?_eq_some_iff.mp hb).1
  refine subscriptTail_builtinR (s := { s with toks := s.toks + 1 }) (x := b) (T := "tuple") (let ⟨o, h1, h2, _⟩ := ht; ⟨o, h1, h2⟩) slot_tuple_getitem.lookup
    (getItem_tuple (j := i) (Q := fun r s' => r = b ∧ Q r s') ht (by omega) (by omega) ?_ hb ⟨rfl, q⟩) (by rfl)
  exact (seqIndex_at (by omega) (by omega)).trans (by rw [Int.toNat_natCast])
/-- len(x[i]) -/
theorem ev_lxi {x : Str} {a b : Addr} {its xs : Array Value} {i : Nat} {k : Nat} {p1 p2 p3 p4 p5 : Pos} {Q : Value → Shared → Prop} (F : Fr1 env s.heap x (.ref a)) (ht : IsTup s.heap a its) (hb : its[i]? = some (.ref b)) (hi : i < 100) (hxs : IsTup s.heap b xs) (hz : (xs.size : Int) < 2 ^ 63)
    (q : ∀ t tk, Q (.int xs.size t) { s with toks := tk }) : wpAny (model prog w) A (eval (.Call (.Name "len" p4) [.Subscript (.Name x p1) (.Constant (.int (i : Int)) k p2) p3] [] p5) env) Q E s := by
  obtain ⟨mg, mb, h1, h2, h3, h4⟩ := F.len
  refine wpAny_Call_Name_kw (Calls.Name_function_global F.kind F.gl (Calls.loadGlobal_builtin h1 h2 h3 h4 ?_) (by decide))
  refine PyProof.Rows.callWith_builtin1 (args_cons (ev_xi F ht hb hi (args_nil ?_)) (by rfl)) (by rfl) (by rfl)
  exact len_tuple (s := { s with toks := s.toks + 1 }) hxs hz (q _ _)
/-- (len(x[0]) + len(x[1]), x) -/
theorem ev_key {x : Str} {a b0 b1 : Addr} {its xs0 xs1 : Array Value} {k1 k2 k3 : Nat} {p1 p2 p3 p4 p5 p6 p7 p8 p9 p10 p11 p12 p13 : Pos} {Q : Value → Shared → Prop} (F : Fr1 env s.heap x (.ref a)) (ht : IsTup s.heap a its) (h0 : its[0]? = some (.ref b0)) (h1 : its[1]? = some (.ref b1))
    (hx0 : IsTup s.heap b0 xs0) (hx1 : IsTup s.heap b1 xs1) (z0 : (xs0.size : Int) < 2 ^ 63) (z1 : (xs1.size : Int) < 2 ^ 63)
    (q : ∀ t tk, Q (.ref s.heap.objs.size) { s with heap := s.heap.push { cls := .type "tuple", data := .seq #[.int ((xs0.size : Int) + (xs1.size : Int)) t, .ref a] }, toks := tk }) :
    wpAny (model prog w) A (eval (.Tuple [.BinOp (.Call (.Name "len" p4) [.Subscript (.Name x p1) (.Constant (.int 0) k1 p2) p3] [] p5) .Add (.Call (.Name "len" p9) [.Subscript (.Name x p6) (.Constant (.int 1) k2 p7) p8] [] p10) p11, .Name x p12] k3 p13) env) Q E s := by
  refine wpAny_Tuple_spliced (args_cons (wpAny_BinOp (ev_lxi (i := 0) F ht h0 (by decide) hx0 z0 fun t tk => ev_lxi (i := 1) (s := { s with toks := tk }) F ht h1 (by decide) hx1 z1 fun t2 tk2 => add_int ?_)) (by rfl))
  refine args_cons (ev_x (s := { s with toks := tk2 + 1 }) F (args_nil ⟨by show 2 ≤ sizeLine; decide, ?_⟩)) (by rfl)
  exact q _ _
/-- the call of the lambda -/
theorem call_key {f c' : Addr} {nm qual x : Str} {params : Arguments} {scope : Scope} {pm ctv : Value} {a b0 b1 : Addr} {its xs0 xs1 : Array Value} {k1 k2 k3 : Nat} {p1 p2 p3 p4 p5 p6 p7 p8 p9 p10 p11 p12 p13 : Pos} {Q : Value → Shared → Prop} {mg mb : Str → Option Value}
    (hf : s.heap.get? f = some (PySem.W.kla_obj nm qual params (.Tuple [.BinOp (.Call (.Name "len" p4) [.Subscript (.Name x p1) (.Constant (.int 0) k1 p2) p3] [] p5) .Add (.Call (.Name "len" p9) [.Subscript (.Name x p6) (.Constant (.int 1) k2 p7) p8] [] p10) p11, .Name x p12] k3 p13) scope [] pm c' ctv))
    (hcd : s.heap.CodeRec (.ref c') qual) (hroom : A.depth < recursionLimit) (lim : s.heap.NoLimit)
    (hbind : ∀ bd v, bindArgs (PySem.W.kla_fn nm qual params bd scope [] pm (.ref c') ctv) ⟨[v], []⟩ = pure [(x, v)])
    (hco : scope.isCoroutine = false) (hgen : scope.isGenerator = false) (hk : scope.kind = .function) (hcell : ∀ y ∈ scope.names, y.2 ≠ .cell) (hl : scope.names.lookup x = some .local) (hlen : scope.names.lookup (Str.ofString "len") = some NameKind.globalImplicit) (hx : (x == ("__debug__" : Str)) = false)
    (hmg : s.heap.Ns mainGlobals mg) (hm : mg "len" = none) (hmb : s.heap.Ns builtinsNs mb) (hb : mb "len" = some (.builtin "len"))
    (ht : IsTup s.heap a its) (h0 : its[0]? = some (.ref b0)) (h1 : its[1]? = some (.ref b1))
    (hx0 : IsTup s.heap b0 xs0) (hx1 : IsTup s.heap b1 xs1) (z0 : (xs0.size : Int) < 2 ^ 63) (z1 : (xs1.size : Int) < 2 ^ 63)
    (q : ∀ h' t tk T, (∀ b o, s.heap.get? b = some o → h'.get? b = some o) → h'.get? T = some { cls := .type "tuple", data := .seq #[.int ((xs0.size : Int) + (xs1.size : Int)) t, .ref a] } → Q (.ref T) { s with heap := h', toks := tk }) :
    wpAny (model prog w) A (call (.ref f) [.ref a]) Q E s := by
  refine wpAny_call (PySem.W.kla_callFunE hroom hf rfl hco hgen rfl hcd ?_)
  rw [hbind]
  refine wpAny_pure (wpAny_newFunctionEnv hcell (fun y hy => by rw [List.mem_singleton.mp hy]; exact hl) (fun h₁ hns hsb => ⟨lim.fresh _ hsb, ?_⟩) hk)
  show codeAny _ _ (.expr _ (PySem.W.envX qual scope s.heap.objs.size f (.ref c') [])) _ _
  have kp : ∀ b o, s.heap.get? b = some o → h₁.get? b = some o := fun b o e => hsb.extBut b o (Nat.ne_of_lt (Heap.lt_size e)) (Heap.get?_push_of_some _ e)
  have tup : ∀ {b : Addr} {ys : Array Value}, IsTup s.heap b ys → IsTup h₁ b ys := fun ⟨o, e1, e2, e3⟩ => ⟨o, kp _ _ e1, e2, e3⟩
  refine PySem.W.kla_codeExpr (ev_key (x := x) (s := { s with heap := h₁, toks := s.toks + 1 }) ⟨hk, hl, ⟨_, hns, ?_⟩, hlen, ⟨mg, mb, hmg.keeps kp, hm, hmb.keeps kp, hb⟩, hx⟩ (tup ht) h0 h1 (tup hx0) (tup hx1) z0 z1 fun t tk => ?_)
  · show List.lookup x (List.reverse [(x, Value.ref a)]) = some (.ref a)
    simp
  · exact q _ t tk _ (fun b o e => Heap.get?_push_of_some _ (kp b o e)) (Heap.get?_push_size _ rfl)
end
end RC


set_option maxHeartbeats 2000000
namespace Own
open PySem PySem.Spec PyProof.Rows L2 LamX
open Evl
/-! Tj: sorted by the key of Tg. -/
mutual
theorem reads_nil {h : Heap} : ∀ (d : PyData) (k : Nat) (v : Value) (as : List Addr), fine k d = true → Reads h v d as → as = []
  | .none, _, _, _, _, r => by cases r; rfl
  | .bool _, _, _, _, _, r => by cases r; rfl
  | .int _, _, _, _, _, r => by cases r; rfl
  | .str _, _, _, _, _, r => by cases r; rfl
  | .list _, k, _, _, f, _ => by cases k <;> simp [fine] at f
  | .dict _, k, _, _, f, _ => by cases k <;> simp [fine] at f
  | .tuple _, 0, _, _, f, _ => by simp [fine] at f
  | .tuple ds, k + 1, _, _, f, r => by
    simp only [fine, Bool.and_eq_true, decide_eq_true_eq] at f
    cases r with
    | tuple ho hc hd ha => exact reads_nilAll ds k _ _ (List.all_eq_true.mp f.2) ha
theorem reads_nilAll {h : Heap} : ∀ (ds : List PyData) (k : Nat) (vs : List Value) (as : List Addr), (∀ d ∈ ds, fine k d = true) → ReadsAll h vs ds as → as = []
  | [], _, _, _, _, r => by cases r; rfl
  | d :: ds, k, _, _, f, r => by
    cases r with
    | cons h1 h2 =>
      rw [reads_nil d k _ _ (f d List.mem_cons_self) h1, reads_nilAll ds k _ _ (fun x hx => f x (List.mem_cons_of_mem _ hx)) h2]
      rfl
end
abbrev N3 := List Nat × List Nat × List Nat
def D3 (x : N3) : PyData := .tuple [D1 x.1, D1 x.2.1, D1 x.2.2]
def keyD (x : N3) : PyData := .tuple [.int ((x.1.length : Int) + (x.2.1.length : Int)), D3 x]
theorem alike_D1 (a b : List Nat) : PySem.W.alike (D1 a) (D1 b) = true := PySem.W.alike_ints _ _
theorem alike_D3 (x y : N3) : PySem.W.alike (D3 x) (D3 y) = true := by
  show PySem.W.alikeAll [D1 x.1, D1 x.2.1, D1 x.2.2] [D1 y.1, D1 y.2.1, D1 y.2.2] = true
  simp [PySem.W.alikeAll, alike_D1]
theorem alike_keyD (x y : N3) : PySem.W.alike (keyD x) (keyD y) = true := by
  show PySem.W.alikeAll [_, _] [_, _] = true
  simp [PySem.W.alikeAll, alike_D3, PySem.W.alike]
section
variable {K : PySem.W.Frag} {H : Hp} {k : Nat}
/-- an item of the list, as it lies in the heap -/
def ItR (K : PySem.W.Frag) (H : Hp) (u : Value) (x : N3) : Prop := ∃ t, u = .ref t ∧ Gd K H 2 (.ref t) (D3 x)
theorem each_it : ∀ {vs : List V} {us : List Value} {cs : List N3}, Vals vs us → GdAll K H 2 vs (cs.map D3) → PySem.W.EachIs (ItR K H) us cs
  | _, _, [], .nil, _ => .nil
  | _, _, [], .cons _ _, g => by cases g
  | _, _, _ :: _, .nil, g => by cases g
  | _, _, c :: cs, .cons r t, g => by
    cases g with
    | cons g1 g2 =>
      obtain ⟨a, _, _, rfl, _⟩ := g1.tup
      obtain rfl := r
      exact .cons ⟨a, rfl, g1⟩ (each_it t g2)
theorem it_back : ∀ {us : List Value} {cs : List N3}, PySem.W.EachIs (ItR K H) us cs → Vals (us.map backV) us ∧ GdAll K H 2 (us.map backV) (cs.map D3)
  | _, _, .nil => ⟨.nil, .nil⟩
  | _, _, .cons ⟨t, e, g⟩ r => by
    subst e
    obtain ⟨h1, h2⟩ := it_back r
    exact ⟨.cons rfl h1, .cons g h2⟩
end
theorem clo_none {cells : List (Str × Addr)} : ∀ (names : List (Str × NameKind)) (acc : List (Str × Addr)), (∀ y ∈ names, y.2 ≠ .free) → cloFrom cells names acc = acc
  | [], _, _ => rfl
  | (n, k) :: r, acc, h => by
    have hk : (k == NameKind.free) = false := by
      cases k <;> first | rfl | exact absurd rfl (h (n, .free) List.mem_cons_self)
    show (if (k == NameKind.free) = true then _ else cloFrom cells r acc) = acc
    rw [hk]
    exact clo_none r acc fun y hy => h y (List.mem_cons_of_mem _ hy)
theorem boot_sorted : bootBuiltins "sorted" = some (.builtin "sorted") := by decide +kernel
theorem boot_len : bootBuiltins "len" = some (.builtin "len") := by decide +kernel
def tSortK (T : List (Addr × Str)) (K : PySem.W.Frag) (ta : TA) : TE := fun σ H Q => ta σ H fun vs H1 => Tabs T H1 ∧ ∃ (a : Addr) (cs : List N3), vs = [.ref a] ∧ LD K 2 (cs.map D3) a H1 ∧ cs.length ≤ 100000 ∧
  ∀ H2 p H3, ExtN H1 H2 → Tabs T H2 → H2 p = none → Ex H2 H3 → LD K 2 ((cs.mergeSort (PySem.W.dataLe false keyD)).map D3) p H3 → Q (.ref p) H3
theorem extN_kp {H H' : Hp} (e : ExtN H H') : Kp H H' := fun a o h f => e a o h f.2
section
variable {X : Cx} {T : List (Addr × Str)} {c P : Addr} {x : Str} {e : Expr} {ta : TA} {params : Arguments} {scope : Scope} {k1 k2 k3 : Nat} {p pos lpos kpos p1 p2 p3 p4 p5 p6 p7 p8 p9 p10 p11 p12 p13 : Pos}
abbrev keyE (x : Str) (k1 k2 k3 : Nat) (p1 p2 p3 p4 p5 p6 p7 p8 p9 p10 p11 p12 p13 : Pos) : Expr :=
  .Tuple [.BinOp (.Call (.Name "len" p4) [.Subscript (.Name x p1) (.Constant (.int 0) k1 p2) p3] [] p5) .Add (.Call (.Name "len" p9) [.Subscript (.Name x p6) (.Constant (.int 1) k2 p7) p8] [] p10) p11, .Name x p12] k3 p13
theorem pe_sortK (hg : Gl X "sorted") (hm : X.mg "sorted" = none) (hml : X.mg "len" = none) (ha : PA X [e] ta) (TB : TabB X.base X.mg c P) (hcode : X.env.code = .ref c) (hmT : (P, X.env.qual ++ "<lambda>") ∈ T)
    (hu : ∀ p ∈ T, p.1 = P → p.2 = X.env.qual ++ "<lambda>") (hr : Room 3 X.A) (hdef : defaultsOf params X.env = ([], []))
    (hbind : ∀ (q : Str) (bd : Expr) (cl : List (Str × Addr)) (pm cv ctv v : Value), bindArgs (PySem.W.kla_fn "<lambda>" q params bd scope cl pm cv ctv) ⟨[v], []⟩ = pure [(x, v)])
    (hco : scope.isCoroutine = false) (hgen : scope.isGenerator = false) (hk : scope.kind = .function) (hcell : ∀ y ∈ scope.names, y.2 ≠ .cell) (hfree : ∀ y ∈ scope.names, y.2 ≠ .free)
    (hl : scope.names.lookup x = some .local) (hlen : scope.names.lookup (Str.ofString "len") = some NameKind.globalImplicit) (hx : (x == ("__debug__" : Str)) = false)
    (h1 : backTo pos (starEach [e] X.env) = (false, eval e X.env) :: backTo pos (starEach [] X.env) := by rfl) (h2 : (backTo pos (starEach [e] X.env)).any (·.1) = false := by rfl) :
    PE X (.Call (.Name "sorted" p) [e] [⟨some (Str.ofString "key"), .Lambda params (keyE x k1 k2 k3 p1 p2 p3 p4 p5 p6 p7 p8 p9 p10 p11 p12 p13) scope lpos, kpos⟩] pos) (tSortK T X.K ta) := by
  refine ⟨fun pins s σ H Q I h => ?_⟩
  refine wpAny_Call_Name_kw (ld_blt I hg hm boot_sorted ?_)
  refine PyProof.Rows.callWith_kw (thn (ha.run pos pins s σ H _ I h) fun us s1 ⟨vs, H1, I1, r1, q1⟩ => ?_) h1 h2 (by rfl) (by rfl)
  obtain ⟨hT, a, cs, rfl, hD, hz, q⟩ := q1
  obtain ⟨ua, rfl, era⟩ := vals1 r1
  obtain rfl : ua = Value.ref a := era
  show wpAny _ _ (evalAll ((do let v ← eval (.Lambda params (keyE x k1 k2 k3 p1 p2 p3 p4 p5 p6 p7 p8 p9 p10 p11 p12 p13) scope lpos) X.env; standAt pos; pure v) :: [])) _ _ s1
  refine wpAny_evalAll_cons (wpAny_bind ?_)
  refine lam_make2 I1 TB hcode hmT hu hT hdef (fun y hy z => absurd z (hfree y hy)) fun f c' pm ctv H2 s2 I2 eN T2 hf hfn hfr hcc => ?_
  refine wpAny_bind (wpAny_standAt (wpAny_pure (wpAny_evalAll_nil ?_)))
  rw [clo_none _ _ hfree] at hf
  show wpAny _ _ (call (.builtin "sorted") [.ref a] [(Str.ofString "key", .ref f)]) _ _ s2
  obtain ⟨vs, hvs, gv⟩ := hD
  have hvs2 : H2 a = some (.lst vs) := eN a _ hvs (fun ps z => by cases z)
  have gv2 : GdAll X.K H2 2 vs (cs.map D3) := gv.kp (extN_kp eN)
  obtain ⟨its, rv, pl, hiz⟩ := I2.list (sq_of (K := X.K) hvs2)
  have ei := each_it rv gv2
  obtain ⟨⟨oc, cvs, ct, hoc, hdc, hvc⟩, _, _⟩ := I2.hok c' _ hcc
  obtain ⟨mb, hb1, hb2⟩ := I2.mod.blt
  have hun := hr.un
  refine PySem.W.sorted_key_data (β := N3) (R := ItR X.K H2) (b := false) keyD pl.isList ei (fun d hd d' hd' => ?_) (.inl fun d hd => ?_) (Nat.le_trans hz (by decide)) (fun y hy => ?_) (PyProof.Rows.ksk_s1 _ _) (fun _ => PyProof.Rows.ksk_l1 _ _) (fun _ => PyProof.Rows.ksk_t1 _ _) (fun v y ⟨t, ev, g⟩ hy h tk kp => ?_) fun out cc h' tk kp hn ho hlo eo => ?_
  · obtain ⟨y, _, rfl⟩ := List.mem_map.mp hd
    obtain ⟨y', _, rfl⟩ := List.mem_map.mp hd'
    exact alike_keyD y y'
  · obtain ⟨y, _, rfl⟩ := List.mem_map.mp hd
    exact ⟨_, _, rfl⟩
  · have f := gv2.dp.2 _ (List.mem_map.mpr ⟨y, hy, rfl⟩)
    have dp := (shows (D3 y) 2 f).2.2
    have dk : (keyD y).depth ≤ 10 := by
      unfold keyD
      simp only [PyData.depth, PyData.depthAll]
      omega
    omega
  · subst ev
    obtain ⟨t', xs, j, et, _, hs, hxl, _, _, _, hxx⟩ := g.tup
    cases et
    obtain ⟨itt, rvt, plt, _⟩ := I2.tuple hs
    have pick : ∀ (i : Nat) (l : List Nat), ([D1 y.1, D1 y.2.1, D1 y.2.2] : List PyData)[i]? = some (D1 l) → ∃ b xs0, itt.toArray[i]? = some (.ref b) ∧ IsTup s2.heap b xs0 ∧ xs0.size = l.length ∧ (xs0.size : Int) < 2 ^ 63 := by
      intro i l hi
      have hil : i < xs.length := by rw [hxl]; exact (List.getElem?_eq_some_iff.mp hi).1
      obtain ⟨d, hd, gd⟩ := hxx i xs[i] (List.getElem?_eq_getElem hil)
      rw [hi] at hd
      injection hd with hd
      subst hd
      obtain ⟨b, eb, hb, l20⟩ := gd_D1_of gd
      obtain ⟨u, hu1, hu2⟩ := rvt.get (List.getElem?_eq_getElem hil)
      rw [eb] at hu2
      obtain rfl := hu2
      obtain ⟨itb, rvb, plb, _⟩ := I2.tuple hb
      have lb := rvb.length
      rw [show (ofN l).length = l.length by unfold ofN; rw [List.length_map]] at lb
      exact ⟨b, itb.toArray, by simpa using hu1, plb, by simp; omega, by simp; omega⟩
    obtain ⟨b0, xs0, i0, t0, z0, y0⟩ := pick 0 y.1 rfl
    obtain ⟨b1, xs1, i1, t1, z1, y1⟩ := pick 1 y.2.1 rfl
    have up : ∀ {b : Addr} {ys : Array Value}, IsTup s2.heap b ys → IsTup h b ys := fun ⟨o, e1, e2, e3⟩ => ⟨o, kp _ _ e1, e2, e3⟩
    have hdp := hr.dp
    refine RC.call_key (s := { s2 with heap := h, toks := tk }) (A := X.A.in1.in1) (kp _ _ hf) ⟨c', oc, cvs, ct, rfl, kp _ _ hoc, hdc, hvc⟩ (show X.A.depth < recursionLimit by omega) (I2.nolimit.keeps kp) (fun bd v => hbind _ bd _ _ _ _ v) hco hgen hk hcell hl hlen hx
      ((I2.mod.glob.keeps I2.bk).keeps kp) hml ((hb1.keeps I2.bk).keeps kp) ((hb2 "len" (by decide)).trans boot_len) (up plt) i0 i1 (up t0) (up t1) y0 y1 fun h' ti tk' Tn kp' hT' => ⟨h', tk', rfl, kp', ?_⟩
    obtain ⟨as, hrd⟩ := Dp.reads I2 (D3 y) (.ref t) (.ref t) g.dp rfl
    have ea := reads_nil _ _ _ _ g.fn hrd
    subst ea
    have r3 := PyProof.Rows.Reads.keeps (fun b o q => kp' b o (kp b o q)) hrd
    have e : ((xs0.size : Int) + (xs1.size : Int)) = (y.1.length : Int) + (y.2.1.length : Int) := by rw [z0, z1]
    rw [e] at hT'
    exact Reads.tuple (as := []) hT' rfl rfl (ReadsAll.cons (as := []) (bs := []) (Reads.int _ _) (ReadsAll.cons (as := []) (bs := []) r3 ReadsAll.nil))
  · obtain ⟨b1, b2⟩ := it_back eo
    have I3 := I2.laid (a := s2.heap.objs.size + 1) (o := .lst (out.map backV)) (t' := tk) kp (Nat.le_succ _) (show ObjOk X.prog X.w _ _ _ (.lst (out.map backV)) from ⟨by rw [List.length_map, hlo]; exact Nat.le_trans hz (by decide), out, cc, b1, ho⟩)
    have np : H2 (s2.heap.objs.size + 1) = none := I2.hok.fresh (Nat.le_succ _)
    exact ⟨.ref _, _, I3, rfl, q H2 _ _ eN T2 np (Ex.new np) ⟨_, upd_same, b2.kp (.new np)⟩⟩
end
end Own


set_option maxHeartbeats 2000000
namespace L2
theorem Room.units1 {k : Nat} {A : PySem.Around} (r : Room k A) : A.units + 1 < PySem.cLine := by have := r.units; omega
end L2
namespace Own
open PySem PySem.Spec PyProof.Rows L2
open Evl
/-! ### sorted of a dict whose keys are tuples of ints, all of one length -/
abbrev encI (l : List Int) : PyData := .tuple (l.map .int)
theorem alikeAll_ints : ∀ (a b : List Int), PySem.W.alikeAll (a.map PyData.int) (b.map PyData.int) = true
  | [], _ => by simp [PySem.W.alikeAll]
  | _ :: _, [] => by simp [PySem.W.alikeAll]
  | _ :: a, _ :: b => by simp [PySem.W.alikeAll, PySem.W.alike, alikeAll_ints a b]
theorem alike_encI (a b : List Int) : PySem.W.alike (encI a) (encI b) = true := alikeAll_ints a b
section
open PySem.W
variable {prog : Program} {w : World} {A : Around} {s : Shared}
theorem sortsAt_one {vs : List Value} {ds : List PyData} (e : EachIs (fun v d => ∃ as, Reads s.heap v d as) vs ds) (hal : AllAlike ds) (h1 : ds.length ≤ 1) (hn : ∀ d ∈ ds, d ≠ .none) (hu : ∀ d, d ∈ ds → A.units + d.depth < cLine) : SortsAt prog w A s (dataKind s.heap ds) vs := by
  refine ⟨fun v hv => ?_, general', ?_, fun h2 => absurd h2 (by rw [e.length]; omega)⟩
  · obtain ⟨d, hd, as, r⟩ := e.left v hv
    exact ⟨_, dataKind_some hal hd r⟩
  · intro E x y a b Q ha hb hq
    obtain ⟨d, as, hd, ra, rfl⟩ := dataKind_inv ha
    obtain ⟨d', as', hd', rb, rfl⟩ := dataKind_inv hb
    exact oneLt_alike (f := false) (fun z => by cases z) ra rb (hal d hd d' hd') (hn d hd) (Nat.lt_of_le_of_lt (Nat.add_le_add_left (Nat.min_le_left _ _) _) (hu d hd)) hq
end
def IsKey (H : Hp) (u : Value) (l : List Int) : Prop := ∃ t, u = .ref t ∧ H t = some (.tup (l.map V.int))
theorem kV_ints (l : List Int) : (l.map Sum.inl : List Key).map kV = l.map V.int := by rw [List.map_map]; rfl
theorem each_keys_of {H : Hp} : ∀ {kvs : List (List Key × V)} {xs : List (List Key × Addr × Value)} {ks : List (List Int)}, KT H kvs xs → kvs.map (·.1) = ks.map (fun l => l.map Sum.inl) → PySem.W.EachIs (IsKey H) (xs.map fun x => Value.ref x.2.1) ks
  | _, _, [], .nil, _ => .nil
  | _, _, _ :: _, .nil, e => by simp at e
  | _, _, [], .cons _ _, e => by simp at e
  | _, _, l :: ks, .cons h t, e => by
    simp only [List.map_cons, List.cons.injEq] at e
    refine .cons ⟨_, rfl, ?_⟩ (each_keys_of t e.2)
    rw [h.2.1, e.1, kV_ints]
/-- sorted(d): of the lot that comes, each is a key of d -/
def rSortedK (K : PySem.W.Frag) : List V → Hp → VK → Prop := fun xs H Q => ∃ (d : Addr) (kvs : List (List Key × V)) (ks : List (List Int)) (n : Nat), xs = [.ref d] ∧ H d = some (.dT kvs) ∧ kvs.map (·.1) = ks.map (fun l => l.map Sum.inl) ∧ ks.length ≤ 100000 ∧ (∀ l ∈ ks, l.length = n) ∧ n ≤ 50 ∧ (kvs.map (·.1)).Nodup ∧
  ∀ p H' (bs : List Addr), H p = none → Ex H H' → H' p = some (.lst (bs.map V.ref)) → bs.length = ks.length → (∀ b ∈ bs, ∃ l ∈ ks, H' b = some (.tup (l.map V.int))) → Q (.ref p) H'
theorem depth_ints : ∀ l : List Int, PyData.depthAll (l.map PyData.int) ≤ 1
  | [] => by simp [PyData.depthAll]
  | _ :: l => by
    have := depth_ints l
    simp only [List.map_cons, PyData.depthAll, PyData.depth]
    omega
theorem depth_encI (l : List Int) : (encI l).depth ≤ 3 := by
  have := depth_ints l
  simp only [encI, PyData.depth]
  omega
theorem cr_sortedK {X : Cx} (hun : X.A.units + 64 < cLine) (hcalm : X.calm = true := by rfl) : CallR X (.builtin "sorted") (rSortedK X.K) := by
  intro pins s σ H xs us Q I r h
  obtain ⟨a, kvs, ks, n, rfl, hd, hks, hl, hn, hn50, hnd, q⟩ := h
  obtain ⟨u, rfl, eu⟩ := vals1 r
  obtain rfl : u = Value.ref a := eu
  obtain ⟨z, hs, xs, pr, o, es, ep, ho, hx, hdt, he, hnd2⟩ := (show ObjOk X.prog X.w H s.heap a (.dT kvs) from I.hok a _ hd)
  have l1 : es.size = xs.length := size_of_entries he
  have l2 : kvs.length = xs.length := Paired.length pr
  have l3 : kvs.length = ks.length := by
    have e := congrArg List.length hks
    rwa [List.length_map, List.length_map] at e
  have e0 := each_keys_of pr hks
  refine Calls.call_function_entry PyProof.Rows.kind_sorted PyProof.Rows.plain_sorted PyProof.Rows.entry_sorted (PyProof.Rows.args_sorted1 _) ?_
  unfold Builtin.«sorted»
  refine wpAny_bind (m := checkCount "sorted" 1 1 _) (wpAny_pure ?_)
  refine wpAny_bind (PySem.W.kdu_collect (A := X.A.in1) (kdl_raw hs hx hdt) (I.ok.hd hcalm) ho (by omega) fun h' tk acc hk hacc => ?_)
  have ea : acc.toList = xs.map fun x => Value.ref x.2.1 := by
    have hl' : acc.toList.length = xs.length := by rw [Array.length_toList, hacc.1]; exact l1
    apply List.ext_getElem?
    intro j
    rw [List.getElem?_map]
    cases hb : xs[j]? with
    | none =>
      have h1 := List.getElem?_eq_none_iff.mp hb
      rw [List.getElem?_eq_none (by omega)]
      rfl
    | some b =>
      have hj : j < acc.toList.length := by have := (List.getElem?_eq_some_iff.mp hb).1; omega
      obtain ⟨en, hen, hv⟩ := hacc.2 j _ (by rw [← Array.getElem?_toList]; exact List.getElem?_eq_getElem hj)
      have qe := entry_at he j
      rw [hen, hb] at qe
      have e2 : en = entryOfKey (tupleKind (mixKind X.prog X.w)) b := Option.some.inj qe
      rw [List.getElem?_eq_getElem hj, hv, e2]
      rfl
  have I1 : Inv X pins σ H { s with heap := h', toks := tk } := I.kept hk
  have hal : acc.toList.length = ks.length := by rw [ea, List.length_map]; omega
  refine wpAny_bind (wpAny_newList ?_ (by rw [hal, sizeLine_eq]; omega))
  have hoL : (h'.push (seqObj "list" acc.toList.toArray 0)).get? h'.objs.size = some (seqObj "list" acc.toList.toArray 0) := Heap.get?_push_size _ rfl
  show wpAny _ _ _ _ _ { s with heap := h'.push (seqObj "list" acc.toList.toArray 0), toks := tk }
  have er : PySem.W.EachIs (fun v b => ∃ as, Reads (PySem.W.sortingHeap (h'.push (seqObj "list" acc.toList.toArray 0)) h'.objs.size acc.toList) v (encI b) as) acc.toList ks := by
    rw [ea]
    refine e0.mono fun v l ⟨t, ev, ht⟩ => ?_
    subst ev
    obtain ⟨as, rd⟩ := Dp.reads I1 (encI l) (.ref t) (.ref t) (.tup (st_of ht) (dp_ints (K := X.K) l)) rfl
    refine ⟨as, PyProof.Rows.Reads.keeps (fun b o q => ?_) rd⟩
    have hb : b < h'.objs.size := Heap.lt_size q
    exact PySem.W.sortingHeap_old (Nat.ne_of_lt hb) (Heap.get?_push_of_some _ q)
  have hAll : PySem.W.AllAlike (ks.map encI) := fun d hd d' hd' => by
    obtain ⟨y, _, rfl⟩ := List.mem_map.mp hd
    obtain ⟨y', _, rfl⟩ := List.mem_map.mp hd'
    exact alike_encI y y'
  have hu : ∀ b, b ∈ ks → X.A.in1.in1.units + (encI b).depth < cLine := fun b _ => by
    have := depth_encI b
    show X.A.units + 1 + 1 + _ < _
    omega
  have hSort : PySem.W.SortsAt X.prog X.w X.A.in1.in1 { s with heap := PySem.W.sortingHeap (h'.push (seqObj "list" acc.toList.toArray 0)) h'.objs.size acc.toList, toks := tk } (PySem.W.dataKind (PySem.W.sortingHeap (h'.push (seqObj "list" acc.toList.toArray 0)) h'.objs.size acc.toList) (ks.map encI)) acc.toList := by
    have er' := PySem.W.each_map (R := fun v d => ∃ as, Reads (PySem.W.sortingHeap (h'.push (seqObj "list" acc.toList.toArray 0)) h'.objs.size acc.toList) v d as) encI er
    by_cases n0 : n = 0
    · have : ks.length ≤ 1 := by
        match ks, hn, hks, hnd with
        | [], _, _, _ => exact Nat.zero_le _
        | [_], _, _, _ => exact Nat.le_refl _
        | k1 :: k2 :: r, hn, hks, hnd =>
          exfalso
          rw [hks] at hnd
          have z1 := List.eq_nil_of_length_eq_zero ((hn k1 List.mem_cons_self).trans n0)
          have z2 := List.eq_nil_of_length_eq_zero ((hn k2 (List.mem_cons_of_mem _ List.mem_cons_self)).trans n0)
          subst z1 z2
          simp at hnd
      exact sortsAt_one (s := { s with heap := PySem.W.sortingHeap (h'.push (seqObj "list" acc.toList.toArray 0)) h'.objs.size acc.toList, toks := tk }) er' hAll (by rw [List.length_map]; exact this) (fun d hd z => by obtain ⟨y, _, rfl⟩ := List.mem_map.mp hd; cases z) (PySem.W.bound_map hu)
    · refine PySem.W.SortsAt.data (s := { s with heap := PySem.W.sortingHeap (h'.push (seqObj "list" acc.toList.toArray 0)) h'.objs.size acc.toList, toks := tk }) er' hAll (.inl fun d hd => ?_) (PySem.W.bound_map hu)
      obtain ⟨y, hy, rfl⟩ := List.mem_map.mp hd
      match y, hn y hy with
      | [], e => exact absurd e.symm n0
      | i :: r, _ => exact ⟨_, _, rfl⟩
  refine wpAny_bind (wpAny_holding (wpAny_call_entry PyProof.Rows.slot_list_sort ⟨_, hoL, rfl⟩ PyProof.Rows.entry_list_sort
    (PySem.W.list_sort_vals (s := { s with heap := h'.push (seqObj "list" acc.toList.toArray 0), toks := tk }) hoL hSort (by rw [hal, sizeLine_eq]; omega) ⟨_, rfl, ?_⟩) (PyProof.Rows.args_list_sort _)))
  have eo := PySem.W.sortVals_data (R := IsKey H) false (by rw [ea]; exact e0) er hAll
  generalize PySem.W.sortVals (PySem.W.dataKind (PySem.W.sortingHeap (h'.push (seqObj "list" acc.toList.toArray 0)) h'.objs.size acc.toList) (ks.map encI)) false acc.toList acc.toList = out at eo ⊢
  obtain ⟨e', he'⟩ := PyProof.Rows.sortedHeap_at (vs := acc.toList) (out := out.toArray) hoL
  have back : ∀ {us : List Value} {bs : List (List Int)}, PySem.W.EachIs (IsKey H) us bs → ∃ ts : List Addr, us = ts.map Value.ref ∧ ts.length = bs.length ∧ ∀ t ∈ ts, ∃ l ∈ bs, H t = some (.tup (l.map V.int)) := fun {us bs} e => by
    induction e with
    | nil => exact ⟨[], rfl, rfl, fun t ht => by simp at ht⟩
    | @cons u l us bs h1 _ ih =>
      obtain ⟨t, rfl, ht⟩ := h1
      obtain ⟨ts, rfl, e2, e3⟩ := ih
      refine ⟨t :: ts, rfl, by simp [e2], fun x hx => ?_⟩
      rcases List.mem_cons.mp hx with rfl | hx
      · exact ⟨l, List.mem_cons_self, ht⟩
      · obtain ⟨l', h1, h2⟩ := e3 x hx
        exact ⟨l', List.mem_cons_of_mem _ h1, h2⟩
  obtain ⟨ts, rfl, elen, emem⟩ := back eo
  have hlen : ts.length = ks.length := by rw [elen, List.length_mergeSort]
  have np : H h'.objs.size = none := I1.hok.fresh (Nat.le_refl _)
  refine wpAny_pure ⟨_, rfl, .ref h'.objs.size, upd H h'.objs.size (.lst (ts.map V.ref)), I1.laid (t' := tk) (fun b u e => ?_) (Nat.le_refl _)
    (show ObjOk X.prog X.w _ _ _ (.lst (ts.map V.ref)) from ⟨by rw [List.length_map, hlen, sizeLine_eq]; omega, ts.map Value.ref, e', vals_refs ts, he'⟩), rfl, q _ _ ts np (Ex.new np) upd_same hlen fun b hb => ?_⟩
  · have hb : b < h'.objs.size := Heap.lt_size e
    rw [PyProof.Rows.sortedHeap_old (Nat.ne_of_lt hb) (by rw [size_push']; exact Nat.lt_succ_of_lt hb)]
    exact Heap.get?_push_of_some _ e
  · obtain ⟨l, h1, h2⟩ := emem b hb
    exact ⟨l, List.mem_mergeSort.mp h1, Ex.new np _ _ h2⟩
end Own


set_option maxHeartbeats 2000000
namespace Own
open PySem PySem.Spec PyProof.Rows L2 LamX
open Evl
/-! Tk: sorted of data; a def that owns a lambda and may raise; long tuples of data. -/
section
variable {P : Program} {w : World} {K : PySem.W.Frag} {mg : Str → Option Value} {base : Heap}
theorem fnC_okX {x qual : Str} {st : Stmt} {f cc : Addr} {fd : FuncData} {N ps : List Str} {k : Nat} {sp : Sp} (F : FunC K x qual st f fd cc) (S : FnScope N ps (defScope st)) (len : ∀ vs H Q E, sp vs H Q E → vs.length = ps.length)
    (hbody : ∀ (A : Around) (outer : List Env) (s : Shared) (H : Hp) (vs : List V) (Q : VK) (E : XK), Room k (A.deeper (envOfC qual (defScope st) s.heap.objs.size f (.ref cc))) → sp vs H Q E →
      ∃ t, PSs (cxOf (L2.CX P w) P w K mg base N qual (defScope st) f (.ref cc) A outer s H E) (defBody st) t ∧ t { nx := fun _ H' => Q .non H', rt := Q } (start N vs) H) : FnOk P w K mg base (L2.CX P w) (k + 1) f fd ps sp := by
  obtain ⟨oc, od, kV, doc, pm, an, ct, osl, rfl, lk, hcd⟩ := F.ex
  exact fn_of lk hcd S len fun A outer s H vs Q E hr hsp => hbody A outer s H vs Q E hr hsp
end
section
variable {K : PySem.W.Frag} {H : Hp} {k : Nat}
def ItK (K : PySem.W.Frag) (H : Hp) (u : Value) (x : N3) : Prop := ∃ t, u = .ref t ∧ Gd K H 3 (.ref t) (keyD x)
theorem each_itK : ∀ {vs : List V} {us : List Value} {cs : List N3}, Vals vs us → GdAll K H 3 vs (cs.map keyD) → PySem.W.EachIs (ItK K H) us cs
  | _, _, [], .nil, _ => .nil
  | _, _, [], .cons _ _, g => by cases g
  | _, _, _ :: _, .nil, g => by cases g
  | _, _, c :: cs, .cons r t, g => by
    cases g with
    | cons g1 g2 =>
      obtain ⟨a, _, _, rfl, _⟩ := g1.tup
      obtain rfl := r
      exact .cons ⟨a, rfl, g1⟩ (each_itK t g2)
theorem itK_back : ∀ {us : List Value} {cs : List N3}, PySem.W.EachIs (ItK K H) us cs → Vals (us.map backV) us ∧ GdAll K H 3 (us.map backV) (cs.map keyD)
  | _, _, .nil => ⟨.nil, .nil⟩
  | _, _, .cons ⟨t, e, g⟩ r => by
    subst e
    obtain ⟨h1, h2⟩ := itK_back r
    exact ⟨.cons rfl h1, .cons g h2⟩
end
/-- sorted of (number, three tuples) -/
def rSortedD (K : PySem.W.Frag) : List V → Hp → VK → Prop := fun vs H Q => ∃ (a : Addr) (cs : List N3), vs = [.ref a] ∧ LD K 3 (cs.map keyD) a H ∧ cs.length ≤ 100000 ∧
  ∀ p H', H p = none → Ex H H' → LD K 3 ((cs.mergeSort (PySem.W.dataLe false keyD)).map keyD) p H' → Q (.ref p) H'
theorem cr_sortedD {X : Cx} (hun : X.A.units + 64 < cLine) : CallR X (.builtin "sorted") (rSortedD X.K) := by
  intro pins s σ H xs us Q I r h
  obtain ⟨a, cs, rfl, ⟨vs, hvs, gv⟩, hz, q⟩ := h
  obtain ⟨u, rfl, eu⟩ := vals1 r
  obtain rfl : u = Value.ref a := eu
  obtain ⟨its, rv, pl, hiz⟩ := I.list (sq_of (K := X.K) hvs)
  have ei := each_itK rv gv
  have er : PySem.W.EachIs (fun v b => ∃ as, Reads s.heap v (keyD b) as) its cs := ei.mono fun _ y ⟨t, ev, g⟩ => by
    subst ev
    exact Dp.reads I (keyD y) (.ref t) (.ref t) g.dp rfl
  refine PySem.W.sorted_data (R := ItK X.K H) (enc := keyD) pl.isList ei er (fun d hd d' hd' => ?_) (.inl fun d hd => ?_) (Nat.le_trans hz (by decide)) (fun y hy => ?_) fun out hlo eo => ?_
  · obtain ⟨y, _, rfl⟩ := List.mem_map.mp hd
    obtain ⟨y', _, rfl⟩ := List.mem_map.mp hd'
    exact alike_keyD y y'
  · obtain ⟨y, _, rfl⟩ := List.mem_map.mp hd
    exact ⟨_, _, rfl⟩
  · have f := gv.dp.2 _ (List.mem_map.mpr ⟨y, hy, rfl⟩)
    have dp := (shows (keyD y) 3 f).2.2
    omega
  · obtain ⟨b1, b2⟩ := itK_back eo
    obtain ⟨ep, he'⟩ := PyProof.Rows.sortedAll_at s.heap its out.toArray
    have np : H (s.heap.objs.size + 1) = none := I.hok.fresh (Nat.le_succ _)
    exact ⟨.ref _, upd H (s.heap.objs.size + 1) (.lst (out.map backV)), I.laid (t' := s.toks) (fun _ _ => PyProof.Rows.sortedAll_old) (Nat.le_succ _) ⟨by rw [List.length_map, hlo]; exact Nat.le_trans hz (by decide), out, ep, b1, he'⟩, rfl,
      q _ _ np (Ex.new np) ⟨_, upd_same, b2.kp (.new np)⟩⟩
end Own


set_option maxHeartbeats 2000000
namespace Own
open PySem PySem.Spec PyProof.Rows L2 LamX
open Evl
/-! Tl: loops over a list of data that isn't the one at f. -/
section
variable {K : PySem.W.Frag} {σ : L2.St} {H H' H1 : Hp} {te ta tb tc tl : TE} {D : Ends} {tu tz : TS} {g : TG} {k k0 : Nat} {a f p : Addr} {ds es : List PyData} {d e : PyData} {v : V}
def EvF (f : Addr) (te : TE) (σ : L2.St) (H : Hp) (P : Addr → Hp → Prop) : Prop := ∀ H1, Ex H H1 → ∀ Q : VK, (∀ l H2, l ≠ f → Ex H1 H2 → P l H2 → Q (.ref l) H2) → te σ H1 Q
theorem ef_new {P : Addr → Hp → Prop} {o : HO} (h : EvN te σ H P) (hf : H f = some o) : EvF f te σ H P := fun H1 u Q q => h H1 u Q fun l H2 nl u2 p => q l H2 (fun z => by rw [z, u _ _ hf] at nl; cases nl) u2 p
theorem ef_old (h : Ev te σ H (.ref p)) (n : p ≠ f) (hp : LD K k ds p H) : EvF f te σ H (LD K k ds) := fun H1 u Q q => h H1 u _ fun H2 u2 => q p H2 n u2 (hp.ex (u.trans u2))
theorem s_forF {ys : List V} (h : EvF f tl σ H (LD K k ds)) (hf : H f = some (.lst ys)) (Pv : Hp → Nat → L2.St → Hp → Prop) (h0 : ∀ HL, Ex H HL → Pv HL 0 σ HL) (hB : ∀ HL i σ' H', Pv HL i σ' H' → But f HL H')
    (hs : ∀ HL (i : Nat) d x σ' H', Ex H HL → ds[i]? = some d → Gd K H' k x d → Pv HL i σ' H' → g x σ' H' fun σ2 H2 => tu { D with nx := Pv HL (i + 1), ct := Pv HL (i + 1), bk := D.nx } σ2 H2) (hd : ∀ HL σ' H', Ex H HL → Pv HL ds.length σ' H' → D.nx σ' H') :
    tFor (iList K tl) g tu D σ H :=
  h H (.refl H) _ fun L HL nf u ⟨xs, hL, gx⟩ => by
    have hfL := u _ _ hf
    have l1 := gdAll_len gx
    exact ⟨L, rfl, ⟨xs, sq_of hL⟩, for_list (xs := xs) (Pv HL) (h0 HL u) (fun i σ' H' _ p => sq_of (hB HL i σ' H' p _ _ nf hL))
      (fun i x σ' H' hx p => by
        obtain ⟨d, hd, gd⟩ := gdAll_at gx hx
        exact hs HL i d x σ' H' u hd (gd.kp ((hB HL i σ' H' p).kp hfL)) p) (fun σ' H' p => hd HL σ' H' u (by rw [← l1]; exact p))⟩
theorem q_forF {ys : List V} (h : EvF f tl σ H (LD K k ds)) (hf : H f = some (.lst ys)) (Pv : Hp → Nat → L2.St → Hp → Prop) (h0 : ∀ HL, Ex H HL → Pv HL 0 σ HL) (hB : ∀ HL i σ' H', Pv HL i σ' H' → But f HL H')
    (hs : ∀ HL (i : Nat) d x σ' H', Ex H HL → ds[i]? = some d → Gd K H' k x d → Pv HL i σ' H' → g x σ' H' fun σ2 H2 => tu { D with nx := Pv HL (i + 1), ct := Pv HL (i + 1), bk := tz D } σ2 H2) (hd : ∀ HL σ' H', Ex H HL → Pv HL ds.length σ' H' → tz D σ' H') :
    tSeq (tFor (iList K tl) g tu) tz D σ H := s_forF (D := { D with nx := tz D }) h hf Pv h0 hB hs hd
/-- a, b = a pair of data -/
theorem g_pairD {x : V} {i j : Nat} {d1 d2 : PyData} {Q : L2.St → Hp → Prop} (gx : Gd K H k x (.tuple [d1, d2])) (q : ∀ x1 x2, Gd K H (k - 1) x1 d1 → Gd K H (k - 1) x2 d2 → Q ((σ.set i (some x1)).set j (some x2)) H) :
    gTup K 2 (gCons (gName i) (gCons (gName j) gNil)) x σ H Q := by
  obtain ⟨b, xs, m, rfl, rfl, hs, hl, _, _, _, hx⟩ := gx.tup
  match xs, hl with
  | [x1, x2], _ =>
    obtain ⟨e1, h1, g1⟩ := hx 0 x1 rfl
    obtain ⟨e2, h2, g2⟩ := hx 1 x2 rfl
    injection h1 with h1
    injection h2 with h2
    subst h1 h2
    exact ⟨b, _, rfl, hs, rfl, x1, _, rfl, x2, _, rfl, rfl, q x1 x2 g1 g2⟩
/-- (x, y, z) of three data -/
theorem ex_tripD {d1 d2 d3 : PyData} (h1 : EvX ta σ H (PD K k d1)) (h2 : EvX tb σ H (PD K k d2)) (h3 : EvX tc σ H (PD K k d3)) : EvX (tTup (tCons ta (tCons tb (tCons tc tNil)))) σ H (PD K (k + 1) (.tuple [d1, d2, d3])) := fun H1 u Q q =>
  h1 H1 u _ fun x H2 u2 g1 => h2 H2 (u.trans u2) _ fun y H3 u3 g2 => h3 H3 ((u.trans u2).trans u3) _ fun z H4 u4 g3 => ⟨by show 3 ≤ sizeLine; decide, fun p np => q _ _ (((u2.trans u3).trans u4).trans (Ex.new np)) (by
    have gs : GdAll K H4 k [x, y, z] [d1, d2, d3] := .cons (Gd.ex (u3.trans u4) g1) (.cons (Gd.ex u4 g2) (.cons g3 .nil))
    exact gd_tup (st_of upd_same) (gs.kp (.new np)) (by show 3 ≤ 20; decide))⟩
/-- x != () -/
theorem ev_neNoneT {x : V} {l : List Nat} (ha : Ev ta σ H x) (g : Gd K H k x (D1 l)) (hk : k ≤ 60) : Ev (tOp (rNeD K) ta (tTup tNil)) σ H (.bl (!decide (l = []))) := fun H1 u Q q =>
  ha H1 u _ fun H2 u2 => ⟨Nat.zero_le _, fun p np => by
    have e : PyData.eqv (D1 l) (.tuple []) = decide (l = []) := by
      cases l <;> simp [D1, intsD, natI, PyData.eqv, PyData.eqvAll]
    refine ⟨D1 l, .tuple [], ((g.ex (u.trans u2)).kp (.new np)).dp, .tup (st_of upd_same) .nil, fine_shaped hk g.fn, rfl, ?_⟩
    rw [e]
    exact q _ (u2.trans (Ex.new np))⟩
end
/-- tuple(a list that stands) -/
theorem ex_tupV {K : PySem.W.Frag} {σ : L2.St} {H : Hp} {te : TE} {l : Addr} {xs : List V} (h : Ev te σ H (.ref l)) (hl : H l = some (.lst xs)) : EvX (tCB (rTupOf K) (tCons te tNil)) σ H (PSq K xs) := fun H1 u Q q =>
  h H1 u _ fun H2 u2 => ⟨l, xs, rfl, .inl ⟨sq_of ((u.trans u2) _ _ hl), fun t nt => q _ _ (u2.trans (Ex.new nt)) ⟨t, rfl, st_of upd_same⟩⟩⟩
/-- a tuple whose items read as ds -/
def TD (K : PySem.W.Frag) (k : Nat) (ds : List PyData) : Addr → Hp → Prop := fun p H => ∃ vs, SqT K H p vs ∧ GdAll K H k vs ds
theorem TD.kp {K : PySem.W.Frag} {k : Nat} {ds : List PyData} {p : Addr} {H H' : Hp} (e : Kp H H') (h : TD K k ds p H) : TD K k ds p H' := let ⟨vs, h1, h2⟩ := h; ⟨vs, e.sqT h1, h2.kp e⟩
end Own


set_option maxHeartbeats 2000000
namespace Own
open PySem PySem.Spec PyProof.Rows L2
open Evl
section
variable {K : PySem.W.Frag} {σ : L2.St} {H H' : Hp} {te ta tb tl : TE} {v : V} {D : Ends} {tz tu : TS} {a p : Addr} {k k0 : Nat} {d : PyData} {ds es : List PyData}
/-! ### equality with a list of nothing -/
theorem eqvAll_map {α : Type} (f g : α → PyData) : ∀ L : List α, PyData.eqvAll (L.map f) (L.map g) = L.all fun i => PyData.eqv (f i) (g i)
  | [] => rfl
  | x :: L => by
    rw [List.map_cons, List.map_cons, PyData.eqvAll, eqvAll_map f g L]
    rfl
theorem eqv_nil (ds : List PyData) : PyData.eqv (.list ds) (.list []) = ds.isEmpty := by cases ds <;> rfl
theorem eqv_fine {k : Nat} {d : PyData} (f : fine k d = true) : PyData.eqv d d = true := SeqAt.eqv_refl d (fine_lay d k f)
theorem shaped_ld (h : ∀ d ∈ ds, fine k d = true) (hk : k ≤ 40) : SeqAt.shaped (.list ds) = true := by
  unfold SeqAt.shaped
  have h1 := fine_layAll ds k h
  have h2 := (showsAll ds k h).2.2
  rw [show PyData.canLay0 (.list ds) = PyData.canLayAll0 ds from rfl, h1, decide_eq_true (show (PyData.list ds).depth ≤ 64 by simp only [PyData.depth]; omega)]
  rfl
theorem pdat_all : ∀ {xs : List V}, (∀ x ∈ xs, PDat K k x H) → ∃ ds, GdAll K H k xs ds
  | [], _ => ⟨[], .nil⟩
  | x :: xs, h => by
    obtain ⟨d, g⟩ := h x List.mem_cons_self
    obtain ⟨ds, gs⟩ := pdat_all (xs := xs) fun y hy => h y (List.mem_cons_of_mem _ hy)
    exact ⟨d :: ds, .cons g gs⟩
/-- e == [], e a new list of data -/
theorem ev_eqNone {xs : List V} (h : EvL te σ H xs) (hd : ∀ x ∈ xs, PDat K k x H) (hk : k ≤ 40) : Ev (tOp (rEqD K) te (tLst tNil)) σ H (.bl xs.isEmpty) := fun H1 e Q q =>
  h H1 e _ fun p H2 np e2 hp => ⟨Nat.zero_le _, fun b nb => by
    obtain ⟨ds, g⟩ := pdat_all hd
    have g3 : GdAll K (upd H2 b (.lst [])) k xs ds := g.kp (.ex ((e.trans e2).trans (Ex.new nb)))
    have hl := gdAll_len g
    refine ⟨.list ds, .list [], .lst (sq_of (Ex.new nb _ _ hp)) g3.dp.1, .lst (sq_of upd_same) .nil, shaped_ld g3.dp.2 hk, rfl, ?_⟩
    rw [eqv_nil, show ds.isEmpty = xs.isEmpty by cases xs <;> cases ds <;> simp_all]
    exact q _ (e2.trans (Ex.new nb))⟩
theorem et_neNil {xs : List V} (h : EvL te σ H xs) (hd : ∀ x ∈ xs, PDat K k x H) (hk : k ≤ 40) : EvT (tTest (tOp (rNeD K) te (tLst tNil))) σ H (!xs.isEmpty) := et_test fun H1 e Q q =>
  h H1 e _ fun p H2 np e2 hp => ⟨Nat.zero_le _, fun b nb => by
    obtain ⟨ds, g⟩ := pdat_all hd
    have g3 : GdAll K (upd H2 b (.lst [])) k xs ds := g.kp (.ex ((e.trans e2).trans (Ex.new nb)))
    have hl := gdAll_len g
    refine ⟨.list ds, .list [], .lst (sq_of (Ex.new nb _ _ hp)) g3.dp.1, .lst (sq_of upd_same) .nil, shaped_ld g3.dp.2 hk, rfl, ?_⟩
    rw [eqv_nil, show ds.isEmpty = xs.isEmpty by cases xs <;> cases ds <;> simp_all]
    exact q _ (e2.trans (Ex.new nb))⟩
/-- e == [] of a new list that reads as ds -/
theorem ev_eqNilD (h : EvN te σ H (LD K k ds)) (hk : k ≤ 40) : Ev (tOp (rEqD K) te (tLst tNil)) σ H (.bl ds.isEmpty) := fun H1 e Q q =>
  h H1 e _ fun p H2 np e2 ⟨xs, hp, g⟩ => ⟨Nat.zero_le _, fun b nb => by
    have g3 : GdAll K (upd H2 b (.lst [])) k xs ds := g.kp (.ex (Ex.new nb))
    refine ⟨.list ds, .list [], .lst (sq_of (Ex.new nb _ _ hp)) g3.dp.1, .lst (sq_of upd_same) .nil, shaped_ld g3.dp.2 hk, rfl, ?_⟩
    rw [eqv_nil]
    exact q _ (e2.trans (Ex.new nb))⟩
/-- e != f, both new lists of data -/
theorem et_neLD (ha : EvN ta σ H (LD K k ds)) (hb : Ev tb σ H (.ref p)) (hp : LD K k es p H) (hk : k ≤ 40) : EvT (tTest (tOp (rNeD K) ta tb)) σ H (!PyData.eqv (.list ds) (.list es)) := et_test fun H1 e Q q =>
  ha H1 e _ fun a H2 na e2 ⟨xs, hx, g⟩ => hb H2 (e.trans e2) _ fun H3 e3 => by
    obtain ⟨ys, hy, g2⟩ := hp.ex ((e.trans e2).trans e3)
    have g3 := g.kp (.ex e3)
    exact ⟨.list ds, .list es, .lst (sq_of (e3 _ _ hx)) g3.dp.1, .lst (sq_of hy) g2.dp.1, shaped_ld g3.dp.2 hk, shaped_ld g2.dp.2 hk, q H3 (e2.trans e3)⟩
/-- [e for x in t], t a tuple of data, e made anew -/
theorem en_lcTD {j : Nat} {vs : List Nat} {xs : List V} (h : Ev tl σ H (.ref a)) (hx : SqT K H a xs) (hn : xs.length ≤ 40000) (hl : es.length = xs.length) (hw : ∀ x, wipe ((wipe σ vs).set j (some x)) vs = wipe σ vs)
    (he : ∀ (i : Nat) x H', Ex H H' → xs[i]? = some x → EvX te ((wipe σ vs).set j (some x)) H' (fun v H2 => ∃ e, es[i]? = some e ∧ Gd K H2 k v e)) : EvN (tLc (iTup K tl) (gName j) tYes te vs) σ H (LD K k es) :=
  fun H0 u Q q => h H0 u _ fun H1 u1 => ⟨a, rfl, ⟨xs, ex_t (u.trans u1) hx⟩, fun Dl hD => lcD (es := es) (k := k) (K := K) (Qd := fun l H => Q (.ref l) H) _ walk_tup (fun H' e' => ex_t ((u.trans u1).trans e') hx) (by omega) hw (fun i x H' e' hx hi => he i x H' ((u.trans u1).trans e') hx) hD (fun H' e' p => q Dl H' (fresh_back u1 hD) (u1.trans e') (by
      rw [List.take_of_length_le (by omega)] at p
      exact p))⟩
/-- the same over a list -/
theorem en_lcLD {j : Nat} {vs : List Nat} {xs : List V} (h : Ev tl σ H (.ref a)) (hx : SqL K H a xs) (hn : xs.length ≤ 40000) (hl : es.length = xs.length) (hw : ∀ x, wipe ((wipe σ vs).set j (some x)) vs = wipe σ vs)
    (he : ∀ (i : Nat) x H', Ex H H' → xs[i]? = some x → EvX te ((wipe σ vs).set j (some x)) H' (fun v H2 => ∃ e, es[i]? = some e ∧ Gd K H2 k v e)) : EvN (tLc (iList K tl) (gName j) tYes te vs) σ H (LD K k es) :=
  fun H0 u Q q => h H0 u _ fun H1 u1 => ⟨a, rfl, ⟨xs, ex_l (u.trans u1) hx⟩, fun Dl hD => lcD (es := es) (k := k) (K := K) (Qd := fun l H => Q (.ref l) H) _ walk_list (fun H' e' => ex_l ((u.trans u1).trans e') hx) (by omega) hw (fun i x H' e' hx hi => he i x H' ((u.trans u1).trans e') hx) hD (fun H' e' p => q Dl H' (fresh_back u1 hD) (u1.trans e') (by
      rw [List.take_of_length_le (by omega)] at p
      exact p))⟩
end
end Own


set_option maxHeartbeats 2000000
namespace Own
open PySem PySem.Spec PyProof.Rows L2
open Evl
section
variable {K : PySem.W.Frag} {σ : L2.St} {H H' : Hp} {te ta tb tl : TE} {v : V} {D : Ends} {tz tu : TS} {a p : Addr} {k k0 : Nat} {d : PyData} {ds es : List PyData}
/-- a comprehension over a tuple of pairs, its items new -/
theorem en_lcT2 {xs : List V} {o : Nat → HO} {i j : Nat} {vs : List Nat} (h : Ev tl σ H (.ref a)) (hx : SqT K H a xs) (hn : xs.length ≤ 40000) (hw : ∀ x y, wipe (((wipe σ vs).set i (some x)).set j (some y)) vs = wipe σ vs)
    (he : ∀ (m : Nat) (x : V), xs[m]? = some x → ∃ b x1 x2, x = .ref b ∧ SqT K H b [x1, x2] ∧ ∀ H1, Ex H H1 → EvH te (((wipe σ vs).set i (some x1)).set j (some x2)) H1 (o m)) :
    EvN (tLc (iTup K tl) (gTup K 2 (gCons (gName i) (gCons (gName j) gNil))) tYes te vs) σ H (LsO xs.length o) := fun H0 e Q q => h H0 e _ fun H1 e1 => ⟨a, rfl, ⟨xs, ex_t (e.trans e1) hx⟩, fun Dl hD =>
  lc_it (Qd := fun H => Q (.ref Dl) H) (walk_tup (K := K) (a := a) (xs := xs)) (fun i' H' => Ex H1 H' ∧ LsO i' o Dl H') ⟨Ex.new hD, [], upd_same, rfl, fun i y h => by simp at h⟩ (fun _ H' _ p => ex_t ((e.trans e1).trans p.1) hx)
    (fun m x H2 H3 hi => by
      rintro ⟨e2, rs, hy, hl, hp⟩ ⟨e3, hx'⟩
      subst e3
      obtain ⟨b, x1, x2, rfl, hb, he'⟩ := he m x hx'
      have E := (e.trans e1).trans e2
      refine ⟨b, _, rfl, ex_t E hb, rfl, x1, _, rfl, x2, _, rfl, rfl, hw _ _, yesT ?_⟩
      refine he' H3 E H3 (.refl H3) _ fun p H4 np u4 hpo => ⟨rs.map V.ref, u4 _ _ hy, sz_lt (by rw [List.length_map]; omega), Ex.mut (e2.trans u4) hD, rs ++ [p], by rw [upd_same]; simp, by simp [hl], fun m b hm => ?_⟩
      have npD : p ≠ Dl := fun z => by rw [z, hy] at np; cases np
      by_cases c : m < rs.length
      · rw [List.getElem?_append_left c] at hm
        obtain ⟨n1, h1⟩ := hp m b hm
        exact ⟨n1, by rw [upd_ne n1]; exact u4 _ _ h1⟩
      · rw [List.getElem?_append_right (by omega)] at hm
        have z : m - rs.length = 0 := by
          refine Nat.eq_zero_of_not_pos fun q => ?_
          rw [List.getElem?_eq_none (by simp; omega)] at hm
          cases hm
        rw [z] at hm
        simp at hm
        subst hm
        have : m = rs.length := by omega
        rw [this, hl]
        exact ⟨npD, by rw [upd_ne npD]; exact hpo⟩)
    (fun H' p => q Dl H' (fresh_back e1 hD) (e1.trans p.1) p.2)⟩
theorem eh_tup2 {x y : V} (h1 : Ev ta σ H x) (h2 : Ev tb σ H y) : EvH (tTup (tCons ta (tCons tb tNil))) σ H (.tup [x, y]) := eu_tup (ea_2 h1 h2) (by show 2 ≤ 100000; decide)
end
end Own


set_option maxHeartbeats 2000000
namespace Own
open PySem PySem.Spec PyProof.Rows L2
open Evl
/-! ### sorted of a tuple of ints; lists of data that are extended -/
/-- sorted(t), t a tuple of ints -/
def rSortedIT (K : PySem.W.Frag) : List V → Hp → VK → Prop := fun vs H Q => ∃ (a : Addr) (ns : List Int), vs = [V.ref a] ∧ SqT K H a (ns.map V.int) ∧
  ∀ (ns' : List Int) (p : Addr), ns'.Perm ns → ns'.Pairwise (· ≤ ·) → H p = none → Q (.ref p) (upd H p (.lst (ns'.map V.int)))
theorem cr_sortedIT {X : Cx} : CallR X (.builtin "sorted") (rSortedIT X.K) := by
  intro pins s σ H vs us Q I r h
  obtain ⟨a, ns, rfl, hs, q⟩ := h
  obtain ⟨its, rv, ⟨o, ho, hc, n, hd⟩, hz⟩ := I.tuple hs
  rw [Vals.ref1 r]
  have hi := rv.ints
  have hz' : its.length ≤ sizeLine := by rw [← rv.length]; exact hz
  refine Calls.call_function_entry PyProof.Rows.kind_sorted PyProof.Rows.plain_sorted PyProof.Rows.entry_sorted (PyProof.Rows.args_sorted1 _) ?_
  unfold Builtin.«sorted»
  refine wpAny_bind (m := checkCount "sorted" 1 1 _) (wpAny_pure ?_)
  refine wpAny_bind (wpAny_collect_seq a (.inr rfl) ho hc hd (fun h' hk => ?_) (by rw [List.size_toArray]; exact hz'))
  have el : its.toArray.toList = its := by simp
  rw [el]
  refine wpAny_bind (wpAny_newList ?_ hz')
  have hoL : (h'.push (seqObj "list" its.toArray 0)).get? h'.objs.size = some (seqObj "list" its.toArray 0) := Heap.get?_push_size _ rfl
  show wpAny _ _ _ _ _ { s with heap := h'.push (seqObj "list" its.toArray 0) }
  have I1 : Inv X pins σ H { s with heap := h' } := I.kept (t' := s.toks) hk
  refine wpAny_bind (wpAny_holding (wpAny_call_entry PyProof.Rows.slot_list_sort ⟨_, hoL, rfl⟩ PyProof.Rows.entry_list_sort
    (SrtO.list_sort_ord SrtO.swo_int hoL hz' (fun h2 => SrtO.ints_sortable hi h2) fun out h1 h2 => ⟨_, rfl, ?_⟩) (PyProof.Rows.args_list_sort _)))
  obtain ⟨k1, k2, k3⟩ := SrtO.ints_out hi h1 h2
  obtain ⟨ep, he'⟩ := PyProof.Rows.sortedHeap_at (vs := its) (out := out.toArray) hoL
  have hlen : ((out.map SrtO.iv).map V.int).length ≤ sizeLine := by
    rw [List.length_map, k2.length_eq]
    rw [List.length_map] at hz
    exact hz
  refine wpAny_pure ⟨_, rfl, .ref h'.objs.size, upd H h'.objs.size (.lst ((out.map SrtO.iv).map V.int)), I1.laid (t' := s.toks) (fun b u e => ?_) (Nat.le_refl _) ⟨hlen, out, ep, vals_of_ints k1, he'⟩, rfl, q _ _ k2 k3 (I1.hok.fresh (Nat.le_refl _))⟩
  have hb : b < h'.objs.size := Heap.lt_size e
  rw [PyProof.Rows.sortedHeap_old (Nat.ne_of_lt hb) (by rw [size_push']; exact Nat.lt_succ_of_lt hb)]
  exact Heap.get?_push_of_some _ e
section
variable {K : PySem.W.Frag} {σ : L2.St} {H H' : Hp} {te ta tb tl : TE} {v : V} {D : Ends} {tz tu : TS} {a p f : Addr} {k k0 : Nat} {d e : PyData} {ds es : List PyData}
/-- [x, y] -/
theorem en_twoD (h : EvX ta σ H (PD K k d)) (h2 : EvX tb σ H (PD K k e)) : EvN (tLst (tCons ta (tCons tb tNil))) σ H (LD K k [d, e]) := fun H1 u Q q =>
  h H1 u _ fun x H2 u2 g => h2 H2 (u.trans u2) _ fun y H3 u3 g2 => ⟨by show 2 ≤ sizeLine; decide, fun p np => q p _ (fresh_back (u2.trans u3) np) ((u2.trans u3).trans (Ex.new np)) ⟨[x, y], upd_same, .cons ((Gd.ex u3 g).kp (.new np)) (.cons (Gd.kp (.new np) g2) .nil)⟩⟩
/-- a list that stands + a list that stands -/
theorem en_catDD (ha : Ev ta σ H (.ref a)) (hx : LD K k ds a H) (hb : Ev tb σ H (.ref p)) (hy : LD K k es p H) (hz : ds.length + es.length ≤ 100000) : EvN (tOp rCat ta tb) σ H (LD K k (ds ++ es)) := fun H1 u Q q =>
  ha H1 u _ fun H2 u2 => hb H2 (u.trans u2) _ fun H3 u3 => by
    obtain ⟨xs, h1, gx⟩ := hx.ex ((u.trans u2).trans u3)
    obtain ⟨ys, h2, gy⟩ := hy.ex ((u.trans u2).trans u3)
    have l1 := gdAll_len gx
    have l2 := gdAll_len gy
    exact ⟨a, p, xs, ys, rfl, rfl, h1, h2, sz_of (by omega), fun c hc => q c _ (fresh_back (u2.trans u3) hc) ((u2.trans u3).trans (Ex.new hc)) ⟨_, upd_same, (gx.app gy).kp (.new hc)⟩⟩
/-- a tuple + a tuple, by their data -/
theorem ex_catD (h : EvX ta σ H (PD K (k + 1) (.tuple ds))) (h2 : EvX tb σ H (PD K (k + 1) (.tuple es))) (hz : ds.length + es.length ≤ 20) : EvX (tOp (rCatA K) ta tb) σ H (PD K (k + 1) (.tuple (ds ++ es))) := fun H1 u Q q =>
  h H1 u _ fun v H2 u2 g => h2 H2 (u.trans u2) _ fun w H3 u3 g2 => by
    have g1 : Gd K H3 (k + 1) v (.tuple ds) := Gd.ex u3 g
    have g2 : Gd K H3 (k + 1) w (.tuple es) := g2
    obtain ⟨b, xs, j, rfl, e1, hx, lx, _, ax, fx, _⟩ := g1.tup
    obtain ⟨c, ys, j2, rfl, e2, hy, ly, _, ay, fy, _⟩ := g2.tup
    have ej : k = j := by omega
    have ej2 : k = j2 := by omega
    subst ej ej2
    refine ⟨b, c, xs, ys, rfl, rfl, hx, hy, sz_of (by omega), fun z => ?_, fun _ z => ?_, fun _ _ p np => q _ _ ((u2.trans u3).trans (Ex.new np)) ?_⟩
    · have : ds = [] := List.eq_nil_of_length_eq_zero (by rw [← lx, z]; rfl)
      subst this
      exact q _ _ (u2.trans u3) g2
    · have : es = [] := List.eq_nil_of_length_eq_zero (by rw [← ly, z]; rfl)
      subst this
      rw [List.append_nil] at *
      exact q _ _ (u2.trans u3) g1
    · exact gd_tup (st_of upd_same) (((gdAll_dp ax fx).app (gdAll_dp ay fy)).kp (.new np)) (by rw [List.length_append]; omega)
/-- (x,) of a datum -/
theorem ex_oneD (h : EvX ta σ H (PD K k d)) : EvX (tTup (tCons ta tNil)) σ H (PD K (k + 1) (.tuple [d])) := fun H1 u Q q =>
  h H1 u _ fun x H2 u2 g => ⟨by show 1 ≤ sizeLine; decide, fun p np => q _ _ (u2.trans (Ex.new np)) (gd_tup (st_of upd_same) (.cons (Gd.kp (.new np) g) .nil) (by show 1 ≤ 20; decide))⟩
theorem ex_evD {v : V} (h : Ev ta σ H v) (g : Gd K H k v d) : EvX ta σ H (PD K k d) := fun H1 u Q q => h H1 u _ fun H2 u2 => q v H2 u2 (g.ex (u.trans u2))
theorem ex_upD {k2 : Nat} (h : EvX ta σ H (PD K k d)) (l : k ≤ k2) : EvX ta σ H (PD K k2 d) := ex_imp h fun v H1 g => Gd.up l g
/-- xs.extend(a new list of data) -/
theorem s_extD {i : Nat} (hl : LD K k ds f H) (hv : σ[i]? = some (some (.ref f))) (h : EvN te σ H (LD K k es)) (hz : ds.length + es.length ≤ 100000) (q : ∀ H1, But f H H1 → LD K k (ds ++ es) f H1 → D.nx σ H1) : tDrop (tBM K "list" rExtend (tVar i) (tCons te tNil)) D σ H := by
  obtain ⟨xs, h1, gx⟩ := hl
  refine ⟨_, hv, .inl ⟨rfl, _, sq_of h1⟩, h H (.refl H) _ fun y H2 ny u ⟨ys, h2, gy⟩ => ⟨f, y, xs, ys, rfl, rfl, u f _ h1, h2, sz_of (by rw [gdAll_len gx, gdAll_len gy]; omega), ?_⟩⟩
  have kp : Kp H2 (upd H2 f (.lst (xs ++ ys))) := Kp.lst (u _ _ h1)
  exact q _ (But.upd (.ex u)) ⟨_, upd_same, (gx.kp ((Kp.ex u).trans kp)).app (gy.kp kp)⟩
/-- x == (), x != () of a tuple of data -/
theorem et_neTup0 {x : V} (ha : Ev ta σ H x) (g : Gd K H k x (.tuple ds)) (hk : k ≤ 40) : EvT (tTest (tOp (rNeD K) ta (tTup tNil))) σ H (!ds.isEmpty) := et_test fun H1 u Q q =>
  ha H1 u _ fun H2 u2 => ⟨Nat.zero_le _, fun p np => by
    have e : PyData.eqv (.tuple ds) (.tuple []) = ds.isEmpty := by cases ds <;> simp [PyData.eqv, PyData.eqvAll]
    refine ⟨.tuple ds, .tuple [], ((g.ex (u.trans u2)).kp (.new np)).dp, .tup (st_of upd_same) .nil, fine_shaped (by omega) g.fn, rfl, ?_⟩
    rw [e]
    exact q _ (u2.trans (Ex.new np))⟩
theorem ev_eqTup0 {x : V} (ha : Ev ta σ H x) (g : Gd K H k x (.tuple ds)) (hk : k ≤ 40) : Ev (tOp (rEqD K) ta (tTup tNil)) σ H (.bl ds.isEmpty) := fun H1 u Q q =>
  ha H1 u _ fun H2 u2 => ⟨Nat.zero_le _, fun p np => by
    have e : PyData.eqv (.tuple ds) (.tuple []) = ds.isEmpty := by cases ds <;> simp [PyData.eqv, PyData.eqvAll]
    refine ⟨.tuple ds, .tuple [], ((g.ex (u.trans u2)).kp (.new np)).dp, .tup (st_of upd_same) .nil, fine_shaped (by omega) g.fn, rfl, ?_⟩
    rw [e]
    exact q _ (u2.trans (Ex.new np))⟩
end
end Own


set_option maxHeartbeats 2000000
namespace Own
open PySem PySem.Spec PyProof.Rows L2
open Evl
/-! ### loops that fill a dict with tuples as keys; comprehensions over what a call gives -/
/-- every tuple is kept -/
def SqK (K : PySem.W.Frag) (H H' : Hp) : Prop := ∀ a xs, SqT K H a xs → SqT K H' a xs
mutual
theorem dp_sq {K : PySem.W.Frag} {H H' : Hp} (e : SqK K H H') : ∀ (d : PyData) (k : Nat) (v : V), Dp K H v d → fine k d = true → Dp K H' v d
  | .none, _, _, h, _ => by cases h; exact .non
  | .bool b, _, _, h, _ => by cases h; exact .bl b
  | .int i, _, _, h, _ => by cases h; exact .int i
  | .str x, _, _, h, _ => by cases h; exact .str x
  | .list ds, k, _, _, f => by cases k <;> simp [fine] at f
  | .tuple ds, 0, _, _, f => by simp [fine] at f
  | .tuple ds, k + 1, _, h, f => by
    cases h with
    | tup hs ha =>
      simp only [fine, Bool.and_eq_true, decide_eq_true_eq] at f
      exact .tup (e _ _ hs) (dpAll_sq e ds k _ ha (List.all_eq_true.mp f.2))
  | .dict _, _, _, h, _ => by cases h
theorem dpAll_sq {K : PySem.W.Frag} {H H' : Hp} (e : SqK K H H') : ∀ (ds : List PyData) (k : Nat) (vs : List V), DpAll K H vs ds → (∀ d ∈ ds, fine k d = true) → DpAll K H' vs ds
  | [], _, _, h, _ => by cases h; exact .nil
  | d :: ds, k, _, h, f => by
    cases h with
    | cons h1 h2 => exact .cons (dp_sq e d k _ h1 (f d List.mem_cons_self)) (dpAll_sq e ds k _ h2 fun x hx => f x (List.mem_cons_of_mem _ hx))
end
theorem Gd.sq {K : PySem.W.Frag} {H H' : Hp} {k : Nat} {v : V} {d : PyData} (e : SqK K H H') (g : Gd K H k v d) : Gd K H' k v d := ⟨dp_sq e d k v g.dp g.fn, g.fn⟩
theorem GdAll.sq {K : PySem.W.Frag} {H H' : Hp} {k : Nat} (e : SqK K H H') : ∀ {vs : List V} {ds : List PyData}, GdAll K H k vs ds → GdAll K H' k vs ds
  | _, _, .nil => .nil
  | _, _, .cons g t => .cons (g.sq e) (GdAll.sq e t)
section
variable {K : PySem.W.Frag} {σ : L2.St} {H H' H1 : Hp} {te ta tb tl : TE} {t : TT} {D : Ends} {tu tz : TS} {k k0 : Nat} {a f p : Addr} {ds es : List PyData} {d e : PyData} {v : V} {kvs : List (List Key × V)}
theorem But.sqT {o : HO} (hf : H f = some o) (h1 : ∀ xs, o ≠ .tup xs) (h2 : ∀ c u, o ≠ .frz c u) (b : But f H H1) : SqK K H H1 := fun c xs h => h.elim (fun h => .inl (by
  rcases h with h | ⟨c', h⟩
  · exact .inl (b c _ (fun z => by rw [z, hf] at h; injection h with h; exact h1 _ h) h)
  · exact .inr ⟨c', b c _ (fun z => by rw [z, hf] at h; injection h with h; exact h2 _ _ h) h⟩)) .inr
theorem But.sqD (hf : H f = some (.dT kvs)) (b : But f H H1) : SqK K H H1 := b.sqT hf (fun _ z => by cases z) (fun _ _ z => by cases z)
theorem LD.butD (hf : H f = some (.dT kvs)) (b : But f H H1) (h : LD K k ds p H) : LD K k ds p H1 := let ⟨vs, h1, h2⟩ := h; ⟨vs, b _ _ (fun z => by rw [z, hf] at h1; cases h1) h1, h2.sq (b.sqD hf)⟩
/-- for x in what a call gives, a list of data; the dict at f may grow meanwhile -/
theorem s_forDT {j : Nat} {W : List PyData → Prop} (h : ∀ Q : VK, (∀ l HL ds, H l = none → Ex H HL → LD K k ds l HL → W ds → Q (.ref l) HL) → tl σ H Q) (hf : H f = some (.dT kvs)) (Pv : Hp → List PyData → Nat → L2.St → Hp → Prop) (h0 : ∀ HL ds, Ex H HL → W ds → Pv HL ds 0 σ HL) (hB : ∀ HL ds i σ' H', Pv HL ds i σ' H' → But f HL H')
    (hs : ∀ HL ds (i : Nat) d x σ' H', Ex H HL → W ds → ds[i]? = some d → Gd K H' k x d → Pv HL ds i σ' H' → tu { D with nx := Pv HL ds (i + 1), ct := Pv HL ds (i + 1), bk := D.nx } (σ'.set j (some x)) H') (hd : ∀ HL ds σ' H', Ex H HL → W ds → Pv HL ds ds.length σ' H' → D.nx σ' H') :
    tFor (iList K tl) (gName j) tu D σ H :=
  h _ fun L HL ds nL u ⟨xs, hL, gx⟩ w => by
    have nf : L ≠ f := fun z => by rw [z, hf] at nL; cases nL
    have hfL := u _ _ hf
    have l1 := gdAll_len gx
    exact ⟨L, rfl, ⟨xs, sq_of hL⟩, for_list (xs := xs) (Pv HL ds) (h0 HL ds u w) (fun i σ' H' _ p => sq_of (hB HL ds i σ' H' p _ _ nf hL))
      (fun i x σ' H' hx p => by
        obtain ⟨d, hd, gd⟩ := gdAll_at gx hx
        exact hs HL ds i d x σ' H' u w hd (gd.sq ((hB HL ds i σ' H' p).sqD hfL)) p) (fun σ' H' p => hd HL ds σ' H' u w (by rw [← l1]; exact p))⟩
/-- [e for x in a new list if t], of each item there is something to say -/
theorem en_lcAny {j : Nat} {vs : List Nat} {G : VP} {P : V → Prop} {N : Nat} (mG : ∀ x H1 H2, Ex H1 H2 → G x H1 → G x H2) (h : ∀ H1, Ex H H1 → ∀ Q : VK, (∀ l H2 xs, H1 l = none → Ex H1 H2 → H2 l = some (.lst xs) → xs.length ≤ N → (∀ x ∈ xs, G x H2) → Q (.ref l) H2) → tl σ H1 Q) (hN : N ≤ 100000) (hw : ∀ x, wipe ((wipe σ vs).set j (some x)) vs = wipe σ vs)
    (ht : ∀ x H1, G x H1 → Ex H H1 → ∃ b, EvT t ((wipe σ vs).set j (some x)) H1 b ∧ (b = true → ∃ y, Ev te ((wipe σ vs).set j (some x)) H1 y ∧ P y)) :
    EvN (tLc (iList K tl) (gName j) t te vs) σ H (fun l H' => ∃ ys, H' l = some (.lst ys) ∧ ys.length ≤ N ∧ ∀ y ∈ ys, P y) := fun H0 u Q q =>
  h H0 u _ fun L HL xs nL uL hL hN' hG => ⟨L, rfl, ⟨xs, sq_of hL⟩, fun Dl hD =>
    lc_it (Qd := fun H => Q (.ref Dl) H) (walk_list (K := K) (a := L) (xs := xs)) (fun i H' => Ex HL H' ∧ ∃ ys, H' Dl = some (.lst ys) ∧ ys.length ≤ i ∧ ∀ y ∈ ys, P y) ⟨Ex.new hD, [], upd_same, Nat.le_refl _, fun y hy => absurd hy List.not_mem_nil⟩ (fun _ H' _ p => sq_of (p.1 _ _ hL))
      (fun i x H2 H3 hi => by
        rintro ⟨e2, ys, hy, hl, hp⟩ ⟨e3, hx⟩
        subst e3
        have hx' := hx
        refine ⟨hw x, ?_⟩
        obtain ⟨b, tt, tp⟩ := ht x H3 (mG x _ _ e2 (hG x (List.mem_of_getElem? hx'))) ((u.trans uL).trans e2)
        refine tt H3 (.refl H3) _ fun H4 e4 => ?_
        cases b with
        | false => exact ⟨e2.trans e4, ys, e4 _ _ hy, by omega, hp⟩
        | true =>
          obtain ⟨y, ey, py⟩ := tp rfl
          show te _ _ _
          refine ey H4 e4 _ fun H5 e5 => ⟨ys, (e4.trans e5) _ _ hy, sz_lt (by omega), Ex.mut ((e2.trans e4).trans e5) hD, ys ++ [y], upd_same, by rw [List.length_append]; show ys.length + 1 ≤ i + 1; omega, fun z hz => ?_⟩
          rcases List.mem_append.mp hz with c | c
          · exact hp z c
          · rw [List.mem_singleton.mp c]; exact py)
      (fun H' ⟨e2, ys, hy, hl, hp⟩ => q Dl H' (fresh_back uL hD) (uL.trans e2) ⟨ys, hy, by omega, hp⟩)⟩
/-- [e for x in a list], e made anew, each with P -/
theorem lcP {J : It} {n : Nat} {xs : List V} {j : Nat} {vs : List Nat} {H1 : Hp} {P : VP} {Qd : Addr → Hp → Prop} (mk : MonoK P) (G : Hp → Prop) (w : Walk J n G (YAt xs)) (hG : ∀ H', Ex H1 H' → G H') (hn : n ≤ 40000) (hw : ∀ x, wipe ((wipe σ vs).set j (some x)) vs = wipe σ vs)
    (he : ∀ (i : Nat) x H', Ex H1 H' → xs[i]? = some x → i < n → EvX te ((wipe σ vs).set j (some x)) H' P) {Dl : Addr} (hD : H1 Dl = none) (hd : ∀ H', Ex H1 H' → (∃ ys, H' Dl = some (.lst ys) ∧ ys.length = n ∧ ∀ y ∈ ys, P y H') → Qd Dl H') :
    ∃ W : Nat → Nat → Hp → Prop, (∃ m, W 0 m (upd H1 Dl (.lst []))) ∧ ∀ i m H, W i m H →
      (J.stop i H ∧ Qd Dl H) ∨ (J.go i H ∧ ∃ Nx : Hp → Prop, (∀ H', Nx H' → ∃ m', m' < m ∧ W (i + 1) m' H') ∧ ∀ x H', J.yld i H x H' → gName j x (wipe σ vs) H' fun σ2 H2 => wipe σ2 vs = wipe σ vs ∧ tYes σ2 H2 fun b H3 =>
        if b = true then te σ2 H3 fun y H4 => ∃ acc, H4 Dl = some (.lst acc) ∧ acc.length < sizeLine ∧ Nx (upd H4 Dl (.lst (acc ++ [y]))) else Nx H3) :=
  lc_it w (fun i H' => Ex H1 H' ∧ ∃ ys, H' Dl = some (.lst ys) ∧ ys.length = i ∧ ∀ y ∈ ys, P y H') ⟨Ex.new hD, [], upd_same, rfl, fun y hy => absurd hy List.not_mem_nil⟩ (fun i H' _ p => hG H' p.1)
    (fun i x H2 H3 hi => by
      rintro ⟨e2, ys, hy, hl, hp⟩ ⟨e3, hx⟩
      subst e3
      refine ⟨hw x, ?_⟩
      refine yesT ?_
      refine he i x H3 e2 hx hi H3 (.refl H3) _ fun y H4 u4 py => ⟨ys, u4 _ _ hy, sz_lt (by rw [hl]; omega), Ex.mut (e2.trans u4) hD, ys ++ [y], upd_same, by rw [List.length_append, hl]; rfl, fun z hz => ?_⟩
      have kp : Kp H4 (upd H4 Dl (.lst (ys ++ [y]))) := Kp.lst (u4 _ _ hy)
      rcases List.mem_append.mp hz with c | c
      · exact mk _ _ _ ((Kp.ex u4).trans kp) (hp z c)
      · rw [List.mem_singleton.mp c]; exact mk _ _ _ kp py)
    (fun H' p => hd H' p.1 p.2)
end
end Own


set_option maxHeartbeats 2000000
namespace Own
open PySem PySem.Spec PyProof.Rows L2
open Evl
/-! ### lists and tuples of data, by their items; slices of a tuple -/
section
variable {K : PySem.W.Frag} {σ : L2.St} {H H' H1 : Hp} {te tb tl : TE} {ta : TA} {D : Ends} {tu tz : TS} {k k0 : Nat} {a f p : Addr} {ds es : List PyData} {d e : PyData} {v : V}
def XD (K : PySem.W.Frag) (k : Nat) (ta : TA) (σ : L2.St) (H : Hp) (ds : List PyData) : Prop := ∀ H1, Ex H H1 → ∀ Q : List V → Hp → Prop, (∀ vs H2, Ex H1 H2 → GdAll K H2 k vs ds → Q vs H2) → ta σ H1 Q
theorem xd_nil : XD K k tNil σ H [] := fun H1 u Q q => q [] H1 (.refl _) .nil
theorem xd_cons (h : EvX te σ H (PD K k0 d)) (l : k0 ≤ k) (t : XD K k ta σ H ds) : XD K k (tCons te ta) σ H (d :: ds) := fun H1 u Q q =>
  h H1 u _ fun v H2 u2 g => t H2 (u.trans u2) _ fun vs H3 u3 gs => q (v :: vs) H3 (u2.trans u3) (.cons ((Gd.ex u3 g).up l) gs)
theorem en_xd (h : XD K k ta σ H ds) (hl : ds.length ≤ 1000) : EvN (tLst ta) σ H (LD K k ds) := fun H1 u Q q =>
  h H1 u _ fun vs H2 u2 g => ⟨sz_of (by have := gdAll_len g; omega), fun p np => q p _ (fresh_back u2 np) (u2.trans (Ex.new np)) ⟨vs, upd_same, g.kp (.new np)⟩⟩
theorem ex_xd (h : XD K k ta σ H ds) (hl : ds.length ≤ 20) : EvX (tTup ta) σ H (PD K (k + 1) (.tuple ds)) := fun H1 u Q q =>
  h H1 u _ fun vs H2 u2 g => ⟨sz_of (by have := gdAll_len g; omega), fun p np => q _ _ (u2.trans (Ex.new np)) (gd_tup (st_of upd_same) (g.kp (.new np)) (by have := gdAll_len g; omega))⟩
theorem ex_cutD {ds : List PyData} {tl th : L2.TO} {lo hi : Option Int} (h : EvX te σ H (PD K (k + 1) (.tuple ds))) (hl : ∀ H1, Ex H H1 → ∀ Q : Option Int → Hp → Prop, (∀ H2, Ex H1 H2 → Q lo H2) → tl σ H1 Q) (hh : ∀ H1, Ex H H1 → ∀ Q : Option Int → Hp → Prop, (∀ H2, Ex H1 H2 → Q hi H2) → th σ H1 Q)
    (es : List PyData) (hd : ∀ xs : List V, xs.length = ds.length → ∃ m n, cutV xs lo hi = (xs.drop m).take n ∧ es = (ds.drop m).take n) : EvX (tSl (rSlA K) te tl th) σ H (PD K (k + 1) (.tuple es)) := fun H1 u Q q =>
  h H1 u _ fun x H2 u2 px => hl H2 (u.trans u2) _ fun H3 u3 => hh H3 ((u.trans u2).trans u3) _ fun H4 u4 => by
    have g : Gd K H4 (k + 1) x (.tuple ds) := Gd.ex (u3.trans u4) px
    obtain ⟨b, xs, j, rfl, e1, hx, lx, l20, ax, fx, _⟩ := g.tup
    have ej : k = j := by omega
    subst ej
    obtain ⟨m, n, e2, e3⟩ := hd xs lx
    have U := (u2.trans u3).trans u4
    have dr : ∀ (m : Nat) {xs : List V} {ds : List PyData}, GdAll K H4 k xs ds → GdAll K H4 k (xs.drop m) (ds.drop m) := fun m => by
      induction m with
      | zero => exact fun h => h
      | succ m ih => exact fun h => by cases h with
        | nil => exact .nil
        | cons _ t => exact ih t
    have tk : ∀ (n : Nat) {xs : List V} {ds : List PyData}, GdAll K H4 k xs ds → GdAll K H4 k (xs.take n) (ds.take n) := fun n => by
      induction n with
      | zero => exact fun _ => .nil
      | succ n ih => exact fun h => by cases h with
        | nil => exact .nil
        | cons h t => exact .cons h (ih t)
    have G := tk n (dr m (gdAll_dp ax fx))
    rw [← e3, ← e2] at G
    have le : (cutV xs lo hi).length ≤ 20 := by have := cutV_length xs lo hi; omega
    exact ⟨b, xs, rfl, hx, fun ⟨h1, h2⟩ => q _ H4 U (by rw [cut_whole h1 h2] at G; exact gd_tup hx G (by omega)), fun _ p np => q _ _ (U.trans (Ex.new np)) (gd_tup (st_of upd_same) (G.kp (.new np)) le)⟩
/-- t[n:], t[:n] -/
theorem ex_restD {n : Nat} (h : EvX te σ H (PD K (k + 1) (.tuple ds))) (hn : n ≤ ds.length) : EvX (tSl (rSlA K) te (tPart (tC (.int (n : Int)))) tNoPart) σ H (PD K (k + 1) (.tuple (ds.drop n))) :=
  ex_cutD (lo := some (n : Int)) (hi := none) h (fun H1 u Q q => ⟨n, rfl, q H1 (.refl _)⟩) (fun H1 u Q q => q H1 (.refl _)) _ fun xs hx => ⟨n, xs.length, by rw [cut_hi (by omega), List.take_of_length_le (by rw [List.length_drop]; omega)], by rw [List.take_of_length_le (by rw [List.length_drop]; omega)]⟩
theorem ex_firstD {n : Nat} (h : EvX te σ H (PD K (k + 1) (.tuple ds))) (hn : n ≤ ds.length) : EvX (tSl (rSlA K) te tNoPart (tPart (tC (.int (n : Int))))) σ H (PD K (k + 1) (.tuple (ds.take n))) :=
  ex_cutD (lo := none) (hi := some (n : Int)) h (fun H1 u Q q => q H1 (.refl _)) (fun H1 u Q q => ⟨n, rfl, q H1 (.refl _)⟩) _ fun xs hx => ⟨0, n, by rw [cut_lo (by omega)]; rfl, rfl⟩
end
end Own


set_option maxHeartbeats 2000000
namespace Own
open PySem PySem.Spec PyProof.Rows L2
/-! ### a method of an own class, as the top has written it -/
structure MtAt (K : PySem.W.Frag) (C : Addr) (m q : Str) (st : Stmt) (ps : List Str) (f : Addr) (fd : FuncData) : Prop where
  F : Fun K m q st f fd
  b : Binds K fd ps []
  m : Meth K C m f
end Own


namespace My
open PySem PySem.Spec PyProof.Rows L2 Own LamX
def topS (i : Nat) : Stmt := PySem.Challenge.pw_twicemany_k14_racks_their_cells_and_refu.main.body.getD i (.Pass ⟨0, 0, 0, 0⟩)
abbrev s_init : Stmt := inClass (topS 2) 0
theorem sc_init : FnScope ["self", "what"] ["self", "what"] (defScope s_init) := ⟨rfl, rfl, rfl, by decide +kernel, rfl, by decide +kernel, by decide +kernel⟩
abbrev s_wall : Stmt := topS 0
abbrev n_wall : List Str := ["k"]
theorem sc_wall : FnScope n_wall ["k"] (defScope s_wall) := ⟨rfl, rfl, rfl, by decide +kernel, rfl, by decide +kernel, by decide +kernel⟩
abbrev s_number_within : Stmt := topS 10
abbrev n_number_within : List Str := ["thing", "low", "high"]
theorem sc_number_within : FnScope n_number_within ["thing", "low", "high"] (defScope s_number_within) := ⟨rfl, rfl, rfl, by decide +kernel, rfl, by decide +kernel, by decide +kernel⟩
abbrev s_tuple_of : Stmt := topS 11
abbrev n_tuple_of : List Str := ["thing", "many"]
theorem sc_tuple_of : FnScope n_tuple_of ["thing", "many"] (defScope s_tuple_of) := ⟨rfl, rfl, rfl, by decide +kernel, rfl, by decide +kernel, by decide +kernel⟩
abbrev s_is_prime : Stmt := topS 14
abbrev n_is_prime : List Str := ["p", "divisor"]
theorem sc_is_prime : FnScope n_is_prime ["p"] (defScope s_is_prime) := ⟨rfl, rfl, rfl, by decide +kernel, rfl, by decide +kernel, by decide +kernel⟩
abbrev s_made_shape : Stmt := topS 16
abbrev n_made_shape : List Str := ["thing", "fault"]
theorem sc_made_shape : FnScope n_made_shape ["thing"] (defScope s_made_shape) := ⟨rfl, rfl, rfl, by decide +kernel, rfl, by decide +kernel, by decide +kernel⟩
abbrev s_shape_fault : Stmt := topS 17
abbrev n_shape_fault : List Str := ["thing", "p", "wide", "n", "k", "e", "manner", "table"]
theorem sc_shape_fault : FnScope n_shape_fault ["thing"] (defScope s_shape_fault) := ⟨rfl, rfl, rfl, by decide +kernel, rfl, by decide +kernel, by decide +kernel⟩
abbrev s_table_fits : Stmt := topS 18
abbrev n_table_fits : List Str := ["table", "n", "p", "row"]
theorem sc_table_fits : FnScope n_table_fits ["table", "n", "p"] (defScope s_table_fits) := ⟨rfl, rfl, rfl, by decide +kernel, rfl, by decide +kernel, by decide +kernel⟩
abbrev s_numbers_fit : Stmt := topS 19
abbrev n_numbers_fit : List Str := ["thing", "many", "p", "number"]
theorem sc_numbers_fit : FnScope n_numbers_fit ["thing", "many", "p"] (defScope s_numbers_fit) := ⟨rfl, rfl, rfl, by decide +kernel, rfl, by decide +kernel, by decide +kernel⟩
abbrev s_cell_fits : Stmt := topS 21
abbrev n_cell_fits : List Str := ["shape", "thing"]
theorem sc_cell_fits : FnScope n_cell_fits ["shape", "thing"] (defScope s_cell_fits) := ⟨rfl, rfl, rfl, by decide +kernel, rfl, by decide +kernel, by decide +kernel⟩
abbrev s_as_cell : Stmt := topS 22
abbrev n_as_cell : List Str := ["shape", "number"]
theorem sc_as_cell : FnScope n_as_cell ["shape", "number"] (defScope s_as_cell) := ⟨rfl, rfl, rfl, by decide +kernel, rfl, by decide +kernel, by decide +kernel⟩
abbrev s_shelves_of : Stmt := topS 23
abbrev n_shelves_of : List Str := ["shape"]
theorem sc_shelves_of : FnScope n_shelves_of ["shape"] (defScope s_shelves_of) := ⟨rfl, rfl, rfl, by decide +kernel, rfl, by decide +kernel, by decide +kernel⟩
abbrev s_law_pool : Stmt := topS 31
abbrev n_law_pool : List Str := ["_law_script", "_law_k", "_law_cell", "_law_big", "_law_mixed"]
theorem sc_law_pool : FnScope n_law_pool ["_law_script", "_law_k"] (defScope s_law_pool) := ⟨rfl, rfl, rfl, by decide +kernel, rfl, by decide +kernel, by decide +kernel⟩
abbrev s_law_take : Stmt := topS 32
abbrev n_law_take : List Str := ["_law_source", "_law_top", "_law_drawn"]
theorem sc_law_take : FnScope n_law_take ["_law_source", "_law_top"] (defScope s_law_take) := ⟨rfl, rfl, rfl, by decide +kernel, rfl, by decide +kernel, by decide +kernel⟩
abbrev s_law_one : Stmt := topS 33
abbrev n_law_one : List Str := ["_law_source", "_law_things"]
theorem sc_law_one : FnScope n_law_one ["_law_source", "_law_things"] (defScope s_law_one) := ⟨rfl, rfl, rfl, by decide +kernel, rfl, by decide +kernel, by decide +kernel⟩
abbrev s_law_any_shape : Stmt := topS 34
abbrev n_law_any_shape : List Str := ["_law_source", "_law_p", "_law_wide", "_law_n", "_law_manner", "_law_table", "_law_j", "_law_x"]
theorem sc_law_any_shape : FnScope n_law_any_shape ["_law_source"] (defScope s_law_any_shape) := ⟨rfl, rfl, rfl, by decide +kernel, rfl, by decide +kernel, by decide +kernel⟩
abbrev s_law_new_cell : Stmt := topS 35
abbrev n_law_new_cell : List Str := ["_law_source", "_law_shape", "_law_place"]
theorem sc_law_new_cell : FnScope n_law_new_cell ["_law_source", "_law_shape"] (defScope s_law_new_cell) := ⟨rfl, rfl, rfl, by decide +kernel, rfl, by decide +kernel, by decide +kernel⟩
abbrev s_law_own_rack : Stmt := topS 36
abbrev n_law_own_rack : List Str := ["_law_shape", "_law_rows", "_law_many", "_law_nought", "_law_r", "_law_s"]
theorem sc_law_own_rack : FnScope n_law_own_rack ["_law_shape", "_law_rows"] (defScope s_law_own_rack) := ⟨rfl, rfl, rfl, by decide +kernel, rfl, by decide +kernel, by decide +kernel⟩
abbrev s_law_is_alike : Stmt := topS 37
abbrev n_law_is_alike : List Str := ["_law_rack", "_law_own", "_law_states", "_law_r", "_law_row", "_law_told", "_law_s"]
theorem sc_law_is_alike : FnScope n_law_is_alike ["_law_rack", "_law_own"] (defScope s_law_is_alike) := ⟨rfl, rfl, rfl, by decide +kernel, rfl, by decide +kernel, by decide +kernel⟩
abbrev s_law_put_right : Stmt := topS 38
abbrev n_law_put_right : List Str := ["_law_source", "_law_rack", "_law_own", "_law_shape", "_law_r", "_law_s", "_law_cell", "_law_row"]
theorem sc_law_put_right : FnScope n_law_put_right ["_law_source", "_law_rack", "_law_own", "_law_shape"] (defScope s_law_put_right) := ⟨rfl, rfl, rfl, by decide +kernel, rfl, by decide +kernel, by decide +kernel⟩
abbrev s_law_loss_right : Stmt := topS 39
abbrev n_law_loss_right : List Str := ["_law_source", "_law_rack", "_law_own", "_law_shape", "_law_states", "_law_kept", "_law_lost", "_law_s", "_law_row"]
theorem sc_law_loss_right : FnScope n_law_loss_right ["_law_source", "_law_rack", "_law_own", "_law_shape"] (defScope s_law_loss_right) := ⟨rfl, rfl, rfl, by decide +kernel, rfl, by decide +kernel, by decide +kernel⟩
abbrev s_law_heard : Stmt := topS 40
abbrev n_law_heard : List Str := ["_law_call", "error"]
theorem sc_law_heard : FnScope n_law_heard ["_law_call"] (defScope s_law_heard) := ⟨rfl, rfl, rfl, by decide +kernel, rfl, by decide +kernel, by decide +kernel⟩
abbrev s_law_refused_right : Stmt := topS 41
abbrev n_law_refused_right : List Str := ["_law_source", "_law_rack", "_law_own", "_law_shape", "_law_rows", "_law_many", "_law_p", "_law_cell", "_law_row", "_law_shelf", "_law_bad", "_law_no_row", "_law_no_shelf", "_law_no_cell", "_law_rows_due", "_law_number", "_law_call", "_law_due"]
theorem sc_law_refused_right : FnScope n_law_refused_right ["_law_source", "_law_rack", "_law_own", "_law_shape"] (defScope s_law_refused_right) := ⟨rfl, rfl, rfl, by decide +kernel, rfl, by decide +kernel, by decide +kernel⟩
abbrev s_law : Stmt := topS 42
abbrev n_law : List Str := ["_law_script", "_law_source", "_law_shape", "_law_rows", "_law_rack", "_law_own", "_law_turn"]
theorem sc_law : FnScope n_law ["_law_script"] (defScope s_law) := ⟨rfl, rfl, rfl, by decide +kernel, rfl, by decide +kernel, by decide +kernel⟩
abbrev s_Rack_init : Stmt := inClass (topS 29) 0
abbrev n_Rack_init : List Str := ["self", "shape", "many", "_"]
theorem sc_Rack_init : FnScope n_Rack_init ["self", "shape", "many"] (defScope s_Rack_init) := ⟨rfl, rfl, rfl, by decide +kernel, rfl, by decide +kernel, by decide +kernel⟩
abbrev s_Rack_states : Stmt := inClass (topS 29) 1
abbrev n_Rack_states : List Str := ["self"]
theorem sc_Rack_states : FnScope n_Rack_states ["self"] (defScope s_Rack_states) := ⟨rfl, rfl, rfl, by decide +kernel, rfl, by decide +kernel, by decide +kernel⟩
abbrev s_Rack_cell : Stmt := inClass (topS 29) 2
abbrev n_Rack_cell : List Str := ["self", "row", "shelf"]
theorem sc_Rack_cell : FnScope n_Rack_cell ["self", "row", "shelf"] (defScope s_Rack_cell) := ⟨rfl, rfl, rfl, by decide +kernel, rfl, by decide +kernel, by decide +kernel⟩
abbrev s_Rack_left : Stmt := inClass (topS 29) 3
abbrev n_Rack_left : List Str := ["self", "row", "cell", "way"]
theorem sc_Rack_left : FnScope n_Rack_left ["self", "row"] (defScope s_Rack_left) := ⟨rfl, rfl, rfl, by decide +kernel, rfl, by decide +kernel, by decide +kernel⟩
abbrev s_Rack_put : Stmt := inClass (topS 29) 4
abbrev n_Rack_put : List Str := ["self", "row", "shelf", "cell"]
theorem sc_Rack_put : FnScope n_Rack_put ["self", "row", "shelf", "cell"] (defScope s_Rack_put) := ⟨rfl, rfl, rfl, by decide +kernel, rfl, by decide +kernel, by decide +kernel⟩
abbrev s_Rack_lose : Stmt := inClass (topS 29) 5
abbrev n_Rack_lose : List Str := ["self", "shelf", "others", "other", "way"]
theorem sc_Rack_lose : FnScope n_Rack_lose ["self", "shelf"] (defScope s_Rack_lose) := ⟨rfl, rfl, rfl, by decide +kernel, rfl, by decide +kernel, by decide +kernel⟩
abbrev s_Rack_replace : Stmt := inClass (topS 29) 6
abbrev n_Rack_replace : List Str := ["self", "shelf"]
theorem sc_Rack_replace : FnScope n_Rack_replace ["self", "shelf"] (defScope s_Rack_replace) := ⟨rfl, rfl, rfl, by decide +kernel, rfl, by decide +kernel, by decide +kernel⟩
abbrev s_Rack_fill : Stmt := inClass (topS 29) 9
abbrev n_Rack_fill : List Str := ["self", "shelf", "cell", "row"]
theorem sc_Rack_fill : FnScope n_Rack_fill ["self", "shelf", "cell"] (defScope s_Rack_fill) := ⟨rfl, rfl, rfl, by decide +kernel, rfl, by decide +kernel, by decide +kernel⟩
abbrev s_Rack_check_row : Stmt := inClass (topS 29) 10
abbrev n_Rack_check_row : List Str := ["self", "row"]
theorem sc_Rack_check_row : FnScope n_Rack_check_row ["self", "row"] (defScope s_Rack_check_row) := ⟨rfl, rfl, rfl, by decide +kernel, rfl, by decide +kernel, by decide +kernel⟩
abbrev s_Rack_check_shelf : Stmt := inClass (topS 29) 11
abbrev n_Rack_check_shelf : List Str := ["self", "shelf"]
theorem sc_Rack_check_shelf : FnScope n_Rack_check_shelf ["self", "shelf"] (defScope s_Rack_check_shelf) := ⟨rfl, rfl, rfl, by decide +kernel, rfl, by decide +kernel, by decide +kernel⟩
section
/-- what the top has written -/
structure Txt (K : PySem.W.Frag) (mg : Str → Option Value) where
  f_number_within : Addr
  fd_number_within : FuncData
  d_number_within : DefAt K mg "number_within" s_number_within ["thing", "low", "high"] f_number_within fd_number_within
  f_tuple_of : Addr
  fd_tuple_of : FuncData
  d_tuple_of : DefAt K mg "tuple_of" s_tuple_of ["thing", "many"] f_tuple_of fd_tuple_of
  f_is_prime : Addr
  fd_is_prime : FuncData
  d_is_prime : DefAt K mg "is_prime" s_is_prime ["p"] f_is_prime fd_is_prime
  f_made_shape : Addr
  fd_made_shape : FuncData
  d_made_shape : DefAt K mg "made_shape" s_made_shape ["thing"] f_made_shape fd_made_shape
  f_shape_fault : Addr
  fd_shape_fault : FuncData
  d_shape_fault : DefAt K mg "shape_fault" s_shape_fault ["thing"] f_shape_fault fd_shape_fault
  f_table_fits : Addr
  fd_table_fits : FuncData
  d_table_fits : DefAt K mg "table_fits" s_table_fits ["table", "n", "p"] f_table_fits fd_table_fits
  f_numbers_fit : Addr
  fd_numbers_fit : FuncData
  d_numbers_fit : DefAt K mg "numbers_fit" s_numbers_fit ["thing", "many", "p"] f_numbers_fit fd_numbers_fit
  f_cell_fits : Addr
  fd_cell_fits : FuncData
  d_cell_fits : DefAt K mg "cell_fits" s_cell_fits ["shape", "thing"] f_cell_fits fd_cell_fits
  f_as_cell : Addr
  fd_as_cell : FuncData
  d_as_cell : DefAt K mg "as_cell" s_as_cell ["shape", "number"] f_as_cell fd_as_cell
  f_shelves_of : Addr
  fd_shelves_of : FuncData
  d_shelves_of : DefAt K mg "shelves_of" s_shelves_of ["shape"] f_shelves_of fd_shelves_of
  f_law_pool : Addr
  fd_law_pool : FuncData
  d_law_pool : DefAt K mg "_law_pool" s_law_pool ["_law_script", "_law_k"] f_law_pool fd_law_pool
  f_law_take : Addr
  fd_law_take : FuncData
  d_law_take : DefAt K mg "_law_take" s_law_take ["_law_source", "_law_top"] f_law_take fd_law_take
  f_law_one : Addr
  fd_law_one : FuncData
  d_law_one : DefAt K mg "_law_one" s_law_one ["_law_source", "_law_things"] f_law_one fd_law_one
  f_law_any_shape : Addr
  fd_law_any_shape : FuncData
  d_law_any_shape : DefAt K mg "_law_any_shape" s_law_any_shape ["_law_source"] f_law_any_shape fd_law_any_shape
  f_law_new_cell : Addr
  fd_law_new_cell : FuncData
  d_law_new_cell : DefAt K mg "_law_new_cell" s_law_new_cell ["_law_source", "_law_shape"] f_law_new_cell fd_law_new_cell
  f_law_own_rack : Addr
  fd_law_own_rack : FuncData
  d_law_own_rack : DefAt K mg "_law_own_rack" s_law_own_rack ["_law_shape", "_law_rows"] f_law_own_rack fd_law_own_rack
  f_law_is_alike : Addr
  fd_law_is_alike : FuncData
  d_law_is_alike : DefAt K mg "_law_is_alike" s_law_is_alike ["_law_rack", "_law_own"] f_law_is_alike fd_law_is_alike
  f_law_put_right : Addr
  fd_law_put_right : FuncData
  d_law_put_right : DefAt K mg "_law_put_right" s_law_put_right ["_law_source", "_law_rack", "_law_own", "_law_shape"] f_law_put_right fd_law_put_right
  f_law_loss_right : Addr
  fd_law_loss_right : FuncData
  d_law_loss_right : DefAt K mg "_law_loss_right" s_law_loss_right ["_law_source", "_law_rack", "_law_own", "_law_shape"] f_law_loss_right fd_law_loss_right
  f_law_heard : Addr
  fd_law_heard : FuncData
  d_law_heard : DefAt K mg "_law_heard" s_law_heard ["_law_call"] f_law_heard fd_law_heard
  f_law_refused_right : Addr
  fd_law_refused_right : FuncData
  d_law_refused_right : DefAt K mg "_law_refused_right" s_law_refused_right ["_law_source", "_law_rack", "_law_own", "_law_shape"] f_law_refused_right fd_law_refused_right
  f_law : Addr
  fd_law : FuncData
  d_law : DefAt K mg "law" s_law ["_law_script"] f_law fd_law
  f_Rack_init : Addr
  fd_Rack_init : FuncData
  f_Rack_states : Addr
  fd_Rack_states : FuncData
  f_Rack_cell : Addr
  fd_Rack_cell : FuncData
  f_Rack_left : Addr
  fd_Rack_left : FuncData
  f_Rack_put : Addr
  fd_Rack_put : FuncData
  f_Rack_lose : Addr
  fd_Rack_lose : FuncData
  f_Rack_replace : Addr
  fd_Rack_replace : FuncData
  f_Rack_fill : Addr
  fd_Rack_fill : FuncData
  f_Rack_check_row : Addr
  fd_Rack_check_row : FuncData
  f_Rack_check_shelf : Addr
  fd_Rack_check_shelf : FuncData
  c_Refused : Addr
  g_Refused : mg "Refused" = some (.ref c_Refused)
  c_BadShape : Addr
  g_BadShape : mg "BadShape" = some (.ref c_BadShape)
  c_BadShelf : Addr
  g_BadShelf : mg "BadShelf" = some (.ref c_BadShelf)
  c_BadNumber : Addr
  g_BadNumber : mg "BadNumber" = some (.ref c_BadNumber)
  c_BadCell : Addr
  g_BadCell : mg "BadCell" = some (.ref c_BadCell)
  c_NotLost : Addr
  g_NotLost : mg "NotLost" = some (.ref c_NotLost)
  c_TooMany : Addr
  g_TooMany : mg "TooMany" = some (.ref c_TooMany)
  c_Rack : Addr
  g_Rack : mg "Rack" = some (.ref c_Rack)
  cl_Rack : Cls K c_Rack
  mk_Rack : Mk K c_Rack f_Rack_init
  na_Rack_shape : NoAttr K c_Rack "shape"
  na_Rack_rows : NoAttr K c_Rack "rows"
  na_Rack_ways : NoAttr K c_Rack "ways"
  na_Rack_stripes : NoAttr K c_Rack "stripes"
  d_Rack_init : MtAt K c_Rack "__init__" "Rack.__init__" s_Rack_init ["self", "shape", "many"] f_Rack_init fd_Rack_init
  d_Rack_states : MtAt K c_Rack "states" "Rack.states" s_Rack_states ["self"] f_Rack_states fd_Rack_states
  d_Rack_cell : MtAt K c_Rack "cell" "Rack.cell" s_Rack_cell ["self", "row", "shelf"] f_Rack_cell fd_Rack_cell
  d_Rack_left : MtAt K c_Rack "left" "Rack.left" s_Rack_left ["self", "row"] f_Rack_left fd_Rack_left
  d_Rack_put : MtAt K c_Rack "put" "Rack.put" s_Rack_put ["self", "row", "shelf", "cell"] f_Rack_put fd_Rack_put
  d_Rack_lose : MtAt K c_Rack "lose" "Rack.lose" s_Rack_lose ["self", "shelf"] f_Rack_lose fd_Rack_lose
  d_Rack_replace : MtAt K c_Rack "replace" "Rack.replace" s_Rack_replace ["self", "shelf"] f_Rack_replace fd_Rack_replace
  d_Rack_fill : MtAt K c_Rack "fill" "Rack.fill" s_Rack_fill ["self", "shelf", "cell"] f_Rack_fill fd_Rack_fill
  d_Rack_check_row : MtAt K c_Rack "check_row" "Rack.check_row" s_Rack_check_row ["self", "row"] f_Rack_check_row fd_Rack_check_row
  d_Rack_check_shelf : MtAt K c_Rack "check_shelf" "Rack.check_shelf" s_Rack_check_shelf ["self", "shelf"] f_Rack_check_shelf fd_Rack_check_shelf
  f_init : Addr
  fd_init : FuncData
  d_init : Fun K "__init__" "Refused.__init__" s_init f_init fd_init
  b_init : Binds K fd_init ["self", "what"] []
  ti : PySem.W.typeIn K (.ref f_init) = some (.type "function")
  o_BadShape : OexC K c_BadShape
  i_BadShape : PySem.W.findIn K (.ref c_BadShape) "__init__" = some (some (.ref f_init))
  n_BadShape_what : WhC K c_BadShape
  x_BadShape : XfC K c_BadShape
  e_BadShape : ExcC K c_BadShape
  o_BadShelf : OexC K c_BadShelf
  i_BadShelf : PySem.W.findIn K (.ref c_BadShelf) "__init__" = some (some (.ref f_init))
  n_BadShelf_what : WhC K c_BadShelf
  x_BadShelf : XfC K c_BadShelf
  e_BadShelf : ExcC K c_BadShelf
  te_BadShelf_Refused : PySem.W.exmOne K (.ref c_BadShelf) (.ref c_Refused) = some true
  ki_BadShelf_BadShelf : PySem.W.kitOne K (.ref c_BadShelf) (.ref c_BadShelf) = some true
  ki_BadShelf_BadNumber : PySem.W.kitOne K (.ref c_BadShelf) (.ref c_BadNumber) = some false
  ki_BadShelf_BadCell : PySem.W.kitOne K (.ref c_BadShelf) (.ref c_BadCell) = some false
  o_BadNumber : OexC K c_BadNumber
  i_BadNumber : PySem.W.findIn K (.ref c_BadNumber) "__init__" = some (some (.ref f_init))
  n_BadNumber_what : WhC K c_BadNumber
  x_BadNumber : XfC K c_BadNumber
  e_BadNumber : ExcC K c_BadNumber
  te_BadNumber_Refused : PySem.W.exmOne K (.ref c_BadNumber) (.ref c_Refused) = some true
  ki_BadNumber_BadShelf : PySem.W.kitOne K (.ref c_BadNumber) (.ref c_BadShelf) = some false
  ki_BadNumber_BadNumber : PySem.W.kitOne K (.ref c_BadNumber) (.ref c_BadNumber) = some true
  ki_BadNumber_BadCell : PySem.W.kitOne K (.ref c_BadNumber) (.ref c_BadCell) = some false
  o_BadCell : OexC K c_BadCell
  i_BadCell : PySem.W.findIn K (.ref c_BadCell) "__init__" = some (some (.ref f_init))
  n_BadCell_what : WhC K c_BadCell
  x_BadCell : XfC K c_BadCell
  e_BadCell : ExcC K c_BadCell
  te_BadCell_Refused : PySem.W.exmOne K (.ref c_BadCell) (.ref c_Refused) = some true
  ki_BadCell_BadShelf : PySem.W.kitOne K (.ref c_BadCell) (.ref c_BadShelf) = some false
  ki_BadCell_BadNumber : PySem.W.kitOne K (.ref c_BadCell) (.ref c_BadNumber) = some false
  ki_BadCell_BadCell : PySem.W.kitOne K (.ref c_BadCell) (.ref c_BadCell) = some true
  o_NotLost : OexC K c_NotLost
  i_NotLost : PySem.W.findIn K (.ref c_NotLost) "__init__" = some (some (.ref f_init))
  n_NotLost_what : WhC K c_NotLost
  x_NotLost : XfC K c_NotLost
  e_NotLost : ExcC K c_NotLost
  o_TooMany : OexC K c_TooMany
  i_TooMany : PySem.W.findIn K (.ref c_TooMany) "__init__" = some (some (.ref f_init))
  n_TooMany_what : WhC K c_TooMany
  x_TooMany : XfC K c_TooMany
  e_TooMany : ExcC K c_TooMany
  cc_law_refused_right : Addr
  P_law_refused_right : Addr
  FC_law_refused_right : FunC K "_law_refused_right" "_law_refused_right" s_law_refused_right f_law_refused_right fd_law_refused_right cc_law_refused_right
  m_all : mg "all" = none
  m_bool : mg "bool" = none
  m_enumerate : mg "enumerate" = none
  m_int : mg "int" = none
  m_isinstance : mg "isinstance" = none
  m_len : mg "len" = none
  m_max : mg "max" = none
  m_min : mg "min" = none
  m_range : mg "range" = none
  m_repr : mg "repr" = none
  m_tuple : mg "tuple" = none
  m_zip : mg "zip" = none
  tk_GREATEST_PRIME : Tok
  v_GREATEST_PRIME : mg "GREATEST_PRIME" = some (.int 1000003 tk_GREATEST_PRIME)
  tk_MOST_ROWS : Tok
  v_MOST_ROWS : mg "MOST_ROWS" = some (.int 16 tk_MOST_ROWS)
  tk_KEPT : Tok
  v_KEPT : mg "KEPT" = some (.str "kept" tk_KEPT)
  tk_RAW : Tok
  v_RAW : mg "RAW" = some (.str "raw" tk_RAW)
  tk_LOST : Tok
  v_LOST : mg "LOST" = some (.str "lost" tk_LOST)
variable {K : PySem.W.Frag} {mg : Str → Option Value}
def Txt.tabs (T : Txt K mg) : List (Addr × Str) := [(T.P_law_refused_right, (("_law_refused_right" : Str) ++ ".<locals>.") ++ "<lambda>")]
def Txt.Ps (T : Txt K mg) : List Addr := [T.P_law_refused_right]
theorem Txt.mem_law_refused_right (T : Txt K mg) : (T.P_law_refused_right, (("_law_refused_right" : Str) ++ ".<locals>.") ++ "<lambda>") ∈ T.tabs := List.mem_cons_self
theorem Txt.one_law_refused_right (T : Txt K mg) : ∀ p ∈ T.tabs, p.1 = T.P_law_refused_right → p.2 = (("_law_refused_right" : Str) ++ ".<locals>.") ++ "<lambda>" := fun p hp e => by
  unfold Txt.tabs at hp
  simp only [List.mem_cons, List.not_mem_nil, or_false] at hp
  rcases hp with rfl
  · rfl
structure Bt (T : Txt K mg) (base : Heap) : Prop where
  tb_law_refused_right : TabB base mg T.cc_law_refused_right T.P_law_refused_right
end

/-- the law, of any script; the tables of its lambdas are empty -/
def sp_law (Ps : List Addr) (K : PySem.W.Frag) : Sp := fun vs H Q _ => ∃ (a : Addr) (ns : List Int), vs = [.ref a] ∧ SqL K H a (ns.map V.int) ∧ ns.length ≤ 63 ∧ (∀ xs, H a ≠ some (.lst xs)) ∧ (∀ b ∈ Ps, H b = some (.tbl #[])) ∧ ∀ H', Q (.bl true) H'
theorem law_sp {Ps : List Addr} {K : PySem.W.Frag} {H : Hp} {a : Addr} {ns : List Int} (h1 : ns.length ≤ 63) (h2 : OnlyT Ps H) (h3 : ∀ b ∈ Ps, H b = some (.tbl #[])) (h4 : SqL K H a (ns.map V.int)) : sp_law Ps K [.ref a] H (fun v _ => v = .bl true) E0 :=
  ⟨a, ns, rfl, h4, h1, (fun xs e => by rcases h2 a with z | ⟨_, z⟩ | ⟨o, ys, z⟩ <;> (rw [e] at z; cases z)), h3, fun _ => rfl⟩
end My


set_option maxHeartbeats 1000000
namespace My
open PySem PySem.Spec PyProof.Rows L2 Own LamX
open Evl (Ex RetV)
section
variable {P : Program} {w : World} {K : PySem.W.Frag} {mg : Str → Option Value} {base : Heap}

open Evl
/-! ### the checks -/
def sp_number_within (T : Txt K mg) : Sp := fun vs H Q _ => ∃ k x d lo hi, vs = [x, .int lo, .int hi] ∧ Gd K H k x d ∧ RetV (.bl (within d lo hi)) H Q
theorem len_number_within (T : Txt K mg) {vs H Q E} (h : sp_number_within T vs H Q E) : vs.length = 3 := by obtain ⟨_, _, _, _, _, rfl, _⟩ := h; rfl
theorem v_number_within (T : Txt K mg) {H : Hp} {k : Nat} {x : V} {d : PyData} {lo hi : Int} (g : Gd K H k x d) : SpV (sp_number_within T) [x, .int lo, .int hi] H (.bl (within d lo hi)) := spv fun H1 e Q q E => ⟨k, x, d, lo, hi, rfl, g.ex e, q⟩
def t_number_within (T : Txt K mg) : TS := (tRet (tAndV (tCB (rIsi K) (tCons (tVar 0) (tCons (tC (.ty "int")) tNil))) (tAndV (tNotV (tCB (rIsi K) (tCons (tVar 0) (tCons (tC (.ty "bool")) tNil)))) (tChain rLeI rLeI (tVar 1) (tVar 0) (tVar 2)))))

theorem pure_number_within (T : Txt K mg) {vs H Q} {E : XK} (h : sp_number_within T vs H Q E) : t_number_within T { nx := fun _ H' => Q .non H', rt := Q } (L2.start n_number_within vs) H := by
  obtain ⟨k, x, d, lo, hi, rfl, g, q⟩ := h
  refine s_ret (v := .bl (within d lo hi)) ?_ fun H1 e => q H1 e
  have e0 : Ev (tVar 0) (L2.start n_number_within [x, .int lo, .int hi]) H x := ev_var rfl
  have e1 := ev_isI e0 g
  have e2 := ev_notV (ev_isB e0 g)
  cases d with
  | int i =>
    cases g.dp
    exact ev_is (ev_andV e1 fun _ => ev_andV e2 fun _ => ev_chain (ev_var rfl) e0 (ev_var rfl)) (by simp [isI, isB, within])
  | bool b => exact ev_is (ev_andV (b := false) e1 fun _ => ev_andV (b := false) e2 fun z => by simp [isB] at z) (by simp [isI, isB, within])
  | none => exact ev_is (ev_andV (b := false) e1 fun z => by simp [isI] at z) (by simp [isI, within])
  | str b => exact ev_is (ev_andV (b := false) e1 fun z => by simp [isI] at z) (by simp [isI, within])
  | tuple b => exact ev_is (ev_andV (b := false) e1 fun z => by simp [isI] at z) (by simp [isI, within])
  | list b => exact ev_is (ev_andV (b := false) e1 fun z => by simp [isI] at z) (by simp [isI, within])
  | dict b => exact ev_is (ev_andV (b := false) e1 fun z => by simp [isI] at z) (by simp [isI, within])
theorem ok_number_within (T : Txt K mg) : FnOk P w K mg base CX0 1 T.f_number_within T.fd_number_within ["thing", "low", "high"] (sp_number_within T) :=
  T.d_number_within.F.ok sc_number_within (fun vs H Q E h => len_number_within T h) fun cdv A outer s H vs Q E hr h => ⟨t_number_within T, by
    exact (pss_one (ps_ret (pe_and (pe_callB call_isi (by rfl) T.m_isinstance (by decide +kernel) (pa_cons (pv 0) (pa_cons (pe_bltn (v := .ty "int") (by rfl) T.m_int (by decide +kernel) rfl) pa_nil))) (pe_and (pe_not (pe_callB call_isi (by rfl) T.m_isinstance (by decide +kernel) (pa_cons (pv 0) (pa_cons (pe_bltn (v := .ty "bool") (by rfl) T.m_bool (by decide +kernel) rfl) pa_nil)))) (pe_one (pe_chain op_le op_le (pv 1) (pv 0) (pv 2))))))), pure_number_within T h⟩

def isLen (d : PyData) (m : Int) : Bool := match d with
  | .tuple xs => decide ((xs.length : Int) = m)
  | _ => false
def sp_tuple_of (T : Txt K mg) : Sp := fun vs H Q _ => ∃ k x d m, vs = [x, .int m] ∧ Gd K H k x d ∧ RetV (.bl (isLen d m)) H Q
theorem len_tuple_of (T : Txt K mg) {vs H Q E} (h : sp_tuple_of T vs H Q E) : vs.length = 2 := by obtain ⟨_, _, _, _, rfl, _⟩ := h; rfl
theorem v_tuple_of (T : Txt K mg) {H : Hp} {k : Nat} {x : V} {d : PyData} {m : Int} (g : Gd K H k x d) : SpV (sp_tuple_of T) [x, .int m] H (.bl (isLen d m)) := spv fun H1 e Q q E => ⟨k, x, d, m, rfl, g.ex e, q⟩
def t_tuple_of (T : Txt K mg) : TS := (tRet (tAndV (tCB (rIsi K) (tCons (tVar 0) (tCons (tC (.ty "tuple")) tNil))) (tOp rEq (tCB (rLenV K) (tCons (tVar 0) tNil)) (tVar 1))))

theorem pure_tuple_of (T : Txt K mg) {vs H Q} {E : XK} (h : sp_tuple_of T vs H Q E) : t_tuple_of T { nx := fun _ H' => Q .non H', rt := Q } (L2.start n_tuple_of vs) H := by
  obtain ⟨k, x, d, m, rfl, g, q⟩ := h
  refine s_ret (v := .bl (isLen d m)) ?_ fun H1 e => q H1 e
  have e0 : Ev (tVar 0) (L2.start n_tuple_of [x, .int m]) H x := ev_var rfl
  have e1 := ev_isT e0 g
  cases d with
  | tuple ds =>
    obtain ⟨a, xs, j, rfl, rfl, hs, hl, _⟩ := g.tup
    exact ev_is (ev_andV e1 fun _ => ev_eqI (ev_lenT e0 hs) (ev_var rfl)) (by simp [isT, isLen, hl])
  | bool b => exact ev_is (ev_andV (b := false) e1 fun z => by simp [isT] at z) (by simp [isT, isLen])
  | int b => exact ev_is (ev_andV (b := false) e1 fun z => by simp [isT] at z) (by simp [isT, isLen])
  | none => exact ev_is (ev_andV (b := false) e1 fun z => by simp [isT] at z) (by simp [isT, isLen])
  | str b => exact ev_is (ev_andV (b := false) e1 fun z => by simp [isT] at z) (by simp [isT, isLen])
  | list b => exact ev_is (ev_andV (b := false) e1 fun z => by simp [isT] at z) (by simp [isT, isLen])
  | dict b => exact ev_is (ev_andV (b := false) e1 fun z => by simp [isT] at z) (by simp [isT, isLen])
theorem ok_tuple_of (T : Txt K mg) : FnOk P w K mg base CX0 1 T.f_tuple_of T.fd_tuple_of ["thing", "many"] (sp_tuple_of T) :=
  T.d_tuple_of.F.ok sc_tuple_of (fun vs H Q E h => len_tuple_of T h) fun cdv A outer s H vs Q E hr h => ⟨t_tuple_of T, by
    exact (pss_one (ps_ret (pe_and (pe_callB call_isi (by rfl) T.m_isinstance (by decide +kernel) (pa_cons (pv 0) (pa_cons (pe_bltn (v := .ty "tuple") (by rfl) T.m_tuple (by decide +kernel) rfl) pa_nil))) (pe_one (pe_cmpR op_eq (pe_callB call_len (by rfl) T.m_len (by decide +kernel) (pa_cons (pv 0) pa_nil)) (pv 1) (nomark _)))))), pure_tuple_of T h⟩

end
end My


set_option maxHeartbeats 1000000
namespace My
open PySem PySem.Spec PyProof.Rows L2 Own LamX
open Evl (Ex RetV)
section
variable {P : Program} {w : World} {K : PySem.W.Frag} {mg : Str → Option Value} {base : Heap}

open Evl
def primeD (d : PyData) : Bool := match d with
  | .int p => decide (2 ≤ p) && decide (p ≤ 1000003) && noDiv p
  | _ => false
def sp_is_prime (T : Txt K mg) : Sp := fun vs H Q _ => ∃ k x d, vs = [x] ∧ Gd K H k x d ∧ RetV (.bl (primeD d)) H Q
theorem len_is_prime (T : Txt K mg) {vs H Q E} (h : sp_is_prime T vs H Q E) : vs.length = 1 := by obtain ⟨_, _, _, rfl, _⟩ := h; rfl
theorem v_is_prime (T : Txt K mg) {H : Hp} {k : Nat} {x : V} {d : PyData} (g : Gd K H k x d) : SpV (sp_is_prime T) [x] H (.bl (primeD d)) := spv fun H1 e Q q E => ⟨k, x, d, rfl, g.ex e, q⟩
def t_is_prime (T : Txt K mg) : TS := (tSeq (tIfS (tNot (tB (tCall (sp_number_within T) [] E0 (tCons (tVar 0) (tCons (tC (.int 2)) (tCons (tC (.int 1000003)) tNil)))))) (tRet (tC (.bl false))) tNext) (tSeq (tIfS (tTest (tOp rLtI (tVar 0) (tC (.int 4)))) (tRet (tC (.bl true))) tNext) (tSeq (tIfS (tTest (tOp rEq (tOp rModI (tVar 0) (tC (.int 2))) (tC (.int 0)))) (tRet (tC (.bl false))) tNext) (tSeq (tAsg (tC (.int 3)) (gName 1)) (tSeq (tWhile (tTest (tOp rLeI (tOp rMulI (tVar 1) (tVar 1)) (tVar 0))) (tSeq (tIfS (tTest (tOp rEq (tOp rModI (tVar 0) (tVar 1)) (tC (.int 0)))) (tRet (tC (.bl false))) tNext) (tAug 1 (tC (.int 2)) (ipI fun i j => i + j)))) (tRet (tC (.bl true))))))))

theorem within_int {d : PyData} {lo hi : Int} (h : within d lo hi = true) : ∃ i, d = .int i ∧ lo ≤ i ∧ i ≤ hi := by
  cases d <;> simp [within] at h
  exact ⟨_, rfl, h.1, h.2⟩
theorem pure_is_prime (T : Txt K mg) {vs H Q} {E : XK} (h : sp_is_prime T vs H Q E) : t_is_prime T { nx := fun _ H' => Q .non H', rt := Q } (L2.start n_is_prime vs) H := by
  obtain ⟨k, x, d, rfl, g, q⟩ := h
  -- if not number_within(p, 2, GREATEST_PRIME)
  refine q_when (et_not (et_B (ev_call (ea_3 (ev_var rfl) ev_c ev_c) (v_number_within T g)))) (fun c H1 e1 => ?_) (fun c H1 e1 => ?_)
  · refine s_ret ev_c fun H2 e2 => ?_
    have z : primeD d = false := by
      have c' : within d 2 1000003 = false := by simpa using c
      cases d <;> simp [primeD, within] at c' ⊢
      intro h1 h2
      exact absurd h2 (by have := c' h1; omega)
    rw [← z]
    exact q H2 (e1.trans e2)
  · obtain ⟨p, rfl, h2, h3⟩ := within_int (by simpa using c : within d 2 1000003 = true)
    have g1 := g.ex e1
    cases g.dp
    have P : primeD (.int p) = noDiv p := by simp [primeD, h2, h3]
    rw [P] at q
    have q1 := fun H2 (e : Ex H1 H2) => q H2 (e1.trans e)
    -- if p < 4
    refine q_when (ev_ltI (ev_var rfl) ev_c) (fun c H2 e2 => ?_) (fun c H2 e2 => ?_)
    · refine s_ret ev_c fun H3 e3 => ?_
      rw [← noDiv_small h2 (of_decide_eq_true c)]
      exact q1 H3 (e2.trans e3)
    · have h4 : 4 ≤ p := by have := of_decide_eq_false c; omega
      -- if p % 2 == 0
      refine q_when (et_eqI (ev_modI (ev_var rfl) ev_c (by decide)) ev_c) (fun c H3 e3 => ?_) (fun c H3 e3 => ?_)
      · refine s_ret ev_c fun H4 e4 => ?_
        rw [← noDiv_even h4 h3 (of_decide_eq_true c)]
        exact q1 H4 ((e2.trans e3).trans e4)
      · have odd : p % 2 ≠ 0 := of_decide_eq_false c
        -- divisor = 3
        refine q_asg ev_c fun H4 e4 => ?_
        have E4 := (e2.trans e3).trans e4
        refine q_while (fun m σ' H' => ∃ v : Int, σ' = [some (.int p), some (.int v)] ∧ Sought p v ∧ v ≤ 1003 ∧ m = (1100 - v).toNat ∧ Ex H1 H') (1100 - 3 : Int).toNat ⟨3, rfl, Sought.start odd, by omega, rfl, E4⟩ ?_
        rintro m σ' H' ⟨v, rfl, s, hv, rfl, e'⟩
        have s3 := s.2.1
        refine ⟨_, ev_leI (ev_mulI (ev_var rfl) (ev_var rfl) (.inl ⟨by omega, by omega⟩)) (ev_var rfl), fun c H5 e5 => ?_, fun c H5 e5 => ?_⟩
        · have le := of_decide_eq_true c
          have small := s.small h3 le
          refine ⟨fun σ' H' => ∃ v' : Int, v' = v + 2 ∧ σ' = [some (.int p), some (.int v')] ∧ Sought p v' ∧ Ex H1 H', ?_, ?_⟩
          · rintro σ2 H2' ⟨v', rfl, rfl, s', e''⟩
            exact ⟨(1100 - (v + 2)).toNat, by omega, v + 2, rfl, s', by omega, rfl, e''⟩
          · refine q_when (et_eqI (ev_modI (ev_var rfl) (ev_var rfl) (by omega)) ev_c) (fun c H6 e6 => ?_) (fun c H6 e6 => ?_)
            · refine s_ret ev_c fun H7 e7 => ?_
              rw [← noDiv_found h3 (by omega) le (of_decide_eq_true c)]
              exact q1 H7 (((e'.trans e5).trans e6).trans e7)
            · exact ⟨_, rfl, v, 2, rfl, rfl, v + 2, rfl, rfl, s.next odd (of_decide_eq_false c), (e'.trans e5).trans e6⟩
        · refine s_ret ev_c fun H6 e6 => ?_
          rw [← s.done h3 (of_decide_eq_false c)]
          exact q1 H6 ((e'.trans e5).trans e6)
theorem ok_is_prime (T : Txt K mg) : FnOk P w K mg base CX0 2 T.f_is_prime T.fd_is_prime ["p"] (sp_is_prime T) :=
  T.d_is_prime.F.ok sc_is_prime (fun vs H Q E h => len_is_prime T h) fun cdv A outer s H vs Q E hr h => ⟨t_is_prime T, by
    exact (pss_cons (ps_if (pt_not (pt_val (pe_call (ok_number_within T) (hr.mono (by decide)) (by rfl) T.d_number_within.g T.d_number_within.F.kp T.d_number_within.b .nil pass0 (pa_cons (pv 0) (pa_cons pe_int (pa_cons (pe_glob (v := .int 1000003) (by rfl) T.v_GREATEST_PRIME ⟨_, rfl⟩) pa_nil)))))) (pss_one (ps_ret pe_bl)) pss_nil) (pss_cons (ps_if (pt_cmpR op_lt (pv 0) pe_int (nomark _)) (pss_one (ps_ret pe_bl)) pss_nil) (pss_cons (ps_if (pt_cmpR op_eq (pe_op op_mod (pv 0) pe_int) pe_int (nomark _)) (pss_one (ps_ret pe_bl)) pss_nil) (pss_cons (ps_set (i := 1) sc_is_prime.nd rfl (Or.inl rfl) pe_int) (pss_cons (ps_while PassesOwn.never (pt_cmpR op_le (pe_op op_mul (pv 1) (pv 1)) (pv 0) (nomark _)) (pss_cons (ps_if (pt_cmpR op_eq (pe_op op_mod (pv 0) (pv 1)) pe_int (nomark _)) (pss_one (ps_ret pe_bl)) pss_nil) (pss_one (ps_aug (i := 1) sc_is_prime.nd rfl (Or.inl rfl) pe_int ip_add)))) (pss_one (ps_ret pe_bl))))))), pure_is_prime T h⟩

def lawPrime (d : PyData) : Bool := within d 5 1000003 && primeD d
end
end My


set_option maxHeartbeats 1000000
namespace My
open PySem PySem.Spec PyProof.Rows L2 Own LamX
open Evl (Ex RetV)
section
variable {P : Program} {w : World} {K : PySem.W.Frag} {mg : Str → Option Value} {base : Heap}

open Evl
def rowD (d : PyData) (n p : Int) : Bool := match d with
  | .tuple xs => decide ((xs.length : Int) = n) && xs.all fun x => within x 0 (p - 1)
  | _ => false
def tableD (d : PyData) (n p : Int) : Bool := match d with
  | .tuple rows => decide (rows.length ≤ 8) && rows.all fun r => rowD r n p
  | _ => false
def sp_numbers_fit (T : Txt K mg) : Sp := fun vs H Q _ => ∃ k x d n p, vs = [x, .int n, .int p] ∧ Gd K H k x d ∧ RetV (.bl (rowD d n p)) H Q
theorem len_numbers_fit (T : Txt K mg) {vs H Q E} (h : sp_numbers_fit T vs H Q E) : vs.length = 3 := by obtain ⟨_, _, _, _, _, rfl, _⟩ := h; rfl
theorem v_numbers_fit (T : Txt K mg) {H : Hp} {k : Nat} {x : V} {d : PyData} {n p : Int} (g : Gd K H k x d) : SpV (sp_numbers_fit T) [x, .int n, .int p] H (.bl (rowD d n p)) := spv fun H1 e Q q E => ⟨k, x, d, n, p, rfl, g.ex e, q⟩
def t_numbers_fit (T : Txt K mg) : TS := (tRet (tAndV (tCall (sp_tuple_of T) [] E0 (tCons (tVar 0) (tCons (tVar 1) tNil))) (tCB (rAll K) (tCons (tLc (iTup K (tVar 0)) (gName 3) tYes (tCall (sp_number_within T) [] E0 (tCons (tVar 3) (tCons (tC (.int 0)) (tCons (tOp rSubI (tVar 2) (tC (.int 1))) tNil)))) [3]) tNil))))

theorem pure_numbers_fit (T : Txt K mg) {vs H Q} {E : XK} (h : sp_numbers_fit T vs H Q E) : t_numbers_fit T { nx := fun _ H' => Q .non H', rt := Q } (L2.start n_numbers_fit vs) H := by
  obtain ⟨k, x, d, n, p, rfl, g, q⟩ := h
  refine s_ret (v := .bl (rowD d n p)) ?_ fun H1 e => q H1 e
  have e1 : Ev (tCall (sp_tuple_of T) [] E0 (tCons (tVar 0) (tCons (tVar 1) tNil))) (L2.start n_numbers_fit [x, .int n, .int p]) H (.bl (isLen d n)) := ev_call (ea_2 (ev_var rfl) (ev_var rfl)) (v_tuple_of T g)
  cases d with
  | tuple ds =>
    obtain ⟨a, xs, j, rfl, rfl, hs, hl, h20, _, _, hx⟩ := g.tup
    refine ev_is (ev_andV (b := ds.all fun d => within d 0 (p - 1)) e1 fun _ => ?_) (by simp [isLen, rowD])
    rw [← all_id]
    refine ev_allB ?_
    rw [← given_bools ds .none, ← hl]
    refine el_lcTp _ _ (ev_var rfl) hs (by omega) (fun x => rfl) (fun i y H1 e hy => et_yes) fun i y H1 e hy _ => ?_
    obtain ⟨d, hd, gd⟩ := hx i y hy
    rw [getD_at hd]
    exact ev_call (ea_3 (ev_var rfl) ev_c (ev_subI (ev_var rfl) ev_c)) (v_number_within T (gd.ex e))
  | bool b => exact ev_is (ev_andV (b := false) e1 fun z => by simp [isLen] at z) (by simp [isLen, rowD])
  | int b => exact ev_is (ev_andV (b := false) e1 fun z => by simp [isLen] at z) (by simp [isLen, rowD])
  | none => exact ev_is (ev_andV (b := false) e1 fun z => by simp [isLen] at z) (by simp [isLen, rowD])
  | str b => exact ev_is (ev_andV (b := false) e1 fun z => by simp [isLen] at z) (by simp [isLen, rowD])
  | list b => exact ev_is (ev_andV (b := false) e1 fun z => by simp [isLen] at z) (by simp [isLen, rowD])
  | dict b => exact ev_is (ev_andV (b := false) e1 fun z => by simp [isLen] at z) (by simp [isLen, rowD])
theorem ok_numbers_fit (T : Txt K mg) : FnOk P w K mg base CX0 2 T.f_numbers_fit T.fd_numbers_fit ["thing", "many", "p"] (sp_numbers_fit T) :=
  T.d_numbers_fit.F.ok sc_numbers_fit (fun vs H Q E h => len_numbers_fit T h) fun cdv A outer s H vs Q E hr h => ⟨t_numbers_fit T, by
    exact (pss_one (ps_ret (pe_and (pe_call (ok_tuple_of T) (hr.mono (by decide)) (by rfl) T.d_tuple_of.g T.d_tuple_of.F.kp T.d_tuple_of.b .nil pass0 (pa_cons (pv 0) (pa_cons (pv 1) pa_nil))) (pe_one (pe_callB (cr_all rfl) (by rfl) T.m_all (by decide +kernel) (pa_cons (pe_lc (own := [("number", 3)]) (g := (gName 3)) (tt := tYes) (te := (tCall (sp_number_within T) [] E0 (tCons (tVar 3) (tCons (tC (.int 0)) (tCons (tOp rSubI (tVar 2) (tC (.int 1))) tNil))))) rfl sc_numbers_fit.nd (pi_tup (pv 0)) (blkOk_by (own := [("number", 3)]) (N := n_numbers_fit) (sc := defScope s_numbers_fit) (by decide +kernel)) (fun _ _ _ _ _ => (pg_name (i := 3) sc_numbers_fit.nd rfl (Or.inl rfl))) (fun _ _ _ _ _ => pts_nil) (fun _ _ _ _ _ => (pe_call (ok_number_within T) (hr.mono (by decide)) (by rfl) T.d_number_within.g T.d_number_within.F.kp T.d_number_within.b .nil pass0 (pa_cons (pv 3) (pa_cons pe_int (pa_cons (pe_op op_sub (pv 2) pe_int) pa_nil)))))) pa_nil)))))), pure_numbers_fit T h⟩

def sp_table_fits (T : Txt K mg) : Sp := fun vs H Q _ => ∃ k x d n p, vs = [x, .int n, .int p] ∧ Gd K H k x d ∧ RetV (.bl (tableD d n p)) H Q
theorem len_table_fits (T : Txt K mg) {vs H Q E} (h : sp_table_fits T vs H Q E) : vs.length = 3 := by obtain ⟨_, _, _, _, _, rfl, _⟩ := h; rfl
theorem v_table_fits (T : Txt K mg) {H : Hp} {k : Nat} {x : V} {d : PyData} {n p : Int} (g : Gd K H k x d) : SpV (sp_table_fits T) [x, .int n, .int p] H (.bl (tableD d n p)) := spv fun H1 e Q q E => ⟨k, x, d, n, p, rfl, g.ex e, q⟩
/-- isinstance(x, tuple) and no more than 8 -/
theorem table_first {d : PyData} {n p : Int} (h : isT d = false) : tableD d n p = false := by cases d <;> simp [isT, tableD] at h ⊢
theorem row_first {d : PyData} {n p : Int} (h : isT d = false) : rowD d n p = false := by cases d <;> simp [isT, rowD] at h ⊢
theorem isT_tuple {d : PyData} (h : isT d = true) : ∃ ds, d = .tuple ds := by cases d <;> simp [isT] at h; exact ⟨_, rfl⟩
def t_table_fits (T : Txt K mg) : TS := (tSeq (tIfS (tOr (tNot (tB (tCB (rIsi K) (tCons (tVar 0) (tCons (tC (.ty "tuple")) tNil))))) (tTest (tOp rGtI (tCB (rLenV K) (tCons (tVar 0) tNil)) (tC (.int 8))))) (tRet (tC (.bl false))) tNext) (tRet (tCB (rAll K) (tCons (tLc (iTup K (tVar 0)) (gName 3) tYes (tCall (sp_numbers_fit T) [] E0 (tCons (tVar 3) (tCons (tVar 1) (tCons (tVar 2) tNil)))) [3]) tNil))))

theorem pure_table_fits (T : Txt K mg) {vs H Q} {E : XK} (h : sp_table_fits T vs H Q E) : t_table_fits T { nx := fun _ H' => Q .non H', rt := Q } (L2.start n_table_fits vs) H := by
  obtain ⟨k, x, d, n, p, rfl, g, q⟩ := h
  have i1 : EvT (tNot (tB (tCB (rIsi K) (tCons (tVar 0) (tCons (tC (.ty "tuple")) tNil))))) (L2.start n_table_fits [x, .int n, .int p]) H (!isT d) := et_not (et_B (ev_isT (ev_var rfl) g))
  cases hT : isT d with
  | false =>
    refine q_when (et_false_or i1 (by rw [hT]; rfl)) (fun c H1 e1 => ?_) (fun c => by cases c)
    refine s_ret ev_c fun H2 e2 => ?_
    rw [← table_first (n := n) (p := p) hT]
    exact q H2 (e1.trans e2)
  | true =>
    obtain ⟨ds, rfl⟩ := isT_tuple hT
    obtain ⟨a, xs, j, rfl, rfl, hs, hl, h20, _, _, hx⟩ := g.tup
    refine q_when (et_or i1 fun _ => ev_gtI (ev_lenT (ev_var rfl) hs) ev_c) (fun c H1 e1 => ?_) (fun c H1 e1 => ?_)
    · refine s_ret ev_c fun H2 e2 => ?_
      have z : tableD (.tuple ds) n p = false := by
        have c' : 8 < (xs.length : Int) := by simpa [isT] using c
        have : ¬ ds.length ≤ 8 := by omega
        simp [tableD, this]
      rw [← z]
      exact q H2 (e1.trans e2)
    · have c' : ds.length ≤ 8 := by
        have c' : (xs.length : Int) ≤ 8 := by simpa [isT] using c
        omega
      have z : tableD (.tuple ds) n p = ds.all fun r => rowD r n p := by simp [tableD, c']
      rw [z] at q
      refine s_ret (v := .bl (ds.all fun r => rowD r n p)) ?_ fun H2 e2 => q H2 (e1.trans e2)
      rw [← all_id]
      refine ev_allB ?_
      rw [← given_bools ds .none, ← hl]
      refine el_lcTp _ _ (ev_var rfl) (ex_t e1 hs) (by omega) (fun x => rfl) (fun i y H1 e hy => et_yes) fun i y H2 e hy _ => ?_
      obtain ⟨d, hd, gd⟩ := hx i y hy
      rw [getD_at hd]
      exact ev_call (ea_3 (ev_var rfl) (ev_var rfl) (ev_var rfl)) (v_numbers_fit T ((gd.ex e1).ex e))
theorem ok_table_fits (T : Txt K mg) : FnOk P w K mg base CX0 3 T.f_table_fits T.fd_table_fits ["table", "n", "p"] (sp_table_fits T) :=
  T.d_table_fits.F.ok sc_table_fits (fun vs H Q E h => len_table_fits T h) fun cdv A outer s H vs Q E hr h => ⟨t_table_fits T, by
    exact (pss_cons (ps_if (PW.pt (pw_or (pt_not (pt_val (pe_callB call_isi (by rfl) T.m_isinstance (by decide +kernel) (pa_cons (pv 0) (pa_cons (pe_bltn (v := .ty "tuple") (by rfl) T.m_tuple (by decide +kernel) rfl) pa_nil))))) (pw_or1 (pt_cmpR op_gt (pe_callB call_len (by rfl) T.m_len (by decide +kernel) (pa_cons (pv 0) pa_nil)) pe_int (nomark _))))) (pss_one (ps_ret pe_bl)) pss_nil) (pss_one (ps_ret (pe_callB (cr_all rfl) (by rfl) T.m_all (by decide +kernel) (pa_cons (pe_lc (own := [("row", 3)]) (g := (gName 3)) (tt := tYes) (te := (tCall (sp_numbers_fit T) [] E0 (tCons (tVar 3) (tCons (tVar 1) (tCons (tVar 2) tNil))))) rfl sc_table_fits.nd (pi_tup (pv 0)) (blkOk_by (own := [("row", 3)]) (N := n_table_fits) (sc := defScope s_table_fits) (by decide +kernel)) (fun _ _ _ _ _ => (pg_name (i := 3) sc_table_fits.nd rfl (Or.inl rfl))) (fun _ _ _ _ _ => pts_nil) (fun _ _ _ _ _ => (pe_call (ok_numbers_fit T) (hr.mono (by decide)) (by rfl) T.d_numbers_fit.g T.d_numbers_fit.F.kp T.d_numbers_fit.b .nil pass0 (pa_cons (pv 3) (pa_cons (pv 1) (pa_cons (pv 2) pa_nil)))))) pa_nil))))), pure_table_fits T h⟩

theorem all_take {α : Type} {ds : List α} {f : α → Bool} {i : Nat} {d : α} (h : ds[i]? = some d) (h1 : (ds.take i).all f = true) (h2 : f d = true) : (ds.take (i + 1)).all f = true := by
  rw [List.take_add_one, h]
  simp [h1, h2]
theorem all_no {α : Type} {ds : List α} {f : α → Bool} {i : Nat} {d : α} (h : ds[i]? = some d) (h2 : f d = false) : ds.all f = false :=
  Bool.eq_false_iff.mpr fun z => by
    have := List.all_eq_true.mp z d (List.mem_of_getElem? h)
    rw [h2] at this
    cases this
end
end My


set_option maxHeartbeats 1000000
namespace My
open PySem PySem.Spec PyProof.Rows L2 Own LamX
open Evl (Ex RetV)
section
variable {P : Program} {w : World} {K : PySem.W.Frag} {mg : Str → Option Value} {base : Heap}

open Evl
def intOf : PyData → Int
  | .int i => i
  | _ => 0
def kOk (k n : PyData) : Bool := within k 1 3 && decide (intOf k ≤ intOf n)
def mOk (m e : PyData) : Bool := within m 0 1 && !(decide (intOf m = 1) && decide (0 < intOf e))
theorem mOk_int {a b : Int} : mOk (.int a) (.int b) = (within (.int a) 0 1 && !(decide (a = 1) && decide (0 < b))) := rfl
def fault7 (p w n k e m t : PyData) : Option Int :=
  if lawPrime p = false then some 0 else if within w 1 16 = false then some 1 else if within n 1 8 = false then some 2 else if kOk k n = false then some 3
  else if within e 0 2 = false then some 4 else if mOk m e = false then some 5 else if tableD t (intOf n) (intOf p) = false then some 6 else none
def fault : PyData → Option Int
  | .tuple [p, w, n, k, e, m, t] => fault7 p w n k e m t
  | _ => some (-1)
theorem fault_no {d : PyData} (h : isLen d 7 = false) : fault d = some (-1) := by
  cases d with
  | tuple ds =>
    match ds, h with
    | [], _ => rfl
    | [_], _ => rfl
    | [_, _], _ => rfl
    | [_, _, _], _ => rfl
    | [_, _, _, _], _ => rfl
    | [_, _, _, _, _], _ => rfl
    | [_, _, _, _, _, _], _ => rfl
    | [_, _, _, _, _, _, _], h => simp [isLen] at h
    | _ :: _ :: _ :: _ :: _ :: _ :: _ :: _ :: _, _ => rfl
  | _ => rfl
theorem seven {d : PyData} (h : isLen d 7 = true) : ∃ p w n k e m t, d = .tuple [p, w, n, k, e, m, t] := by
  cases d with
  | tuple ds =>
    have l : ds.length = 7 := by
      have : (ds.length : Int) = 7 := by simpa [isLen] using h
      omega
    match ds, l with
    | [p, w, n, k, e, m, t], _ => exact ⟨p, w, n, k, e, m, t, rfl⟩
  | _ => simp [isLen] at h
theorem gdAll7 {K : PySem.W.Frag} {H : Hp} {k : Nat} {xs : List V} {p w n l e m t : PyData} (hl : xs.length = 7) (h : ∀ (i : Nat) (x : V), xs[i]? = some x → ∃ d, [p, w, n, l, e, m, t][i]? = some d ∧ Gd K H k x d) :
    ∃ x0 x1 x2 x3 x4 x5 x6, xs = [x0, x1, x2, x3, x4, x5, x6] ∧ Gd K H k x0 p ∧ Gd K H k x1 w ∧ Gd K H k x2 n ∧ Gd K H k x3 l ∧ Gd K H k x4 e ∧ Gd K H k x5 m ∧ Gd K H k x6 t := by
  match xs, hl with
  | [x0, x1, x2, x3, x4, x5, x6], _ =>
    have f : ∀ (i : Nat) (x : V) (d : PyData), [x0, x1, x2, x3, x4, x5, x6][i]? = some x → [p, w, n, l, e, m, t][i]? = some d → Gd K H k x d := fun i x d h1 h2 => by
      obtain ⟨d', h3, g⟩ := h i x h1
      rw [h2] at h3
      injection h3 with h3
      rw [h3]
      exact g
    exact ⟨x0, x1, x2, x3, x4, x5, x6, rfl, f 0 _ _ rfl rfl, f 1 _ _ rfl rfl, f 2 _ _ rfl rfl, f 3 _ _ rfl rfl, f 4 _ _ rfl rfl, f 5 _ _ rfl rfl, f 6 _ _ rfl rfl⟩
theorem lawPrime_int {d : PyData} (h : lawPrime d = true) : ∃ p, d = .int p ∧ 5 ≤ p ∧ p ≤ 1000003 := by
  obtain ⟨h1, _⟩ := Bool.and_eq_true_iff.mp h
  exact within_int h1
/-- the program's two questions of a prime are the law's one -/
theorem prime_five {d : PyData} {i : Int} (h : primeD d = true) (e : d = .int i) : lawPrime d = !decide (i < 5) := by
  subst e
  have h' := h
  simp only [primeD, Bool.and_eq_true, decide_eq_true_eq] at h'
  unfold lawPrime
  rw [h, Bool.and_true]
  by_cases c : i < 5
  · simp [within, c]; omega
  · simp [within, c]; omega
theorem prime_int {d : PyData} (h : primeD d = true) : ∃ i, d = .int i := by cases d <;> simp [primeD] at h; exact ⟨_, rfl⟩
theorem prime_no {d : PyData} (h : primeD d = false) : lawPrime d = false := by simp [lawPrime, h]
theorem kOk_prog {k n : PyData} {i : Int} (e : n = .int i) : within k 1 (if i < 3 then i else 3) = kOk k n := by
  subst e
  cases k <;> simp [within, kOk, intOf]
  rename_i j
  split <;> rename_i c <;> · by_cases h1 : 1 ≤ j <;> by_cases h2 : j ≤ i <;> by_cases h3 : j ≤ 3 <;> simp [h1, h2, h3] <;> omega
def sp_shape_fault (T : Txt K mg) : Sp := fun vs H Q _ => ∃ k x d, vs = [x] ∧ Gd K H k x d ∧ RetV (optV (fault d)) H Q
theorem len_shape_fault (T : Txt K mg) {vs H Q E} (h : sp_shape_fault T vs H Q E) : vs.length = 1 := by obtain ⟨_, _, _, rfl, _⟩ := h; rfl
theorem v_shape_fault (T : Txt K mg) {H : Hp} {k : Nat} {x : V} {d : PyData} (g : Gd K H k x d) : SpV (sp_shape_fault T) [x] H (optV (fault d)) := spv fun H1 e Q q E => ⟨k, x, d, rfl, g.ex e, q⟩
theorem ev_neg1 {σ : L2.St} {H : Hp} : Ev (tUn rNegI (tC (.int 1))) σ H (.int (-1)) := fun H1 e Q q => ⟨1, rfl, q H1 (.refl _)⟩
def t_shape_fault (T : Txt K mg) : TS := (tSeq (tIfS (tNot (tB (tCall (sp_tuple_of T) [] E0 (tCons (tVar 0) (tCons (tC (.int 7)) tNil))))) (tRet (tUn rNegI (tC (.int 1)))) tNext) (tSeq (tAsg (tVar 0) (gTup K 7 (gCons (gName 1) (gCons (gName 2) (gCons (gName 3) (gCons (gName 4) (gCons (gName 5) (gCons (gName 6) (gCons (gName 7) gNil))))))))) (tSeq (tIfS (tOr (tNot (tB (tCall (sp_is_prime T) [] E0 (tCons (tVar 1) tNil)))) (tTest (tOp rLtI (tVar 1) (tC (.int 5))))) (tRet (tC (.int 0))) tNext) (tSeq (tIfS (tNot (tB (tCall (sp_number_within T) [] E0 (tCons (tVar 2) (tCons (tC (.int 1)) (tCons (tC (.int 16)) tNil)))))) (tRet (tC (.int 1))) tNext) (tSeq (tIfS (tNot (tB (tCall (sp_number_within T) [] E0 (tCons (tVar 3) (tCons (tC (.int 1)) (tCons (tC (.int 8)) tNil)))))) (tRet (tC (.int 2))) tNext) (tSeq (tIfS (tNot (tB (tCall (sp_number_within T) [] E0 (tCons (tVar 4) (tCons (tC (.int 1)) (tCons (tCB rMin2 (tCons (tC (.int 3)) (tCons (tVar 3) tNil))) tNil)))))) (tRet (tC (.int 3))) tNext) (tSeq (tIfS (tNot (tB (tCall (sp_number_within T) [] E0 (tCons (tVar 5) (tCons (tC (.int 0)) (tCons (tC (.int 2)) tNil)))))) (tRet (tC (.int 4))) tNext) (tSeq (tIfS (tOr (tNot (tB (tCall (sp_number_within T) [] E0 (tCons (tVar 6) (tCons (tC (.int 0)) (tCons (tC (.int 1)) tNil)))))) (tAnd (tTest (tOp rEq (tVar 6) (tC (.int 1)))) (tTest (tOp rGtI (tVar 5) (tC (.int 0)))))) (tRet (tC (.int 5))) tNext) (tSeq (tIfS (tNot (tB (tCall (sp_table_fits T) [] E0 (tCons (tVar 7) (tCons (tVar 3) (tCons (tVar 1) tNil)))))) (tRet (tC (.int 6))) tNext) (tRet (tC .non)))))))))))

theorem pure_shape_fault (T : Txt K mg) {vs H Q} {E : XK} (h : sp_shape_fault T vs H Q E) : t_shape_fault T { nx := fun _ H' => Q .non H', rt := Q } (L2.start n_shape_fault vs) H := by
  obtain ⟨k, x, d, rfl, g, q⟩ := h
  refine q_when (et_not (et_B (ev_call (ea_2 (ev_var rfl) ev_c) (v_tuple_of T g)))) (fun c H1 e1 => ?_) (fun c H1 e1 => ?_)
  · refine s_ret ev_neg1 fun H2 e2 => ?_
    have z := fault_no (show isLen d 7 = false by simpa using c)
    rw [z] at q
    exact q H2 (e1.trans e2)
  · obtain ⟨p, w', n, l, e, m, t, rfl⟩ := seven (show isLen d 7 = true by simpa using c)
    obtain ⟨a, xs, j, rfl, rfl, hs, hl, _, _, _, hx⟩ := (g.ex e1).tup
    obtain ⟨x0, x1, x2, x3, x4, x5, x6, rfl, g0, g1, g2, g3, g4, g5, g6⟩ := gdAll7 hl hx
    have q1 : RetV (optV (fault7 p w' n l e m t)) H1 Q := fun H2 e2 => q H2 (e1.trans e2)
    refine ⟨.ref a, rfl, a, _, rfl, hs, rfl, x0, _, rfl, x1, _, rfl, x2, _, rfl, x3, _, rfl, x4, _, rfl, x5, _, rfl, x6, _, rfl, rfl, ?_⟩
    -- if not is_prime(p) or p < 5
    have i1 : EvT (tOr (tNot (tB (tCall (sp_is_prime T) [] E0 (tCons (tVar 1) tNil)))) (tTest (tOp rLtI (tVar 1) (tC (.int 5))))) [some (.ref a), some x0, some x1, some x2, some x3, some x4, some x5, some x6] H1 (!lawPrime p) := by
      have i0 : EvT (tNot (tB (tCall (sp_is_prime T) [] E0 (tCons (tVar 1) tNil)))) [some (.ref a), some x0, some x1, some x2, some x3, some x4, some x5, some x6] H1 (!primeD p) := et_not (et_B (ev_call (ea_1 (ev_var rfl)) (v_is_prime T g0)))
      cases hP : primeD p with
      | false => exact et_is (et_false_or i0 (by rw [hP]; rfl)) (by rw [prime_no hP]; rfl)
      | true =>
        obtain ⟨i, rfl⟩ := prime_int hP
        cases g0.dp
        exact et_is (et_or i0 fun _ => ev_ltI (ev_var rfl) ev_c) (by rw [prime_five hP rfl, hP]; simp)
    refine q_when i1 (fun c H2 e2 => ?_) (fun c H2 e2 => ?_)
    · refine s_ret ev_c fun H3 e3 => ?_
      rw [show fault7 p w' n l e m t = some 0 by have c : lawPrime p = false := by simpa using c
                                                 simp [fault7, c]] at q1
      exact q1 H3 (e2.trans e3)
    · have hp : lawPrime p = true := by simpa using c
      obtain ⟨i, rfl, _, _⟩ := lawPrime_int hp
      cases g0.dp
      have q2 : RetV (optV (fault7 (.int i) w' n l e m t)) H2 Q := fun H3 e3 => q1 H3 (e2.trans e3)
      clear q1 q i1
      replace g1 := g1.ex e2; replace g2 := g2.ex e2; replace g3 := g3.ex e2; replace g4 := g4.ex e2; replace g5 := g5.ex e2; replace g6 := g6.ex e2
      -- wide
      refine q_when (et_not (et_B (ev_call (ea_3 (ev_var rfl) ev_c ev_c) (v_number_within T g1)))) (fun c H3 e3 => ?_) (fun c H3 e3 => ?_)
      · refine s_ret ev_c fun H4 e4 => ?_
        rw [show fault7 (.int i) w' n l e m t = some 1 by have c : within w' 1 16 = false := by simpa using c
                                                          simp [fault7, hp, c]] at q2
        exact q2 H4 (e3.trans e4)
      have c1 : within w' 1 16 = true := by simpa using c
      -- n
      refine q_when (et_not (et_B (ev_call (ea_3 (ev_var rfl) ev_c ev_c) (v_number_within T (g2.ex e3))))) (fun c H4 e4 => ?_) (fun c H4 e4 => ?_)
      · refine s_ret ev_c fun H5 e5 => ?_
        rw [show fault7 (.int i) w' n l e m t = some 2 by have c : within n 1 8 = false := by simpa using c
                                                          simp [fault7, hp, c1, c]] at q2
        exact q2 H5 ((e3.trans e4).trans e5)
      have c2 : within n 1 8 = true := by simpa using c
      obtain ⟨ni, rfl, n1, n8⟩ := within_int c2
      cases g2.dp
      have E4 := e3.trans e4
      -- k
      refine q_when (et_not (et_B (ev_call (ea_3 (ev_var rfl) ev_c (ev_min2 ev_c (ev_var rfl))) (v_number_within T (g3.ex E4))))) (fun c H5 e5 => ?_) (fun c H5 e5 => ?_)
      · refine s_ret ev_c fun H6 e6 => ?_
        rw [kOk_prog (n := .int ni) rfl] at c
        rw [show fault7 (.int i) w' (.int ni) l e m t = some 3 by have c : kOk l (.int ni) = false := by simpa using c
                                                                  simp [fault7, hp, c1, c2, c]] at q2
        exact q2 H6 ((E4.trans e5).trans e6)
      rw [kOk_prog (n := .int ni) rfl] at c
      have c3 : kOk l (.int ni) = true := by simpa using c
      have E5 := E4.trans e5
      -- e
      refine q_when (et_not (et_B (ev_call (ea_3 (ev_var rfl) ev_c ev_c) (v_number_within T (g4.ex E5))))) (fun c H6 e6 => ?_) (fun c H6 e6 => ?_)
      · refine s_ret ev_c fun H7 e7 => ?_
        rw [show fault7 (.int i) w' (.int ni) l e m t = some 4 by have c : within e 0 2 = false := by simpa using c
                                                                  simp [fault7, hp, c1, c2, c3, c]] at q2
        exact q2 H7 ((E5.trans e6).trans e7)
      have c4 : within e 0 2 = true := by simpa using c
      obtain ⟨ei, rfl, _, _⟩ := within_int c4
      cases g4.dp
      have E6 := E5.trans e6
      -- manner
      have i5 : EvT (tOr (tNot (tB (tCall (sp_number_within T) [] E0 (tCons (tVar 6) (tCons (tC (.int 0)) (tCons (tC (.int 1)) tNil)))))) (tAnd (tTest (tOp rEq (tVar 6) (tC (.int 1)))) (tTest (tOp rGtI (tVar 5) (tC (.int 0))))))
          [some (.ref a), some (.int i), some x1, some (.int ni), some x3, some (.int ei), some x5, some x6] H6 (!mOk m (.int ei)) := by
        have i0 := et_not (et_B (ev_call (E := E0) (ea_3 (ev_var (σ := [some (.ref a), some (.int i), some x1, some (.int ni), some x3, some (.int ei), some x5, some x6]) (i := 6) rfl) (ev_c (v := .int 0)) (ev_c (v := .int 1))) (v_number_within T (g5.ex E6))))
        cases hM : within m 0 1 with
        | false => exact et_is (et_false_or i0 (by rw [hM]; rfl)) (by simp [mOk, hM])
        | true =>
          obtain ⟨mi, rfl, _, _⟩ := within_int hM
          cases g5.dp
          exact et_is (et_or i0 fun _ => et_and (et_eqI (ev_var rfl) ev_c) fun _ => ev_gtI (ev_var rfl) ev_c) (by rw [mOk_int, hM]; simp)
      refine q_when i5 (fun c H7 e7 => ?_) (fun c H7 e7 => ?_)
      · refine s_ret ev_c fun H8 e8 => ?_
        rw [show fault7 (.int i) w' (.int ni) l (.int ei) m t = some 5 by have c : mOk m (.int ei) = false := by simpa using c
                                                                          simp [fault7, hp, c1, c2, c3, c4, c]] at q2
        exact q2 H8 ((E6.trans e7).trans e8)
      · have c5 : mOk m (.int ei) = true := by simpa using c
        have E7 := E6.trans e7
        -- table
        refine q_when (et_not (et_B (ev_call (ea_3 (ev_var rfl) (ev_var rfl) (ev_var rfl)) (v_table_fits T (g6.ex E7))))) (fun c H8 e8 => ?_) (fun c H8 e8 => ?_)
        · refine s_ret ev_c fun H9 e9 => ?_
          rw [show fault7 (.int i) w' (.int ni) l (.int ei) m t = some 6 by
            have c : tableD t ni i = false := by simpa using c
            simp [fault7, hp, c1, c2, c3, c4, c5, intOf, c]] at q2
          exact q2 H9 ((E7.trans e8).trans e9)
        · refine s_ret ev_c fun H9 e9 => ?_
          rw [show fault7 (.int i) w' (.int ni) l (.int ei) m t = none by
            have c : tableD t ni i = true := by simpa using c
            simp [fault7, hp, c1, c2, c3, c4, c5, intOf, c]] at q2
          exact q2 H9 ((E7.trans e8).trans e9)
theorem ok_shape_fault (T : Txt K mg) : FnOk P w K mg base CX0 4 T.f_shape_fault T.fd_shape_fault ["thing"] (sp_shape_fault T) :=
  T.d_shape_fault.F.ok sc_shape_fault (fun vs H Q E h => len_shape_fault T h) fun cdv A outer s H vs Q E hr h => ⟨t_shape_fault T, by
    exact (pss_cons (ps_if (pt_not (pt_val (pe_call (ok_tuple_of T) (hr.mono (by decide)) (by rfl) T.d_tuple_of.g T.d_tuple_of.F.kp T.d_tuple_of.b .nil pass0 (pa_cons (pv 0) (pa_cons pe_int pa_nil))))) (pss_one (ps_ret (pe_un un_neg pe_int))) pss_nil) (pss_cons (ps_asg (pv 0) (pg_tup rfl (pgs_cons (pg_name (i := 1) sc_shape_fault.nd rfl (Or.inl rfl)) (pgs_cons (pg_name (i := 2) sc_shape_fault.nd rfl (Or.inl rfl)) (pgs_cons (pg_name (i := 3) sc_shape_fault.nd rfl (Or.inl rfl)) (pgs_cons (pg_name (i := 4) sc_shape_fault.nd rfl (Or.inl rfl)) (pgs_cons (pg_name (i := 5) sc_shape_fault.nd rfl (Or.inl rfl)) (pgs_cons (pg_name (i := 6) sc_shape_fault.nd rfl (Or.inl rfl)) (pgs_cons (pg_name (i := 7) sc_shape_fault.nd rfl (Or.inl rfl)) pgs_nil))))))))) (pss_cons (ps_if (PW.pt (pw_or (pt_not (pt_val (pe_call (ok_is_prime T) (hr.mono (by decide)) (by rfl) T.d_is_prime.g T.d_is_prime.F.kp T.d_is_prime.b .nil pass0 (pa_cons (pv 1) pa_nil)))) (pw_or1 (pt_cmpR op_lt (pv 1) pe_int (nomark _))))) (pss_one (ps_ret pe_int)) pss_nil) (pss_cons (ps_if (pt_not (pt_val (pe_call (ok_number_within T) (hr.mono (by decide)) (by rfl) T.d_number_within.g T.d_number_within.F.kp T.d_number_within.b .nil pass0 (pa_cons (pv 2) (pa_cons pe_int (pa_cons pe_int pa_nil)))))) (pss_one (ps_ret pe_int)) pss_nil) (pss_cons (ps_if (pt_not (pt_val (pe_call (ok_number_within T) (hr.mono (by decide)) (by rfl) T.d_number_within.g T.d_number_within.F.kp T.d_number_within.b .nil pass0 (pa_cons (pv 3) (pa_cons pe_int (pa_cons pe_int pa_nil)))))) (pss_one (ps_ret pe_int)) pss_nil) (pss_cons (ps_if (pt_not (pt_val (pe_call (ok_number_within T) (hr.mono (by decide)) (by rfl) T.d_number_within.g T.d_number_within.F.kp T.d_number_within.b .nil pass0 (pa_cons (pv 4) (pa_cons pe_int (pa_cons (pe_callB (call_min2 rfl) (by rfl) T.m_min (by decide +kernel) (pa_cons pe_int (pa_cons (pv 3) pa_nil))) pa_nil)))))) (pss_one (ps_ret pe_int)) pss_nil) (pss_cons (ps_if (pt_not (pt_val (pe_call (ok_number_within T) (hr.mono (by decide)) (by rfl) T.d_number_within.g T.d_number_within.F.kp T.d_number_within.b .nil pass0 (pa_cons (pv 5) (pa_cons pe_int (pa_cons pe_int pa_nil)))))) (pss_one (ps_ret pe_int)) pss_nil) (pss_cons (ps_if (PW.pt (pw_or (pt_not (pt_val (pe_call (ok_number_within T) (hr.mono (by decide)) (by rfl) T.d_number_within.g T.d_number_within.F.kp T.d_number_within.b .nil pass0 (pa_cons (pv 6) (pa_cons pe_int (pa_cons pe_int pa_nil)))))) (pw_or1 (PW.pt (pw_and (pt_cmpR op_eq (pv 6) pe_int (nomark _)) (pw_and1 (pt_cmpR op_gt (pv 5) pe_int (nomark _)))))))) (pss_one (ps_ret pe_int)) pss_nil) (pss_cons (ps_if (pt_not (pt_val (pe_call (ok_table_fits T) (hr.mono (by decide)) (by rfl) T.d_table_fits.g T.d_table_fits.F.kp T.d_table_fits.b .nil pass0 (pa_cons (pv 7) (pa_cons (pv 3) (pa_cons (pv 1) pa_nil)))))) (pss_one (ps_ret pe_int)) pss_nil) (pss_one (ps_ret pe_non))))))))))), pure_shape_fault T h⟩

/-- the errors' __init__ -/
theorem ok_init (T : Txt K mg) : FnOk P w K mg base CX0 1 T.f_init T.fd_init ["self", "what"] (spInit K) :=
  T.d_init.ok sc_init (fun vs H Q E h => by obtain ⟨_, _, _, _, rfl, _⟩ := h; rfl) fun cdv A outer s H vs Q E hr h =>
    ⟨tSeq (tOst K "what" (tVar 0) (tVar 1)) (tOst K "name" (tVar 0) (tNameOf K (tVar 0))), pss_cons (ps_ost (pv 0) (pv 1)) (pss_one (ps_ost (pv 0) (pe_nameOf (pv 0)))), by
    obtain ⟨a, C, v, nm, rfl, o, n, N, ea, q⟩ := h
    refine ⟨v, rfl, .ref a, rfl, a, C, rfl, o, n, .inl ⟨ea, fun dx ndx ne => ?_⟩⟩
    exact ⟨.ref a, rfl, a, C, dx, _, nm, rfl, N, upd_same, by rw [upd_ne ne, upd_same], .ref a, rfl, a, C, rfl, o, N.fn, .inr ⟨dx, _, upd_same, by rw [upd_ne ne, upd_same], by show 1 ≤ 900; decide, q dx ndx ne⟩⟩⟩
def sp_made_shape (T : Txt K mg) : Sp := fun vs H Q E => ∃ k x d, vs = [x] ∧ Gd K H k x d ∧ (fault d = none → ∀ H', Ex H H' → Q x H') ∧
  ∀ f, fault d = some f → ∀ H' dd, Ex H H' → Wh H' dd (.int f) → E (.ref T.c_BadShape) (some dd) H'
theorem len_made_shape (T : Txt K mg) {vs H Q E} (h : sp_made_shape T vs H Q E) : vs.length = 1 := by obtain ⟨_, _, _, rfl, _⟩ := h; rfl
def t_made_shape (T : Txt K mg) (E : XK) : TS := (tSeq (tAsg (tCall (sp_shape_fault T) [] E0 (tCons (tVar 0) tNil)) (gName 1)) (tSeq (tIfS (tTest (tOp rNotN (tVar 1) (tC .non))) (tRaise E (tMkO T.c_BadShape (spInit K) [] (tCons (tVar 1) tNil))) tNext) (tRet (tVar 0))))

/-- an error with its one argument is made -/
theorem made_what {C : Addr} {H1 : Hp} {Q : XK} {v : V} (o : OexC K C) (n : WhC K C)
    (k : ∀ d H2, Ex H1 H2 → Wh H2 d v → Q (.ref C) (some d) H2) :
    ([v] : List V).length ≤ 1000 ∧ ∀ a, H1 a = none → spInit K (.ref a :: ([v] ++ [])) (upd H1 a (exo a C none))
      (fun v H2 => v = .non ∧ ∃ (d : Addr) (fs : List (Str × V)), H2 a = some (exo a C (some d)) ∧ H2 d = some (exd d fs) ∧ H1 d = none ∧ Q (.ref C) (some d) (upd (del H2 a) d (.xd fs))) (fun _ _ _ => False) := by
  obtain ⟨n, nm, N⟩ := n
  refine ⟨by show 1 ≤ 1000; decide, fun a na => ⟨a, C, v, nm, rfl, o, n, N, upd_same, fun dx ndx ne => ⟨rfl, dx, _, by rw [upd_ne (Ne.symm ne), upd_same], upd_same, by rw [upd_ne ne] at ndx; exact ndx, ?_⟩⟩⟩
  rw [upd_ne ne] at ndx
  refine k dx _ (fun b u hb => ?_) ⟨nm, upd_same⟩
  have nb1 : b ≠ dx := ne_of_none hb ndx
  have nb2 : b ≠ a := ne_of_none hb na
  rw [upd_ne nb1, del_ne nb2, upd_ne nb1, upd_ne nb2, upd_ne nb1, upd_ne nb2]
  exact hb
theorem pure_made_shape (T : Txt K mg) {vs H Q} {E : XK} (h : sp_made_shape T vs H Q E) : t_made_shape T E { nx := fun _ H' => Q .non H', rt := Q } (L2.start n_made_shape vs) H := by
  obtain ⟨k, x, d, rfl, g, qv, qe⟩ := h
  refine q_asg (ev_call (ea_1 (ev_var rfl)) (v_shape_fault T g)) fun H1 e1 => ?_
  refine q_when (et_test (ev_notN (ev_var rfl))) (fun c H2 e2 => ?_) (fun c H2 e2 => ?_)
  · rw [optV_non] at c
    cases hf : fault d with
    | none => rw [hf] at c; cases c
    | some f =>
      refine ⟨_, rfl, ?_⟩
      exact made_what T.o_BadShape T.n_BadShape_what fun dd H3 e3 ed => qe f hf H3 dd ((e1.trans e2).trans e3) ed
  · rw [optV_non] at c
    have hf : fault d = none := by
      cases h : fault d with
      | none => rfl
      | some f => rw [h] at c; cases c
    exact s_ret (ev_var rfl) fun H3 e3 => qv hf H3 ((e1.trans e2).trans e3)
theorem ok_made_shape (T : Txt K mg) : FnOk P w K mg base (L2.CX P w) 5 T.f_made_shape T.fd_made_shape ["thing"] (sp_made_shape T) :=
  T.d_made_shape.F.okX sc_made_shape (fun vs H Q E h => len_made_shape T h) fun cdv A outer s H vs Q E hr h => ⟨t_made_shape T E, by
    exact (pss_cons (ps_set (i := 1) sc_made_shape.nd rfl (Or.inl rfl) (pe_call (ok_shape_fault T) (hr.mono (by decide)) (by rfl) T.d_shape_fault.g T.d_shape_fault.F.kp T.d_shape_fault.b .nil pass0 (pa_cons (pv 0) pa_nil))) (pss_cons (ps_if (pt_cmpR op_notN (pv 1) pe_non (nomark _)) (pss_one (ps_raise rfl (takes_of rfl rfl rfl rfl) (pmk_oex T.o_BadShape T.i_BadShape T.ti (ok_init T) (hr.mono (by decide)) T.b_init .nil pass0 (by rfl) T.g_BadShape (pa_cons (pv 1) pa_nil)))) pss_nil) (pss_one (ps_ret (pv 0))))), pure_made_shape T h⟩

end
end My


set_option maxHeartbeats 1000000
namespace My
open PySem PySem.Spec PyProof.Rows L2 Own LamX
open Evl (Ex RetV)
section
variable {P : Program} {w : World} {K : PySem.W.Frag} {mg : Str → Option Value} {base : Heap}

open Evl
/-! ### rising numbers, cells, rows -/
theorem ris_no {d : PyData} {lo top : Int} {ds : List PyData} (h : within d lo (top - 1) = false) : risD lo (d :: ds) top = false := by
  cases d <;> simp [risD, within] at h ⊢
  intro h1 h2
  have := h h1
  omega
theorem ris_yes {i lo top : Int} {ds : List PyData} (h1 : lo ≤ i) (h2 : i ≤ top - 1) : risD lo (.int i :: ds) top = risD (i + 1) ds top := by simp [risD, h1, h2]
theorem drop_at {α : Type} {ds : List α} {i : Nat} {d : α} (h : ds[i]? = some d) : ds.drop i = d :: ds.drop (i + 1) := by
  obtain ⟨hi, e⟩ := List.getElem?_eq_some_iff.mp h
  rw [List.drop_eq_getElem_cons hi, e]
def sp_shelves_of (T : Txt K mg) : Sp := fun vs H Q _ => ∃ sh s, vs = [.ref sh] ∧ Sh K sh s H ∧ RetV (.int (s.c + s.n : Int)) H Q
theorem len_shelves_of (T : Txt K mg) {vs H Q E} (h : sp_shelves_of T vs H Q E) : vs.length = 1 := by obtain ⟨_, _, rfl, _⟩ := h; rfl
theorem v_shelves_of (T : Txt K mg) {H : Hp} {sh : Addr} {s : Shp} (g : Sh K sh s H) : SpV (sp_shelves_of T) [.ref sh] H (.int (s.c + s.n : Int)) := spv fun H1 e Q q E => ⟨sh, s, rfl, g.ex e, q⟩
def t_shelves_of (T : Txt K mg) : TS := (tRet (tOp rAddI (tCB (rLenV K) (tCons (tOp (rIxT K) (tVar 0) (tC (.int 6))) tNil)) (tOp (rIxT K) (tVar 0) (tC (.int 2)))))

theorem pure_shelves_of (T : Txt K mg) {vs H Q} {E : XK} (h : sp_shelves_of T vs H Q E) : t_shelves_of T { nx := fun _ H' => Q .non H', rt := Q } (L2.start n_shelves_of vs) H := by
  obtain ⟨sh, s, rfl, g, q⟩ := h
  exact s_ret (ev_addI (sh_c g (ev_var rfl)) (sh_n g (ev_var rfl))) q
theorem ok_shelves_of (T : Txt K mg) : FnOk P w K mg base CX0 1 T.f_shelves_of T.fd_shelves_of ["shape"] (sp_shelves_of T) :=
  T.d_shelves_of.F.ok sc_shelves_of (fun vs H Q E h => len_shelves_of T h) fun cdv A outer s H vs Q E hr h => ⟨t_shelves_of T, by
    exact (pss_one (ps_ret (pe_op op_add (pe_callB call_len (by rfl) T.m_len (by decide +kernel) (pa_cons (pe_ix ix_tup (pv 0) pe_int (fun _ _ => rfl)) pa_nil)) (pe_ix ix_tup (pv 0) pe_int (fun _ _ => rfl))))), pure_shelves_of T h⟩

def sp_cell_fits (T : Txt K mg) : Sp := fun vs H Q _ => ∃ sh s k x d, vs = [.ref sh, x] ∧ Sh K sh s H ∧ Gd K H k x d ∧ RetV (.bl (rowD d s.w s.p)) H Q
theorem len_cell_fits (T : Txt K mg) {vs H Q E} (h : sp_cell_fits T vs H Q E) : vs.length = 2 := by obtain ⟨_, _, _, _, _, rfl, _⟩ := h; rfl
theorem v_cell_fits (T : Txt K mg) {H : Hp} {sh : Addr} {s : Shp} {k : Nat} {x : V} {d : PyData} (S : Sh K sh s H) (g : Gd K H k x d) : SpV (sp_cell_fits T) [.ref sh, x] H (.bl (rowD d s.w s.p)) := spv fun H1 e Q q E => ⟨sh, s, k, x, d, rfl, S.ex e, g.ex e, q⟩
def t_cell_fits (T : Txt K mg) : TS := (tRet (tCall (sp_numbers_fit T) [] E0 (tCons (tVar 1) (tCons (tOp (rIxT K) (tVar 0) (tC (.int 1))) (tCons (tOp (rIxT K) (tVar 0) (tC (.int 0))) tNil)))))

theorem pure_cell_fits (T : Txt K mg) {vs H Q} {E : XK} (h : sp_cell_fits T vs H Q E) : t_cell_fits T { nx := fun _ H' => Q .non H', rt := Q } (L2.start n_cell_fits vs) H := by
  obtain ⟨sh, s, k, x, d, rfl, S, g, q⟩ := h
  exact s_ret (ev_call (ea_3 (ev_var rfl) (sh_w S (ev_var rfl)) (sh_p S (ev_var rfl))) (v_numbers_fit T g)) q
theorem ok_cell_fits (T : Txt K mg) : FnOk P w K mg base CX0 3 T.f_cell_fits T.fd_cell_fits ["shape", "thing"] (sp_cell_fits T) :=
  T.d_cell_fits.F.ok sc_cell_fits (fun vs H Q E h => len_cell_fits T h) fun cdv A outer s H vs Q E hr h => ⟨t_cell_fits T, by
    exact (pss_one (ps_ret (pe_call (ok_numbers_fit T) (hr.mono (by decide)) (by rfl) T.d_numbers_fit.g T.d_numbers_fit.F.kp T.d_numbers_fit.b .nil pass0 (pa_cons (pv 1) (pa_cons (pe_ix ix_tup (pv 0) pe_int (fun _ _ => rfl)) (pa_cons (pe_ix ix_tup (pv 0) pe_int (fun _ _ => rfl)) pa_nil)))))), pure_cell_fits T h⟩

def cellsF (w p : Int) : Nat → List PyData → Option Int
  | _, [] => none
  | i, d :: ds => if rowD d w p then cellsF w p (i + 1) ds else some (i : Int)
def rowF (s : Shp) (d : PyData) : Option Int := if isLen d s.n then (match d with | .tuple ds => cellsF s.w s.p 0 ds | _ => none) else some (-1)
theorem isLen_tuple {d : PyData} {n : Int} (h : isLen d n = true) : ∃ ds, d = .tuple ds ∧ (ds.length : Int) = n := by
  cases d <;> simp [isLen] at h
  exact ⟨_, rfl, h⟩
theorem s_raise1 {C : Addr} {te : TE} {σ : L2.St} {H : Hp} {D : Ends} {E : XK} {v : V} (h : Ev te σ H v) (o : OexC K C) (n : WhC K C)
    (k : ∀ dd H', Ex H H' → Wh H' dd v → E (.ref C) (some dd) H') : tRaise E (tMkO C (spInit K) [] (tCons te tNil)) D σ H :=
  h H (.refl H) _ fun H1 e1 => made_what o n fun dd H2 e2 ed => k dd H2 (e1.trans e2) ed
theorem fault_ok {s : Shp} (o : s.Ok) : fault (shD s) = none := by
  have p1 := o.p.1
  have p2 := o.p.2.1
  have := o.w; have := o.n; have := o.k; have := o.e; have := o.m; have := o.c
  have f0 : lawPrime (.int s.p) = true := by
    have h2 : (2 : Int) ≤ s.p := by omega
    simp [lawPrime, within, primeD, p1, p2, h2, o.p.2.2]
  have f6 : tableD (matD s.t) s.n s.p = true := by
    have ht := o.t
    simp only [tableD, matD, Bool.and_eq_true, decide_eq_true_eq, List.length_map, List.all_eq_true]
    refine ⟨o.c, fun d hd => ?_⟩
    obtain ⟨r, hr, rfl⟩ := List.mem_map.mp hd
    have := ht r hr
    simp only [intsD, rowD, Bool.and_eq_true, decide_eq_true_eq, List.length_map, List.all_eq_true]
    refine ⟨by rw [this.1], fun d hd => ?_⟩
    obtain ⟨x, hx, rfl⟩ := List.mem_map.mp hd
    have := this.2 x hx
    simp [within]
    omega
  have f1 : within (.int (s.w : Int)) 1 16 = true := by simp [within]; omega
  have f2 : within (.int (s.n : Int)) 1 8 = true := by simp [within]; omega
  have f3 : kOk (.int (s.k : Int)) (.int (s.n : Int)) = true := by simp [kOk, within, intOf]; omega
  have f4 : within (.int (s.e : Int)) 0 2 = true := by simp [within]; omega
  have f5 : mOk (.int (s.m : Int)) (.int (s.e : Int)) = true := by
    have m2 := o.m.2
    by_cases h : s.m = 1
    · have := m2 h; simp [mOk, within, intOf, h, this]
    · have h1 : s.m = 0 := by omega
      simp [mOk, within, intOf, h1]
  show fault7 _ _ _ _ _ _ _ = none
  simp [fault7, f0, f1, f2, f3, f4, f5, f6, intOf]
end
end My


set_option maxHeartbeats 1000000
namespace My
open PySem PySem.Spec PyProof.Rows L2 Own LamX
open Evl (Ex RetV)
section
variable {P : Program} {w : World} {K : PySem.W.Frag} {mg : Str → Option Value} {base : Heap}

open Evl
/-! ### racks: their cells -/
def sp_as_cell (T : Txt K mg) : Sp := fun vs H Q _ => ∃ sh s, ∃ n : Int, vs = [.ref sh, .int n] ∧ Sh K sh s H ∧ s.Ok ∧ ∀ b H', Ex H H' → SqT K H' b ((n :: List.replicate (s.w - 1) 0).map V.int) → Q (.ref b) H'
theorem len_as_cell (T : Txt K mg) {vs H Q E} (h : sp_as_cell T vs H Q E) : vs.length = 2 := by obtain ⟨_, _, _, rfl, _⟩ := h; rfl
def t_as_cell (T : Txt K mg) : TS := (tRet (tOp (rCatA K) (tTup (tCons (tVar 1) tNil)) (tOp (rTimes0 K) (tTup (tCons (tC (.int 0)) tNil)) (tOp rSubI (tOp (rIxT K) (tVar 0) (tC (.int 1))) (tC (.int 1))))))

theorem ex_rep0 {σ : L2.St} {H : Hp} {te tb : TE} {v : V} {k : Nat} (h : Ev te σ H v) (hb : Ev tb σ H (.int (k : Int))) (hk : k ≤ 1000) : EvX (tOp (rTimes0 K) (tTup (tCons te tNil)) tb) σ H (PSq K (List.replicate k v)) := fun H1 u Q q =>
  eh_rep0 (K := K) h hb hk H1 u _ fun p H2 np e2 hp => q _ H2 e2 ⟨p, rfl, st_of hp⟩
theorem pure_as_cell (T : Txt K mg) {vs H Q} {E : XK} (h : sp_as_cell T vs H Q E) : t_as_cell T { nx := fun _ H' => Q .non H', rt := Q } (L2.start n_as_cell vs) H := by
  obtain ⟨sh, s, n, rfl, S, o, q⟩ := h
  have ow := o.w
  refine exT_cat (K := K) (exT_1 (ev_var (i := 1) rfl)) (ex_rep0 (k := s.w - 1) ev_c (ev_is (ev_subI (sh_w S (ev_var (i := 0) rfl)) ev_c) (by show V.int ((s.w : Int) - 1) = _; congr 1; omega)) (by omega)) (by rw [List.length_replicate]; show 1 + _ ≤ 1000; omega) H (.refl H) _ fun v H1 e1 ⟨b, ev, hb⟩ => ?_
  subst ev
  refine q b H1 e1 ?_
  rw [List.map_cons, List.map_replicate]
  exact hb
theorem ok_as_cell (T : Txt K mg) : FnOk P w K mg base CX0 1 T.f_as_cell T.fd_as_cell ["shape", "number"] (sp_as_cell T) :=
  T.d_as_cell.F.ok sc_as_cell (fun vs H Q E h => len_as_cell T h) fun cdv A outer s H vs Q E hr h => ⟨t_as_cell T, by
    exact (pss_one (ps_ret (pe_op op_catA (pe_tup (pa_cons (pv 1) pa_nil)) (pe_op op_times0 (pe_tup (pa_cons pe_int pa_nil)) (pe_op op_sub (pe_ix ix_tup (pv 0) pe_int (fun _ _ => rfl)) pe_int))))), pure_as_cell T h⟩

end
end My


set_option maxHeartbeats 1000000
namespace My
open PySem PySem.Spec PyProof.Rows L2 Own LamX
open Evl (Ex RetV)
section
variable {P : Program} {w : World} {K : PySem.W.Frag} {mg : Str → Option Value} {base : Heap}

open Evl
/-! ### a rack, as an object -/
structure Rk where
  s : Shp
  rows : Nat
  ways : List Nat
  cell : Nat → Nat → Option Ro
def wayT : Nat → Str
  | 0 => "kept"
  | 1 => "raw"
  | _ => "lost"
def wayV (w : Nat) : V := .str (wayT w)
def rkF (sh wl sl : Addr) (n : Nat) : List (Str × V) := putF "stripes" (.ref sl) (putF "ways" (.ref wl) (putF "rows" (.int (n : Int)) (putF "shape" (.ref sh) [])))
theorem rkF_stripes {sh wl sl : Addr} {n : Nat} : (rkF sh wl sl n).lookup ("stripes" : Str) = some (.ref sl) := by
  unfold rkF
  rw [lookup_putF, if_pos rfl]
theorem rkF_ways {sh wl sl : Addr} {n : Nat} : (rkF sh wl sl n).lookup ("ways" : Str) = some (.ref wl) := by
  unfold rkF
  rw [lookup_putF, if_neg (by decide +kernel), lookup_putF, if_pos rfl]
theorem rkF_rows {sh wl sl : Addr} {n : Nat} : (rkF sh wl sl n).lookup ("rows" : Str) = some (.int (n : Int)) := by
  unfold rkF
  rw [lookup_putF, if_neg (by decide +kernel), lookup_putF, if_neg (by decide +kernel), lookup_putF, if_pos rfl]
theorem rkF_shape {sh wl sl : Addr} {n : Nat} : (rkF sh wl sl n).lookup ("shape" : Str) = some (.ref sh) := by
  unfold rkF
  rw [lookup_putF, if_neg (by decide +kernel), lookup_putF, if_neg (by decide +kernel), lookup_putF, if_neg (by decide +kernel), lookup_putF, if_pos rfl]
theorem rkF_no {sh wl sl : Addr} {n : Nat} {m : Str} (h1 : ¬ m = "stripes") (h2 : ¬ m = "ways") (h3 : ¬ m = "rows") (h4 : ¬ m = "shape") : (rkF sh wl sl n).lookup m = none := by
  unfold rkF
  rw [lookup_putF, if_neg h1, lookup_putF, if_neg h2, lookup_putF, if_neg h3, lookup_putF, if_neg h4]
  all_goals rfl
/-- all but what stands at L is kept -/
def Fr (L : List Addr) (H H' : Hp) : Prop := ∀ b o, b ∉ L → H b = some o → H' b = some o
theorem Fr.ex {L : List Addr} {H H' : Hp} (e : Ex H H') : Fr L H H' := fun b o _ h => e b o h
theorem Fr.trans {L : List Addr} {H H1 H2 : Hp} (h : Fr L H H1) (h2 : Fr L H1 H2) : Fr L H H2 := fun b o n e => h2 b o n (h b o n e)
structure RkA (T : Txt K mg) (p sh wl sl : Addr) (rr : List Addr) (R : Rk) (H : Hp) : Prop where
  ob : ∃ dx, H p = some (.ins T.c_Rack dx (rkF sh wl sl R.rows))
  fS : Sh K sh R.s H
  ok : R.s.Ok
  fW : H wl = some (.lst (R.ways.map wayV))
  wn : R.ways.length = R.s.c + R.s.n
  fL : H sl = some (.lst (rr.map V.ref))
  rn : rr.length = R.rows
  r1 : 1 ≤ R.rows ∧ R.rows ≤ 16
  nd : rr.Nodup
  ne : wl ≠ sl ∧ wl ∉ rr ∧ sl ∉ rr
  lo : ∀ (i : Nat) (b : Addr), rr[i]? = some b → LO K b (R.s.c + R.s.n) (R.cell i) H
theorem RkA.ex {T : Txt K mg} {p sh wl sl : Addr} {rr : List Addr} {R : Rk} {H H' : Hp} (e : Ex H H') (h : RkA T p sh wl sl rr R H) : RkA T p sh wl sl rr R H' :=
  ⟨let ⟨dx, h1⟩ := h.ob; ⟨dx, e _ _ h1⟩, h.fS.ex e, h.ok, e _ _ h.fW, h.wn, e _ _ h.fL, h.rn, h.r1, h.nd, h.ne, fun i b hb => (h.lo i b hb).ex e⟩
section
variable {σ : L2.St} {H : Hp} {ta te : TE} {D : Ends} {tz : TS}
theorem ev_fld {p C dx : Addr} {f : Str} {fs : List (Str × V)} {v : V} (h : Ev ta σ H (.ref p)) (hp : H p = some (.ins C dx fs)) (c : Cls K C) (n : NoAttr K C f) (l : fs.lookup f = some v) : Ev (tFld K ta f) σ H v := fun H1 u Q q =>
  h H1 u _ fun H2 u2 => ⟨p, C, dx, fs, v, rfl, (u.trans u2) _ _ hp, c, n, l, q H2 u2⟩
theorem rk_rows {T : Txt K mg} {p sh wl sl : Addr} {rr : List Addr} {R : Rk} (A : RkA T p sh wl sl rr R H) (h : Ev ta σ H (.ref p)) : Ev (tFld K ta "rows") σ H (.int (R.rows : Int)) := let ⟨_, h1⟩ := A.ob; ev_fld h h1 T.cl_Rack T.na_Rack_rows rkF_rows
theorem rk_shape {T : Txt K mg} {p sh wl sl : Addr} {rr : List Addr} {R : Rk} (A : RkA T p sh wl sl rr R H) (h : Ev ta σ H (.ref p)) : Ev (tFld K ta "shape") σ H (.ref sh) := let ⟨_, h1⟩ := A.ob; ev_fld h h1 T.cl_Rack T.na_Rack_shape rkF_shape
theorem rk_ways {T : Txt K mg} {p sh wl sl : Addr} {rr : List Addr} {R : Rk} (A : RkA T p sh wl sl rr R H) (h : Ev ta σ H (.ref p)) : Ev (tFld K ta "ways") σ H (.ref wl) := let ⟨_, h1⟩ := A.ob; ev_fld h h1 T.cl_Rack T.na_Rack_ways rkF_ways
theorem rk_stripes {T : Txt K mg} {p sh wl sl : Addr} {rr : List Addr} {R : Rk} (A : RkA T p sh wl sl rr R H) (h : Ev ta σ H (.ref p)) : Ev (tFld K ta "stripes") σ H (.ref sl) := let ⟨_, h1⟩ := A.ob; ev_fld h h1 T.cl_Rack T.na_Rack_stripes rkF_stripes
/-- self.stripes[row] -/
theorem rk_row {T : Txt K mg} {p sh wl sl b : Addr} {rr : List Addr} {R : Rk} {i : Nat} {tb : TE} (A : RkA T p sh wl sl rr R H) (h : Ev ta σ H (.ref p)) (hi : Ev tb σ H (.int (i : Int))) (hb : rr[i]? = some b) : Ev (tOp (rIxL K) (tFld K ta "stripes") tb) σ H (.ref b) :=
  ev_ixL (rk_stripes A h) hi (sq_of A.fL) (atI_nat (refs_at hb))
/-- a method that may raise, called for what it does -/
theorem q_meth {T : Txt K mg} {p sh wl sl : Addr} {rr : List Addr} {R : Rk} {m : Str} {sp : Sp} {E : XK} {tt : TA} {vs : List V} (A : RkA T p sh wl sl rr R H) (h : Ev ta σ H (.ref p)) (n1 : ¬ m = "stripes") (n2 : ¬ m = "ways") (n3 : ¬ m = "rows") (n4 : ¬ m = "shape") (ha : EvA tt σ H vs)
    (k : ∀ H1, Ex H H1 → sp (.ref p :: vs) H1 (fun _ H' => tz D σ H') E) : tSeq (tDrop (tMeth T.c_Rack m sp [] E ta tt)) tz D σ H :=
  h H (.refl H) _ fun H1 e1 => by
    obtain ⟨dx, h1⟩ := A.ob
    refine ⟨p, dx, _, rfl, e1 _ _ h1, rkF_no n1 n2 n3 n4, ha H1 e1 _ fun H2 e2 => ?_⟩
    have := k H2 (e1.trans e2)
    rw [List.append_nil]
    exact this
end
/-! ### what is asked of a row, of a shelf -/
def sp_Rack_check_row (T : Txt K mg) : Sp := fun vs H Q E => ∃ p sh wl sl rr R k x d, vs = [.ref p, x] ∧ RkA T p sh wl sl rr R H ∧ Gd K H k x d ∧ (within d 0 ((R.rows : Int) - 1) = true → ∀ H', Ex H H' → Q .non H') ∧
  (within d 0 ((R.rows : Int) - 1) = false → ∀ H' dd, Ex H H' → Wh H' dd x → E (.ref T.c_BadNumber) (some dd) H')
theorem len_Rack_check_row (T : Txt K mg) {vs H Q E} (h : sp_Rack_check_row T vs H Q E) : vs.length = 2 := by obtain ⟨_, _, _, _, _, _, _, _, _, rfl, _⟩ := h; rfl
def t_Rack_check_row (T : Txt K mg) (E : XK) : TS := (tIfS (tNot (tB (tCall (sp_number_within T) [] E0 (tCons (tVar 1) (tCons (tC (.int 0)) (tCons (tOp rSubI (tFld K (tVar 0) "rows") (tC (.int 1))) tNil)))))) (tRaise E (tMkO T.c_BadNumber (spInit K) [] (tCons (tVar 1) tNil))) tNext)

theorem pure_Rack_check_row (T : Txt K mg) {vs H Q} {E : XK} (h : sp_Rack_check_row T vs H Q E) : t_Rack_check_row T E { nx := fun _ H' => Q .non H', rt := Q } (L2.start n_Rack_check_row vs) H := by
  obtain ⟨p, sh, wl, sl, rr, R, k, x, d, rfl, A, g, qv, qe⟩ := h
  refine s_when (et_not (et_B (ev_call (ea_3 (ev_var rfl) ev_c (ev_subI (rk_rows A (ev_var rfl)) ev_c)) (v_number_within T g)))) (fun c H1 e1 => ?_) (fun c H1 e1 => ?_)
  · exact s_raise1 (ev_var rfl) T.o_BadNumber T.n_BadNumber_what fun dd H2 e2 ed => qe (by simpa using c) H2 dd (e1.trans e2) ed
  · exact qv (by simpa using c) H1 e1
theorem ok_Rack_check_row (T : Txt K mg) : FnOk P w K mg base (L2.CX P w) 3 T.f_Rack_check_row T.fd_Rack_check_row ["self", "row"] (sp_Rack_check_row T) :=
  T.d_Rack_check_row.F.okX sc_Rack_check_row (fun vs H Q E h => len_Rack_check_row T h) fun cdv A outer s H vs Q E hr h => ⟨t_Rack_check_row T E, by
    exact (pss_one (ps_if (pt_not (pt_val (pe_call (ok_number_within T) (hr.mono (by decide)) (by rfl) T.d_number_within.g T.d_number_within.F.kp T.d_number_within.b .nil pass0 (pa_cons (pv 1) (pa_cons pe_int (pa_cons (pe_op op_sub (pe_fld (pv 0) rfl) pe_int) pa_nil)))))) (pss_one (ps_raise rfl (takes_of rfl rfl rfl rfl) (pmk_oex T.o_BadNumber T.i_BadNumber T.ti (ok_init T) (hr.mono (by decide)) T.b_init .nil pass0 (by rfl) T.g_BadNumber (pa_cons (pv 1) pa_nil)))) pss_nil)), pure_Rack_check_row T h⟩

def sp_Rack_check_shelf (T : Txt K mg) : Sp := fun vs H Q E => ∃ p sh wl sl rr R k x d, vs = [.ref p, x] ∧ RkA T p sh wl sl rr R H ∧ Gd K H k x d ∧ (within d 0 ((R.s.c + R.s.n : Int) - 1) = true → ∀ H', Ex H H' → Q .non H') ∧
  (within d 0 ((R.s.c + R.s.n : Int) - 1) = false → ∀ H' dd, Ex H H' → Wh H' dd x → E (.ref T.c_BadShelf) (some dd) H')
theorem len_Rack_check_shelf (T : Txt K mg) {vs H Q E} (h : sp_Rack_check_shelf T vs H Q E) : vs.length = 2 := by obtain ⟨_, _, _, _, _, _, _, _, _, rfl, _⟩ := h; rfl
def t_Rack_check_shelf (T : Txt K mg) (E : XK) : TS := (tIfS (tNot (tB (tCall (sp_number_within T) [] E0 (tCons (tVar 1) (tCons (tC (.int 0)) (tCons (tOp rSubI (tCall (sp_shelves_of T) [] E0 (tCons (tFld K (tVar 0) "shape") tNil)) (tC (.int 1))) tNil)))))) (tRaise E (tMkO T.c_BadShelf (spInit K) [] (tCons (tVar 1) tNil))) tNext)

theorem pure_Rack_check_shelf (T : Txt K mg) {vs H Q} {E : XK} (h : sp_Rack_check_shelf T vs H Q E) : t_Rack_check_shelf T E { nx := fun _ H' => Q .non H', rt := Q } (L2.start n_Rack_check_shelf vs) H := by
  obtain ⟨p, sh, wl, sl, rr, R, k, x, d, rfl, A, g, qv, qe⟩ := h
  refine s_when (et_not (et_B (ev_call (ea_3 (ev_var rfl) ev_c (ev_subI (ev_call (ea_1 (rk_shape A (ev_var rfl))) (v_shelves_of T A.fS)) ev_c)) (v_number_within T g)))) (fun c H1 e1 => ?_) (fun c H1 e1 => ?_)
  · exact s_raise1 (ev_var rfl) T.o_BadShelf T.n_BadShelf_what fun dd H2 e2 ed => qe (by simpa using c) H2 dd (e1.trans e2) ed
  · exact qv (by simpa using c) H1 e1
theorem ok_Rack_check_shelf (T : Txt K mg) : FnOk P w K mg base (L2.CX P w) 3 T.f_Rack_check_shelf T.fd_Rack_check_shelf ["self", "shelf"] (sp_Rack_check_shelf T) :=
  T.d_Rack_check_shelf.F.okX sc_Rack_check_shelf (fun vs H Q E h => len_Rack_check_shelf T h) fun cdv A outer s H vs Q E hr h => ⟨t_Rack_check_shelf T E, by
    exact (pss_one (ps_if (pt_not (pt_val (pe_call (ok_number_within T) (hr.mono (by decide)) (by rfl) T.d_number_within.g T.d_number_within.F.kp T.d_number_within.b .nil pass0 (pa_cons (pv 1) (pa_cons pe_int (pa_cons (pe_op op_sub (pe_call (ok_shelves_of T) (hr.mono (by decide)) (by rfl) T.d_shelves_of.g T.d_shelves_of.F.kp T.d_shelves_of.b .nil pass0 (pa_cons (pe_fld (pv 0) rfl) pa_nil)) pe_int) pa_nil)))))) (pss_one (ps_raise rfl (takes_of rfl rfl rfl rfl) (pmk_oex T.o_BadShelf T.i_BadShelf T.ti (ok_init T) (hr.mono (by decide)) T.b_init .nil pass0 (by rfl) T.g_BadShelf (pa_cons (pv 1) pa_nil)))) pss_nil)), pure_Rack_check_shelf T h⟩

/-! ### its states, a cell -/
def sp_Rack_states (T : Txt K mg) : Sp := fun vs H Q _ => ∃ p sh wl sl rr R, vs = [.ref p] ∧ RkA T p sh wl sl rr R H ∧ ∀ b H', Ex H H' → SqT K H' b (R.ways.map wayV) → Q (.ref b) H'
theorem len_Rack_states (T : Txt K mg) {vs H Q E} (h : sp_Rack_states T vs H Q E) : vs.length = 1 := by obtain ⟨_, _, _, _, _, _, rfl, _⟩ := h; rfl
def t_Rack_states (T : Txt K mg) : TS := (tRet (tCB (rTupOf K) (tCons (tFld K (tVar 0) "ways") tNil)))

theorem pure_Rack_states (T : Txt K mg) {vs H Q} {E : XK} (h : sp_Rack_states T vs H Q E) : t_Rack_states T { nx := fun _ H' => Q .non H', rt := Q } (L2.start n_Rack_states vs) H := by
  obtain ⟨p, sh, wl, sl, rr, R, rfl, A, q⟩ := h
  refine ex_tupV (K := K) (rk_ways A (ev_var rfl)) A.fW H (.refl H) _ fun v H1 e1 ⟨b, ev, hb⟩ => ?_
  subst ev
  exact q b H1 e1 hb
theorem ok_Rack_states (T : Txt K mg) : FnOk P w K mg base CX0 1 T.f_Rack_states T.fd_Rack_states ["self"] (sp_Rack_states T) :=
  T.d_Rack_states.F.ok sc_Rack_states (fun vs H Q E h => len_Rack_states T h) fun cdv A outer s H vs Q E hr h => ⟨t_Rack_states T, by
    exact (pss_one (ps_ret (pe_callTy call_tuple_of (by rfl) T.m_tuple (by decide +kernel) (pa_cons (pe_fld (pv 0) rfl) pa_nil)))), pure_Rack_states T h⟩

def sp_Rack_cell (T : Txt K mg) : Sp := fun vs H Q E => ∃ p sh wl sl rr R k k2 x y d e, vs = [.ref p, x, y] ∧ RkA T p sh wl sl rr R H ∧ Gd K H k x d ∧ Gd K H k2 y e ∧
  (∀ i j : Nat, d = .int i → e = .int j → i < R.rows → j < R.s.c + R.s.n → ∀ v H', Ex H H' → CellV K H' v (R.cell i j) → Q v H') ∧
  (within d 0 ((R.rows : Int) - 1) = false → ∀ H' dd, Ex H H' → Wh H' dd x → E (.ref T.c_BadNumber) (some dd) H') ∧
  (within d 0 ((R.rows : Int) - 1) = true → within e 0 ((R.s.c + R.s.n : Int) - 1) = false → ∀ H' dd, Ex H H' → Wh H' dd y → E (.ref T.c_BadShelf) (some dd) H')
theorem len_Rack_cell (T : Txt K mg) {vs H Q E} (h : sp_Rack_cell T vs H Q E) : vs.length = 3 := by obtain ⟨_, _, _, _, _, _, _, _, _, _, _, _, rfl, _⟩ := h; rfl
def t_Rack_cell (T : Txt K mg) (E : XK) : TS := (tSeq (tDrop (tMeth T.c_Rack "check_row" (sp_Rack_check_row T) [] E (tVar 0) (tCons (tVar 1) tNil))) (tSeq (tDrop (tMeth T.c_Rack "check_shelf" (sp_Rack_check_shelf T) [] E (tVar 0) (tCons (tVar 2) tNil))) (tRet (tOp (rIxL K) (tOp (rIxL K) (tFld K (tVar 0) "stripes") (tVar 1)) (tVar 2)))))

theorem within_nat {d : PyData} {n : Nat} (h : within d 0 ((n : Int) - 1) = true) : ∃ i : Nat, d = .int i ∧ i < n := by
  obtain ⟨v, rfl, v0, v1⟩ := within_int h
  exact ⟨v.toNat, by congr 1; omega, by omega⟩
theorem pure_Rack_cell (T : Txt K mg) {vs H Q} {E : XK} (h : sp_Rack_cell T vs H Q E) : t_Rack_cell T E { nx := fun _ H' => Q .non H', rt := Q } (L2.start n_Rack_cell vs) H := by
  obtain ⟨p, sh, wl, sl, rr, R, k, k2, x, y, d, e, rfl, A, g, g2, qv, qe, qf⟩ := h
  refine q_meth A (ev_var rfl) (by decide +kernel) (by decide +kernel) (by decide +kernel) (by decide +kernel) (ea_1 (ev_var rfl)) fun H1 e1 => ⟨p, sh, wl, sl, rr, R, k, x, d, rfl, A.ex e1, g.ex e1, fun c H2 e2 => ?_, fun c H2 dd e2 ed => qe c H2 dd (e1.trans e2) ed⟩
  have E2 := e1.trans e2
  refine q_meth (A.ex E2) (ev_var rfl) (by decide +kernel) (by decide +kernel) (by decide +kernel) (by decide +kernel) (ea_1 (ev_var rfl)) fun H3 e3 => ⟨p, sh, wl, sl, rr, R, k2, y, e, rfl, A.ex (E2.trans e3), g2.ex (E2.trans e3), fun c2 H4 e4 => ?_, fun c2 H4 dd e4 ed => qf c c2 H4 dd ((E2.trans e3).trans e4) ed⟩
  have E4 := (E2.trans e3).trans e4
  obtain ⟨i, rfl, hi⟩ := within_nat c
  obtain ⟨j, rfl, hj⟩ := within_nat (n := R.s.c + R.s.n) (by rw [Int.natCast_add]; exact c2)
  have A4 := A.ex E4
  have hir : i < rr.length := by rw [A.rn]; exact hi
  obtain ⟨cv, hcv, hcl, hcc⟩ := A4.lo i _ (List.getElem?_eq_getElem hir)
  have hjv : j < cv.length := by omega
  cases g.dp
  cases g2.dp
  exact s_ret (ev_ixL (rk_row A4 (ev_var rfl) (ev_var rfl) (List.getElem?_eq_getElem hir)) (ev_var rfl) (sq_of hcv) (atI_nat (List.getElem?_eq_getElem hjv))) fun H5 e5 => qv i j rfl rfl hi hj _ H5 (E4.trans e5) ((hcc j _ (List.getElem?_eq_getElem hjv)).kp (.ex e5))
theorem ok_Rack_cell (T : Txt K mg) : FnOk P w K mg base (L2.CX P w) 4 T.f_Rack_cell T.fd_Rack_cell ["self", "row", "shelf"] (sp_Rack_cell T) :=
  T.d_Rack_cell.F.okX sc_Rack_cell (fun vs H Q E h => len_Rack_cell T h) fun cdv A outer s H vs Q E hr h => ⟨t_Rack_cell T E, by
    exact (pss_cons (ps_expr (pe_meth (pv 0) T.cl_Rack T.d_Rack_check_row.m (ok_Rack_check_row T) (hr.mono (by decide)) T.d_Rack_check_row.b .nil (passes_call (takes_of rfl rfl rfl rfl) fun _ _ _ _ h => h) (pa_cons (pv 1) pa_nil))) (pss_cons (ps_expr (pe_meth (pv 0) T.cl_Rack T.d_Rack_check_shelf.m (ok_Rack_check_shelf T) (hr.mono (by decide)) T.d_Rack_check_shelf.b .nil (passes_call (takes_of rfl rfl rfl rfl) fun _ _ _ _ h => h) (pa_cons (pv 2) pa_nil))) (pss_one (ps_ret (pe_ix ix_list (pe_ix ix_list (pe_fld (pv 0) rfl) (pv 1) (fun _ _ => rfl)) (pv 2) (fun _ _ => rfl)))))), pure_Rack_cell T h⟩

end
end My


set_option maxHeartbeats 1000000
namespace My
open PySem PySem.Spec PyProof.Rows L2 Own LamX
open Evl (Ex RetV)
section
variable {P : Program} {w : World} {K : PySem.W.Frag} {mg : Str → Option Value} {base : Heap}

open Evl
/-! ### racks: cells set, filled, put -/
theorem RkA.setRow {T : Txt K mg} {p sh wl sl : Addr} {rr : List Addr} {R : Rk} {H : Hp} {i : Nat} {b : Addr} {vs : List V} {f : Nat → Option Ro} (h : RkA T p sh wl sl rr R H) (hb : rr[i]? = some b) (hlo : LO K b (R.s.c + R.s.n) f (upd H b (.lst vs))) :
    RkA T p sh wl sl rr { R with cell := fun r => if r = i then f else R.cell r } (upd H b (.lst vs)) := by
  have hm := List.mem_of_getElem? hb
  obtain ⟨dx, h1⟩ := h.ob
  obtain ⟨cv, hcv, _, _⟩ := h.lo i b hb
  have nw : wl ≠ b := fun z => h.ne.2.1 (z ▸ hm)
  have nl : sl ≠ b := fun z => h.ne.2.2 (z ▸ hm)
  have np : p ≠ b := fun z => by rw [z, hcv] at h1; cases h1
  refine ⟨⟨dx, by rw [upd_ne np]; exact h1⟩, h.fS.kp (.lst hcv), h.ok, by rw [upd_ne nw]; exact h.fW, h.wn, by rw [upd_ne nl]; exact h.fL, h.rn, h.r1, h.nd, h.ne, fun r b' hb' => ?_⟩
  by_cases c : r = i
  · subst c
    rw [hb] at hb'
    injection hb' with hb'
    subst hb'
    show LO K b _ (if r = r then f else R.cell r) _
    rw [if_pos rfl]
    exact hlo
  · show LO K b' _ (if r = i then f else R.cell r) _
    rw [if_neg c]
    have nb : b' ≠ b := fun z => by
      subst z
      exact c ((List.getElem?_inj (List.getElem?_eq_some_iff.mp hb').1 h.nd).mp (hb'.trans hb.symm))
    obtain ⟨ws, q1, q2, q3⟩ := h.lo r b' hb'
    exact ⟨ws, by rw [upd_ne nb]; exact q1, q2, fun j v hv => (q3 j v hv).kp (.lst hcv)⟩
theorem RkA.cellEq {T : Txt K mg} {p sh wl sl : Addr} {rr : List Addr} {R : Rk} {H : Hp} {f : Nat → Nat → Option Ro} (h : RkA T p sh wl sl rr R H) (e : ∀ i j, i < R.rows → R.cell i j = f i j) : RkA T p sh wl sl rr { R with cell := f } H :=
  ⟨h.ob, h.fS, h.ok, h.fW, h.wn, h.fL, h.rn, h.r1, h.nd, h.ne, fun i b hb => by
    have hi : i < R.rows := by rw [← h.rn]; exact (List.getElem?_eq_some_iff.mp hb).1
    have : R.cell i = f i := funext fun j => e i j hi
    have := h.lo i b hb
    rwa [‹R.cell i = f i›] at this⟩
theorem RkA.setWay {T : Txt K mg} {p sh wl sl : Addr} {rr : List Addr} {R : Rk} {H : Hp} {j w : Nat} (h : RkA T p sh wl sl rr R H) : RkA T p sh wl sl rr { R with ways := R.ways.set j w } (upd H wl (.lst ((R.ways.map wayV).set j (wayV w)))) := by
  obtain ⟨dx, h1⟩ := h.ob
  have np : p ≠ wl := fun z => by rw [z, h.fW] at h1; cases h1
  refine ⟨⟨dx, by rw [upd_ne np]; exact h1⟩, h.fS.kp (.lst h.fW), h.ok, by rw [upd_same, List.map_set], by show (R.ways.set j w).length = _; rw [List.length_set]; exact h.wn, by rw [upd_ne (Ne.symm h.ne.1)]; exact h.fL, h.rn, h.r1, h.nd, h.ne, fun r b hb => ?_⟩
  have nb : b ≠ wl := fun z => h.ne.2.1 (z ▸ List.mem_of_getElem? hb)
  obtain ⟨ws, q1, q2, q3⟩ := h.lo r b hb
  exact ⟨ws, by rw [upd_ne nb]; exact q1, q2, fun j v hv => (q3 j v hv).kp (.lst h.fW)⟩
theorem Fr.upd {L : List Addr} {H H1 : Hp} {b : Addr} {o : HO} (h : Fr L H H1) (hb : b ∈ L) : Fr L H (upd H1 b o) := fun c q n hc => by
  have cb : c ≠ b := fun z => n (by rw [z]; exact hb)
  show (if c = b then some o else H1 c) = some q
  rw [if_neg cb]
  exact h c q n hc
def fillC (f : Nat → Nat → Option Ro) (j : Nat) (o : Option Ro) : Nat → Nat → Option Ro := fun r x => if x = j then o else f r x
def sp_Rack_fill (T : Txt K mg) : Sp := fun vs H Q _ => ∃ p sh wl sl rr R j v o, vs = [.ref p, .int ((j : Nat) : Int), v] ∧ RkA T p sh wl sl rr R H ∧ j < R.s.c + R.s.n ∧ CellV K H v o ∧ ∀ H', RkA T p sh wl sl rr { R with cell := fillC R.cell j o } H' → Fr rr H H' → Q .non H'
theorem len_Rack_fill (T : Txt K mg) {vs H Q E} (h : sp_Rack_fill T vs H Q E) : vs.length = 3 := by obtain ⟨_, _, _, _, _, _, _, _, _, rfl, _⟩ := h; rfl
def t_Rack_fill (T : Txt K mg) : TS := (tFor (iRng1 (tCons (tFld K (tVar 0) "rows") tNil)) (gName 3) (tAsg (tVar 2) (gSub (tOp (rIxL K) (tFld K (tVar 0) "stripes") (tVar 3)) (tVar 1) rSetL)))

theorem pure_Rack_fill (T : Txt K mg) {vs H Q} {E : XK} (h : sp_Rack_fill T vs H Q E) : t_Rack_fill T { nx := fun _ H' => Q .non H', rt := Q } (L2.start n_Rack_fill vs) H := by
  obtain ⟨p, sh, wl, sl, rr, R, j, v, o, rfl, A, hj, hv, q⟩ := h
  have r1 := A.r1
  refine s_forR1 (ea_1 (rk_rows A (ev_var rfl))) (by omega) (fun i σ' H' => ∃ u3, σ' = [some (.ref p), some (.int (j : Int)), some v, u3] ∧ RkA T p sh wl sl rr { R with cell := fun r x => if r < i ∧ x = j then o else R.cell r x } H' ∧ Fr rr H H' ∧ CellV K H' v o)
    (fun H1 e1 => ⟨_, rfl, (A.ex e1).cellEq (fun i j _ => by rw [if_neg (fun z => Nat.not_lt_zero _ z.1)]), .ex e1, hv.kp (.ex e1)⟩) ?_ ?_
  · rintro i σ' H1 hi ⟨u3, rfl, A1, f1, hv1⟩
    have hir : i < rr.length := by rw [A.rn]; omega
    have hb := List.getElem?_eq_getElem hir
    obtain ⟨cv, hcv, _, _⟩ := A1.lo i _ hb
    refine s_setO (A1.lo i _ hb) (ev_var rfl) hv1 (rk_row A1 (ev_var rfl) (ev_var rfl) hb) (ev_var rfl) hj fun H2 vs e2 hlo => ?_
    refine ⟨_, rfl, ((A1.ex e2).setRow hb hlo).cellEq (fun r x _ => ?_), (f1.trans (.ex e2)).upd (List.mem_of_getElem? hb), hv1.kp ((Kp.ex e2).trans (.lst (e2 _ _ hcv)))⟩
    show (if r = i then fun x => if x = j then o else if i < i ∧ x = j then o else R.cell i x else fun x => if r < i ∧ x = j then o else R.cell r x) x = if r < i + 1 ∧ x = j then o else R.cell r x
    by_cases c : r = i
    · subst c
      rw [if_pos rfl]
      by_cases d : x = j
      · rw [if_pos d, if_pos ⟨Nat.lt_succ_self _, d⟩]
      · rw [if_neg d, if_neg (fun z => d z.2), if_neg (fun z => d z.2)]
    · rw [if_neg c]
      by_cases d : r < i ∧ x = j
      · rw [if_pos d, if_pos ⟨by omega, d.2⟩]
      · rw [if_neg d, if_neg (fun z => d ⟨by omega, z.2⟩)]
  · rintro σ' H1 ⟨u3, rfl, A1, f1, _⟩
    refine q H1 (A1.cellEq fun i x hi => ?_) f1
    have hi : i < R.rows := hi
    show (if i < ((R.rows : Int)).toNat ∧ x = j then o else R.cell i x) = if x = j then o else R.cell i x
    rw [Int.toNat_natCast]
    by_cases d : x = j
    · rw [if_pos ⟨hi, d⟩, if_pos d]
    · rw [if_neg (fun z => d z.2), if_neg d]
theorem ok_Rack_fill (T : Txt K mg) : FnOk P w K mg base CX0 1 T.f_Rack_fill T.fd_Rack_fill ["self", "shelf", "cell"] (sp_Rack_fill T) :=
  T.d_Rack_fill.F.ok sc_Rack_fill (fun vs H Q E h => len_Rack_fill T h) fun cdv A outer s H vs Q E hr h => ⟨t_Rack_fill T, by
    exact (pss_one (ps_for PassesOwn.never rfl (pi_range1 (by rfl) T.m_range (pa_cons (pe_fld (pv 0) rfl) pa_nil)) (pg_name (i := 3) sc_Rack_fill.nd rfl (Or.inl rfl)) (pss_one (ps_asg (pv 2) (pg_sub (pe_ix ix_list (pe_fld (pv 0) rfl) (pv 3) (fun _ _ => rfl)) (pv 1) set_list))))), pure_Rack_fill T h⟩

end
end My


set_option maxHeartbeats 1000000
namespace My
open PySem PySem.Spec PyProof.Rows L2 Own LamX
open Evl (Ex RetV)
section
variable {P : Program} {w : World} {K : PySem.W.Frag} {mg : Str → Option Value} {base : Heap}

open Evl
/-! ### racks: put, replace -/
theorem way_lost (w : Nat) : decide (wayV w = V.str "lost") = decide (2 ≤ w) := by
  match w with
  | 0 => decide +kernel
  | 1 => decide +kernel
  | w + 2 => rw [decide_eq_true (show wayV (w + 2) = V.str "lost" from rfl), decide_eq_true (show 2 ≤ w + 2 by omega)]
theorem way_kept (w : Nat) : decide (wayV w = V.str "kept") = decide (w = 0) := by
  match w with
  | 0 => decide +kernel
  | 1 => decide +kernel
  | w + 2 =>
    rw [decide_eq_false (show ¬ w + 2 = 0 by omega)]
    exact decide_eq_false (show ¬ V.str "lost" = V.str "kept" by decide +kernel)
theorem ev_way {T : Txt K mg} {σ : L2.St} {H : Hp} {ta tb : TE} {p sh wl sl : Addr} {rr : List Addr} {R : Rk} {j : Nat} (A : RkA T p sh wl sl rr R H) (h : Ev ta σ H (.ref p)) (hj : Ev tb σ H (.int (j : Int))) (hl : j < R.s.c + R.s.n) : Ev (tOp (rIxL K) (tFld K ta "ways") tb) σ H (wayV (R.ways.getD j 0)) :=
  ev_ixL (rk_ways A h) hj (sq_of A.fW) (atI_nat (by
    have hw : j < R.ways.length := by rw [A.wn]; exact hl
    rw [List.getElem?_map, List.getElem?_eq_getElem hw, getD_lt hw]; rfl))
theorem et_neLost {T : Txt K mg} {σ : L2.St} {H : Hp} {ta tb : TE} {p sh wl sl : Addr} {rr : List Addr} {R : Rk} {j : Nat} (A : RkA T p sh wl sl rr R H) (h : Ev ta σ H (.ref p)) (hj : Ev tb σ H (.int (j : Int))) (hl : j < R.s.c + R.s.n) : EvT (tTest (tOp rNe (tOp (rIxL K) (tFld K ta "ways") tb) (tC (.str "lost")))) σ H (!decide (2 ≤ R.ways.getD j 0)) := by
  have := et_test (ev_op (z := .bl (!decide (wayV (R.ways.getD j 0) = V.str "lost"))) (ev_way A h hj hl) ev_c (rv_ne rfl))
  rwa [way_lost] at this
theorem rowD_ints {d : PyData} {n : Nat} {p : Int} (h : rowD d n p = true) : ∃ r : Ro, d = intsD r ∧ r.length = n ∧ ∀ x ∈ r, 0 ≤ x ∧ x < p := by
  cases d with
  | tuple ds =>
    have h : (decide (((ds.length : Nat) : Int) = (n : Int)) && ds.all fun x => within x 0 (p - 1)) = true := h
    rw [Bool.and_eq_true, List.all_eq_true] at h
    obtain ⟨h1, h2⟩ := h
    have key : ∀ ds : List PyData, (∀ x ∈ ds, within x 0 (p - 1) = true) → ∃ r : Ro, ds = r.map PyData.int ∧ ∀ x ∈ r, 0 ≤ x ∧ x < p := fun ds => by
      induction ds with
      | nil => exact fun _ => ⟨[], rfl, fun x hx => absurd hx List.not_mem_nil⟩
      | cons d ds ih =>
        intro h
        obtain ⟨r, e, hr⟩ := ih fun x hx => h x (List.mem_cons_of_mem _ hx)
        obtain ⟨v, rfl, v0, v1⟩ := within_int (h d List.mem_cons_self)
        refine ⟨v :: r, by rw [e]; rfl, fun x hx => ?_⟩
        rcases List.mem_cons.mp hx with c | c
        · rw [c]; exact ⟨v0, by omega⟩
        · exact hr x c
    obtain ⟨r, rfl, hr⟩ := key ds h2
    have := of_decide_eq_true h1
    exact ⟨r, rfl, by rw [List.length_map] at this; omega, hr⟩
  | _ => cases h
theorem gd_ints_of {K : PySem.W.Frag} {H : Hp} {k : Nat} {x : V} {l : List Int} (g : Gd K H k x (intsD l)) : ∃ a, x = .ref a ∧ SqT K H a (l.map V.int) ∧ l.length ≤ 20 := by
  obtain ⟨a, xs, j, rfl, rfl, hs, hl, h20, _, _, hx⟩ := g.tup
  have z : xs = l.map V.int := by
    apply List.ext_getElem?
    intro i
    by_cases c : i < xs.length
    · obtain ⟨d, hd, gd⟩ := hx i xs[i] (List.getElem?_eq_getElem c)
      rw [List.getElem?_map] at hd
      have hil : i < l.length := by rw [hl, List.length_map] at c; exact c
      rw [List.getElem?_eq_getElem hil] at hd
      injection hd with hd
      subst hd
      have := gd.dp
      rw [List.getElem?_eq_getElem c, List.getElem?_map, List.getElem?_eq_getElem hil]
      generalize xs[i] = w at this
      cases this
      rfl
    · rw [List.getElem?_eq_none (by omega), List.getElem?_eq_none (by rw [List.length_map]; rw [hl] at c; simpa using c)]
  subst z
  exact ⟨a, rfl, hs, by simpa using h20⟩
def putC (f : Nat → Nat → Option Ro) (i j : Nat) (o : Option Ro) : Nat → Nat → Option Ro := fun r x => if r = i ∧ x = j then o else f r x
def putR (R : Rk) (i j : Nat) (r : Ro) : Rk := { R with cell := if 2 ≤ R.ways.getD j 0 then R.cell else putC R.cell i j (some r) }
def sp_Rack_put (T : Txt K mg) : Sp := fun vs H Q E => ∃ p sh wl sl rr R k k2 k3 x y z d e f, vs = [.ref p, x, y, z] ∧ RkA T p sh wl sl rr R H ∧ Gd K H k x d ∧ Gd K H k2 y e ∧ Gd K H k3 z f ∧
  (∀ (i j : Nat) (r : Ro), d = .int i → e = .int j → f = intsD r → i < R.rows → j < R.s.c + R.s.n → r.length = R.s.w → (∀ x ∈ r, 0 ≤ x ∧ x < R.s.p) → ∀ H', RkA T p sh wl sl rr (putR R i j r) H' → Fr rr H H' → Q .non H') ∧
  (within d 0 ((R.rows : Int) - 1) = false → ∀ H' dd, Ex H H' → Wh H' dd x → E (.ref T.c_BadNumber) (some dd) H') ∧
  (within d 0 ((R.rows : Int) - 1) = true → within e 0 ((R.s.c + R.s.n : Int) - 1) = false → ∀ H' dd, Ex H H' → Wh H' dd y → E (.ref T.c_BadShelf) (some dd) H') ∧
  (within d 0 ((R.rows : Int) - 1) = true → within e 0 ((R.s.c + R.s.n : Int) - 1) = true → rowD f R.s.w R.s.p = false → ∀ H' dd, Ex H H' → Wh H' dd (.int 0) → E (.ref T.c_BadCell) (some dd) H')
theorem len_Rack_put (T : Txt K mg) {vs H Q E} (h : sp_Rack_put T vs H Q E) : vs.length = 4 := by obtain ⟨_, _, _, _, _, _, _, _, _, _, _, _, _, _, _, rfl, _⟩ := h; rfl
def t_Rack_put (T : Txt K mg) (E : XK) : TS := (tSeq (tDrop (tMeth T.c_Rack "check_row" (sp_Rack_check_row T) [] E (tVar 0) (tCons (tVar 1) tNil))) (tSeq (tDrop (tMeth T.c_Rack "check_shelf" (sp_Rack_check_shelf T) [] E (tVar 0) (tCons (tVar 2) tNil))) (tSeq (tIfS (tNot (tB (tCall (sp_cell_fits T) [] E0 (tCons (tFld K (tVar 0) "shape") (tCons (tVar 3) tNil))))) (tRaise E (tMkO T.c_BadCell (spInit K) [] (tCons (tC (.int 0)) tNil))) tNext) (tIfS (tTest (tOp rNe (tOp (rIxL K) (tFld K (tVar 0) "ways") (tVar 2)) (tC (.str "lost")))) (tAsg (tVar 3) (gSub (tOp (rIxL K) (tFld K (tVar 0) "stripes") (tVar 1)) (tVar 2) rSetL)) tNext))))

theorem pure_Rack_put (T : Txt K mg) {vs H Q} {E : XK} (h : sp_Rack_put T vs H Q E) : t_Rack_put T E { nx := fun _ H' => Q .non H', rt := Q } (L2.start n_Rack_put vs) H := by
  obtain ⟨p, sh, wl, sl, rr, R, k, k2, k3, x, y, z, d, e, f, rfl, A, g, g2, g3, qv, qe, qf, qc⟩ := h
  refine q_meth A (ev_var rfl) (by decide +kernel) (by decide +kernel) (by decide +kernel) (by decide +kernel) (ea_1 (ev_var rfl)) fun H1 e1 => ⟨p, sh, wl, sl, rr, R, k, x, d, rfl, A.ex e1, g.ex e1, fun c H2 e2 => ?_, fun c H2 dd e2 ed => qe c H2 dd (e1.trans e2) ed⟩
  have E2 := e1.trans e2
  refine q_meth (A.ex E2) (ev_var rfl) (by decide +kernel) (by decide +kernel) (by decide +kernel) (by decide +kernel) (ea_1 (ev_var rfl)) fun H3 e3 => ⟨p, sh, wl, sl, rr, R, k2, y, e, rfl, A.ex (E2.trans e3), g2.ex (E2.trans e3), fun c2 H4 e4 => ?_, fun c2 H4 dd e4 ed => qf c c2 H4 dd ((E2.trans e3).trans e4) ed⟩
  have E4 := (E2.trans e3).trans e4
  have A4 := A.ex E4
  refine q_when (et_not (et_B (ev_call (ea_2 (rk_shape A4 (ev_var rfl)) (ev_var rfl)) (v_cell_fits T A4.fS (g3.ex E4))))) (fun c3 H5 e5 => ?_) (fun c3 H5 e5 => ?_)
  · exact s_raise1 ev_c T.o_BadCell T.n_BadCell_what fun dd H6 e6 ed => qc c c2 (by simpa using c3) H6 dd ((E4.trans e5).trans e6) ed
  · obtain ⟨i, rfl, hi⟩ := within_nat c
    obtain ⟨j, rfl, hj⟩ := within_nat (n := R.s.c + R.s.n) (by rw [Int.natCast_add]; exact c2)
    obtain ⟨r, rfl, hr1, hr2⟩ := rowD_ints (by simpa using c3 : rowD f R.s.w R.s.p = true)
    cases g.dp
    cases g2.dp
    have E5 := E4.trans e5
    have A5 := A.ex E5
    obtain ⟨zb, rfl, hzb, _⟩ := gd_ints_of (g3.ex E5)
    have hir : i < rr.length := by rw [A.rn]; exact hi
    have hb := List.getElem?_eq_getElem hir
    refine s_when (et_neLost A5 (ev_var rfl) (ev_var rfl) hj) (fun c4 H6 e6 => ?_) (fun c4 H6 e6 => ?_)
    · have nl : ¬ 2 ≤ R.ways.getD j 0 := by simpa using c4
      have A6 := A5.ex e6
      refine s_setO (o := some r) (A6.lo i _ hb) (ev_var rfl) ⟨zb, rfl, ex_t e6 hzb⟩ (rk_row A6 (ev_var rfl) (ev_var rfl) hb) (ev_var rfl) hj fun H7 vs e7 hlo => ?_
      refine qv i j r rfl rfl rfl hi hj hr1 hr2 _ (((A6.ex e7).setRow hb hlo).cellEq fun r' x' _ => ?_) ((Fr.ex ((E5.trans e6).trans e7)).upd (List.mem_of_getElem? hb))
      show (if r' = i then fun x => if x = j then some r else R.cell i x else R.cell r') x' = (if 2 ≤ R.ways.getD j 0 then R.cell else putC R.cell i j (some r)) r' x'
      rw [if_neg nl]
      unfold putC
      by_cases c5 : r' = i
      · subst c5
        rw [if_pos rfl]
        by_cases c6 : x' = j
        · rw [if_pos c6, if_pos ⟨rfl, c6⟩]
        · rw [if_neg c6, if_neg (fun z => c6 z.2)]
      · rw [if_neg c5, if_neg (fun z => c5 z.1)]
    · have nl : 2 ≤ R.ways.getD j 0 := by simpa using c4
      refine qv i j r rfl rfl rfl hi hj hr1 hr2 _ ((A5.ex e6).cellEq fun r' x' _ => ?_) (.ex (E5.trans e6))
      show R.cell r' x' = (if 2 ≤ R.ways.getD j 0 then R.cell else putC R.cell i j (some r)) r' x'
      rw [if_pos nl]
theorem ok_Rack_put (T : Txt K mg) : FnOk P w K mg base (L2.CX P w) 4 T.f_Rack_put T.fd_Rack_put ["self", "row", "shelf", "cell"] (sp_Rack_put T) :=
  T.d_Rack_put.F.okX sc_Rack_put (fun vs H Q E h => len_Rack_put T h) fun cdv A outer s H vs Q E hr h => ⟨t_Rack_put T E, by
    exact (pss_cons (ps_expr (pe_meth (pv 0) T.cl_Rack T.d_Rack_check_row.m (ok_Rack_check_row T) (hr.mono (by decide)) T.d_Rack_check_row.b .nil (passes_call (takes_of rfl rfl rfl rfl) fun _ _ _ _ h => h) (pa_cons (pv 1) pa_nil))) (pss_cons (ps_expr (pe_meth (pv 0) T.cl_Rack T.d_Rack_check_shelf.m (ok_Rack_check_shelf T) (hr.mono (by decide)) T.d_Rack_check_shelf.b .nil (passes_call (takes_of rfl rfl rfl rfl) fun _ _ _ _ h => h) (pa_cons (pv 2) pa_nil))) (pss_cons (ps_if (pt_not (pt_val (pe_call (ok_cell_fits T) (hr.mono (by decide)) (by rfl) T.d_cell_fits.g T.d_cell_fits.F.kp T.d_cell_fits.b .nil pass0 (pa_cons (pe_fld (pv 0) rfl) (pa_cons (pv 3) pa_nil))))) (pss_one (ps_raise rfl (takes_of rfl rfl rfl rfl) (pmk_oex T.o_BadCell T.i_BadCell T.ti (ok_init T) (hr.mono (by decide)) T.b_init .nil pass0 (by rfl) T.g_BadCell (pa_cons pe_int pa_nil)))) pss_nil) (pss_one (ps_if (pt_cmpR op_ne (pe_ix ix_list (pe_fld (pv 0) rfl) (pv 2) (fun _ _ => rfl)) (pe_glob (v := .str "lost") (by rfl) T.v_LOST ⟨_, rfl⟩) (nomark _)) (pss_one (ps_asg (pv 3) (pg_sub (pe_ix ix_list (pe_fld (pv 0) rfl) (pv 1) (fun _ _ => rfl)) (pv 2) set_list))) pss_nil))))), pure_Rack_put T h⟩

end
end My


set_option maxHeartbeats 1000000
namespace My
open PySem PySem.Spec PyProof.Rows L2 Own LamX
open Evl (Ex RetV)
section
variable {P : Program} {w : World} {K : PySem.W.Frag} {mg : Str → Option Value} {base : Heap}

open Evl
/-! ### racks: replace, lose, left -/
theorem el_lcE {b : Bool} {ta : TA} {a : Addr} {xs : List V} {i j : Nat} {vs : List Nat} {t : TT} {te : TE} {σ : L2.St} {H : Hp} (f : Nat → Bool) (v : Nat → V) (h : EvA ta σ H [.ref a]) (hx : SqB b K H a xs) (hn : xs.length ≤ 40000)
    (hw : ∀ x y, wipe (((wipe σ vs).set i (some x)).set j (some y)) vs = wipe σ vs)
    (ht : ∀ (m : Nat) x H1, Ex H H1 → xs[m]? = some x → EvT t (((wipe σ vs).set i (some (.int (m : Int)))).set j (some x)) H1 (f m)) (he : ∀ (m : Nat) x H1, Ex H H1 → xs[m]? = some x → f m = true → Ev te (((wipe σ vs).set i (some (.int (m : Int)))).set j (some x)) H1 (v m)) :
    EvL (tLc (iEnumB b K ta) (gTup K 2 (gCons (gName i) (gCons (gName j) gNil))) t te vs) σ H (given xs.length f v) := fun H0 e Q q => h H0 e _ fun H1 e1 => ⟨a, xs, rfl, ex_B (e.trans e1) hx, fun Dl hD =>
  lc_it walk_enumB (Cw H1 f v Dl) ⟨hD, Ex.new hD, upd_same⟩ (fun i H' _ p => ex_B ((e.trans e1).trans p.2.1) hx)
    (fun m z H2 H3 hm => by
      rintro p ⟨T, x, y, rfl, hT, rfl, h1, h2⟩
      injection h1 with h1
      subst h1
      have nT : Dl ≠ T := fun z => by have := p.2.2; rw [z, hT] at this; cases this
      have p' : Cw H1 f v Dl m (upd H2 T (.tup [.int (m : Int), y])) := ⟨p.1, p.2.1.trans (Ex.new hT), by rw [upd_ne nT]; exact p.2.2⟩
      exact ⟨T, _, rfl, st_of upd_same, rfl, _, _, rfl, y, _, rfl, rfl, hw _ y, cw_turn p' (by omega) (ht m y H1 (e.trans e1) h2) (fun hf => he m y H1 (e.trans e1) h2 hf)⟩)
    (fun H' p => q Dl H' (fresh_back e1 p.1) (e1.trans p.2.1) p.2.2)⟩

theorem et_neDI {σ : L2.St} {H : Hp} {ta tb : TE} {i j : Int} (ha : Ev ta σ H (.int i)) (hb : Ev tb σ H (.int j)) : EvT (tTest (tOp (rNeD K) ta tb)) σ H (!decide (i = j)) := et_test fun H1 u Q q => ha H1 u _ fun H2 u2 => hb H2 (u.trans u2) _ fun H3 u3 => by
  refine ⟨.int i, .int j, .int i, .int j, rfl, rfl, ?_⟩
  have e : PyData.eqv (.int i) (.int j) = decide (i = j) := by
    show (i == j) = decide (i = j)
    rfl
  rw [e]
  exact q H3 (u2.trans u3)
def zeroC (s : Shp) : Ro := 0 :: List.replicate (s.w - 1) 0
def replR (R : Rk) (j : Nat) : Rk := { R with ways := R.ways.set j 1, cell := fillC R.cell j (some (zeroC R.s)) }
def loseR (R : Rk) (j : Nat) : Rk := { R with ways := R.ways.set j 2, cell := fillC R.cell j none }
def sp_Rack_replace (T : Txt K mg) : Sp := fun vs H Q E => ∃ p sh wl sl rr R k y e, vs = [.ref p, y] ∧ RkA T p sh wl sl rr R H ∧ Gd K H k y e ∧
  (∀ j : Nat, e = .int j → j < R.s.c + R.s.n → 2 ≤ R.ways.getD j 0 → ∀ H', RkA T p sh wl sl rr (replR R j) H' → Fr (wl :: rr) H H' → Q .non H') ∧
  (within e 0 ((R.s.c + R.s.n : Int) - 1) = false → ∀ H' dd, Ex H H' → Wh H' dd y → E (.ref T.c_BadShelf) (some dd) H') ∧
  (∀ j : Nat, e = .int j → j < R.s.c + R.s.n → ¬ 2 ≤ R.ways.getD j 0 → ∀ H' dd, Ex H H' → Wh H' dd y → E (.ref T.c_NotLost) (some dd) H')
theorem len_Rack_replace (T : Txt K mg) {vs H Q E} (h : sp_Rack_replace T vs H Q E) : vs.length = 2 := by obtain ⟨_, _, _, _, _, _, _, _, _, rfl, _⟩ := h; rfl
theorem Fr.more {L L' : List Addr} {H H' : Hp} (h : Fr L H H') (l : ∀ x ∈ L, x ∈ L') : Fr L' H H' := fun b o n e => h b o (fun z => n (l b z)) e
def t_Rack_replace (T : Txt K mg) (E : XK) : TS := (tSeq (tDrop (tMeth T.c_Rack "check_shelf" (sp_Rack_check_shelf T) [] E (tVar 0) (tCons (tVar 1) tNil))) (tSeq (tIfS (tTest (tOp rNe (tOp (rIxL K) (tFld K (tVar 0) "ways") (tVar 1)) (tC (.str "lost")))) (tRaise E (tMkO T.c_NotLost (spInit K) [] (tCons (tVar 1) tNil))) tNext) (tSeq (tAsg (tC (.str "raw")) (gSub (tFld K (tVar 0) "ways") (tVar 1) rSetL)) (tDrop (tMeth T.c_Rack "fill" (sp_Rack_fill T) [] E0 (tVar 0) (tCons (tVar 1) (tCons (tCall (sp_as_cell T) [] E0 (tCons (tFld K (tVar 0) "shape") (tCons (tC (.int 0)) tNil))) tNil)))))))

theorem pure_Rack_replace (T : Txt K mg) {vs H Q} {E : XK} (h : sp_Rack_replace T vs H Q E) : t_Rack_replace T E { nx := fun _ H' => Q .non H', rt := Q } (L2.start n_Rack_replace vs) H := by
  obtain ⟨p, sh, wl, sl, rr, R, k, y, e, rfl, A, g, qv, qf, ql⟩ := h
  refine q_meth A (ev_var rfl) (by decide +kernel) (by decide +kernel) (by decide +kernel) (by decide +kernel) (ea_1 (ev_var rfl)) fun H1 e1 => ⟨p, sh, wl, sl, rr, R, k, y, e, rfl, A.ex e1, g.ex e1, fun c H2 e2 => ?_, fun c H2 dd e2 ed => qf c H2 dd (e1.trans e2) ed⟩
  have E2 := e1.trans e2
  have A2 := A.ex E2
  obtain ⟨j, rfl, hj⟩ := within_nat (n := R.s.c + R.s.n) (by rw [Int.natCast_add]; exact c)
  cases g.dp
  refine q_when (et_neLost A2 (ev_var rfl) (ev_var rfl) hj) (fun c3 H3 e3 => ?_) (fun c3 H3 e3 => ?_)
  · exact s_raise1 (ev_var rfl) T.o_NotLost T.n_NotLost_what fun dd H4 e4 ed => ql j rfl hj (by simpa using c3) H4 dd ((E2.trans e3).trans e4) ed
  · have E3 := E2.trans e3
    have A3 := A.ex E3
    refine q_setL (j := j) A3.fW (ev_c (v := .str "raw")) (rk_ways A3 (ev_var rfl)) (ev_var rfl) (by rw [List.length_map, A.wn]; exact hj) fun H4 e4 => ?_
    have A4 : RkA T p sh wl sl rr { R with ways := R.ways.set j 1 } (upd H4 wl (.lst ((R.ways.map wayV).set j (.str "raw")))) := (A3.ex e4).setWay (j := j) (w := 1)
    have f4 : Fr (wl :: rr) H (upd H4 wl (.lst ((R.ways.map wayV).set j (.str "raw")))) := (Fr.ex (E3.trans e4)).upd List.mem_cons_self
    generalize upd H4 wl (.lst ((R.ways.map wayV).set j (.str "raw"))) = H5 at A4 f4 ⊢
    obtain ⟨dx, hob⟩ := A4.ob
    refine ⟨_, rfl, p, dx, _, rfl, hob, rkF_no (by decide +kernel) (by decide +kernel) (by decide +kernel) (by decide +kernel), _, rfl, ?_⟩
    refine rk_shape A4 (ev_var rfl) H5 (.refl H5) _ fun H6 e6 => ⟨sh, R.s, 0, rfl, A4.fS.ex e6, A.ok, fun b H7 e7 hb => ⟨p, sh, wl, sl, rr, _, j, .ref b, some (zeroC R.s), rfl, A4.ex (e6.trans e7), hj, ⟨b, rfl, hb⟩, fun H8 A8 f8 => qv j rfl hj (by simpa using c3) H8 A8 ((f4.trans (.ex (e6.trans e7))).trans (f8.more fun x hx => List.mem_cons_of_mem _ hx))⟩⟩
theorem ok_Rack_replace (T : Txt K mg) : FnOk P w K mg base (L2.CX P w) 4 T.f_Rack_replace T.fd_Rack_replace ["self", "shelf"] (sp_Rack_replace T) :=
  T.d_Rack_replace.F.okX sc_Rack_replace (fun vs H Q E h => len_Rack_replace T h) fun cdv A outer s H vs Q E hr h => ⟨t_Rack_replace T E, by
    exact (pss_cons (ps_expr (pe_meth (pv 0) T.cl_Rack T.d_Rack_check_shelf.m (ok_Rack_check_shelf T) (hr.mono (by decide)) T.d_Rack_check_shelf.b .nil (passes_call (takes_of rfl rfl rfl rfl) fun _ _ _ _ h => h) (pa_cons (pv 1) pa_nil))) (pss_cons (ps_if (pt_cmpR op_ne (pe_ix ix_list (pe_fld (pv 0) rfl) (pv 1) (fun _ _ => rfl)) (pe_glob (v := .str "lost") (by rfl) T.v_LOST ⟨_, rfl⟩) (nomark _)) (pss_one (ps_raise rfl (takes_of rfl rfl rfl rfl) (pmk_oex T.o_NotLost T.i_NotLost T.ti (ok_init T) (hr.mono (by decide)) T.b_init .nil pass0 (by rfl) T.g_NotLost (pa_cons (pv 1) pa_nil)))) pss_nil) (pss_cons (ps_asg (pe_glob (v := .str "raw") (by rfl) T.v_RAW ⟨_, rfl⟩) (pg_sub (pe_fld (pv 0) rfl) (pv 1) set_list)) (pss_one (ps_expr (pe_meth (pv 0) T.cl_Rack T.d_Rack_fill.m (ok_Rack_fill T) (hr.mono (by decide)) T.d_Rack_fill.b .nil pass0 (pa_cons (pv 1) (pa_cons (pe_call (ok_as_cell T) (hr.mono (by decide)) (by rfl) T.d_as_cell.g T.d_as_cell.F.kp T.d_as_cell.b .nil pass0 (pa_cons (pe_fld (pv 0) rfl) (pa_cons pe_int pa_nil))) pa_nil)))))))), pure_Rack_replace T h⟩

def nOth (R : Rk) (j : Nat) : Nat := ((List.range (R.s.c + R.s.n)).filter fun i => !decide (R.ways.getD i 0 = 0) && !decide (i = j)).length
def sp_Rack_lose (T : Txt K mg) : Sp := fun vs H Q E => ∃ p sh wl sl rr R k y e, vs = [.ref p, y] ∧ RkA T p sh wl sl rr R H ∧ Gd K H k y e ∧
  (∀ j : Nat, e = .int j → j < R.s.c + R.s.n → nOth R j + 1 ≤ R.s.e → ∀ H', RkA T p sh wl sl rr (loseR R j) H' → Fr (wl :: rr) H H' → Q .non H') ∧
  (within e 0 ((R.s.c + R.s.n : Int) - 1) = false → ∀ H' dd, Ex H H' → Wh H' dd y → E (.ref T.c_BadShelf) (some dd) H') ∧
  (∀ j : Nat, e = .int j → j < R.s.c + R.s.n → ¬ nOth R j + 1 ≤ R.s.e → ∀ H' dd, Ex H H' → Wh H' dd (.int ((nOth R j : Int) + 1)) → E (.ref T.c_TooMany) (some dd) H')
theorem len_Rack_lose (T : Txt K mg) {vs H Q E} (h : sp_Rack_lose T vs H Q E) : vs.length = 2 := by obtain ⟨_, _, _, _, _, _, _, _, _, rfl, _⟩ := h; rfl
def t_Rack_lose (T : Txt K mg) (E : XK) : TS := (tSeq (tDrop (tMeth T.c_Rack "check_shelf" (sp_Rack_check_shelf T) [] E (tVar 0) (tCons (tVar 1) tNil))) (tSeq (tAsg (tLc (iEnumB false K (tCons (tFld K (tVar 0) "ways") tNil)) (gTup K 2 (gCons (gName 3) (gCons (gName 4) gNil))) (tAnd (tTest (tOp rNe (tVar 4) (tC (.str "kept")))) (tTest (tOp (rNeD K) (tVar 3) (tVar 1)))) (tVar 3) [3, 4]) (gName 2)) (tSeq (tIfS (tTest (tOp rGtI (tOp rAddI (tCB (rLenV K) (tCons (tVar 2) tNil)) (tC (.int 1))) (tOp (rIxT K) (tFld K (tVar 0) "shape") (tC (.int 4))))) (tRaise E (tMkO T.c_TooMany (spInit K) [] (tCons (tOp rAddI (tCB (rLenV K) (tCons (tVar 2) tNil)) (tC (.int 1))) tNil))) tNext) (tSeq (tAsg (tC (.str "lost")) (gSub (tFld K (tVar 0) "ways") (tVar 1) rSetL)) (tDrop (tMeth T.c_Rack "fill" (sp_Rack_fill T) [] E0 (tVar 0) (tCons (tVar 1) (tCons (tC .non) tNil))))))))

theorem pure_Rack_lose (T : Txt K mg) {vs H Q} {E : XK} (h : sp_Rack_lose T vs H Q E) : t_Rack_lose T E { nx := fun _ H' => Q .non H', rt := Q } (L2.start n_Rack_lose vs) H := by
  obtain ⟨p, sh, wl, sl, rr, R, k, y, e, rfl, A, g, qv, qf, ql⟩ := h
  refine q_meth A (ev_var rfl) (by decide +kernel) (by decide +kernel) (by decide +kernel) (by decide +kernel) (ea_1 (ev_var rfl)) fun H1 e1 => ⟨p, sh, wl, sl, rr, R, k, y, e, rfl, A.ex e1, g.ex e1, fun c H2 e2 => ?_, fun c H2 dd e2 ed => qf c H2 dd (e1.trans e2) ed⟩
  have E2 := e1.trans e2
  have A2 := A.ex E2
  obtain ⟨j, rfl, hj⟩ := within_nat (n := R.s.c + R.s.n) (by rw [Int.natCast_add]; exact c)
  cases g.dp
  have on := A.ok.n; have oc : R.s.c ≤ 8 := A.ok.c
  have wn := A.wn
  have lc := el_lcE (K := K) (b := false) (σ := [some (.ref p), some (.int (j : Int)), none, none, none]) (H := H2) (i := 3) (j := 4) (vs := [3, 4]) (ta := tCons (tFld K (tVar 0) "ways") tNil) (t := tAnd (tTest (tOp rNe (tVar 4) (tC (.str "kept")))) (tTest (tOp (rNeD K) (tVar 3) (tVar 1)))) (te := tVar 3) (fun i => !decide (R.ways.getD i 0 = 0) && !decide (i = j)) (fun i => .int (i : Int)) (ea_1 (rk_ways A2 (ev_var rfl))) (sq_of (K := K) A2.fW) (by rw [List.length_map]; omega) (fun x y => rfl)
    (fun m x H3 e3 hx => by
      rw [List.getElem?_map] at hx
      have hm : m < R.ways.length := by
        by_cases z : m < R.ways.length
        · exact z
        · rw [List.getElem?_eq_none (by omega)] at hx; cases hx
      rw [List.getElem?_eq_getElem hm] at hx
      injection hx with hx
      subst hx
      rw [getD_lt hm]
      refine et_and ?_ fun _ => ?_
      · have := et_test (ev_op (z := .bl (!decide (wayV R.ways[m] = V.str "kept"))) (ev_var (i := 4) (σ := [some (.ref p), some (.int (j : Int)), none, some (.int (m : Int)), some (wayV R.ways[m])]) (H := H3) rfl) (ev_c (v := .str "kept")) (rv_ne rfl))
        rwa [way_kept] at this
      · have := et_neDI (K := K) (i := (m : Int)) (j := (j : Int)) (σ := [some (.ref p), some (.int (j : Int)), none, some (.int (m : Int)), some (wayV R.ways[m])]) (H := H3) (ev_var (i := 3) rfl) (ev_var (i := 1) rfl)
        rwa [show decide ((m : Int) = (j : Int)) = decide (m = j) by by_cases z : m = j <;> simp [z]; omega] at this)
    (fun m x H3 e3 hx _ => ev_var rfl)
  rw [List.length_map, wn] at lc
  refine q_asgL lc fun ol H3 nol e3 hol => ?_
  have E3 := E2.trans e3
  have A3 := A.ex E3
  have lo : (given (R.s.c + R.s.n) (fun i => !decide (R.ways.getD i 0 = 0) && !decide (i = j)) (fun i => V.int (i : Int))).length = nOth R j := by unfold given nOth; rw [List.length_map]
  have len : ∀ {H4 : Hp}, Ex H3 H4 → Ev (tOp rAddI (tCB (rLenV K) (tCons (tVar 2) tNil)) (tC (.int 1))) [some (.ref p), some (.int (j : Int)), some (.ref ol), none, none] H4 (.int ((nOth R j : Int) + 1)) := fun e4 => by
    have := ev_lenL (K := K) (σ := [some (.ref p), some (.int (j : Int)), some (.ref ol), none, none]) (ta := tVar 2) (ev_var rfl) (sq_of (e4 _ _ hol))
    rw [lo] at this
    exact ev_addI this ev_c
  obtain ⟨shb, hsq, _⟩ := id A3.fS
  refine q_when (ev_gtI (len (.refl _)) (ev_ixT (rk_shape A3 (ev_var rfl)) ev_c hsq (atI_nat (j := 4) rfl))) (fun c3 H4 e4 => ?_) (fun c3 H4 e4 => ?_)
  · have c3' := of_decide_eq_true c3
    exact s_raise1 (len e4) T.o_TooMany T.n_TooMany_what fun dd H5 e5 ed => ql j rfl hj (by omega) H5 dd ((E3.trans e4).trans e5) ed
  · have c3' := of_decide_eq_false c3
    have E4 := E3.trans e4
    have A4 := A.ex E4
    refine q_setL (j := j) A4.fW (ev_c (v := .str "lost")) (rk_ways A4 (ev_var rfl)) (ev_var rfl) (by rw [List.length_map, A.wn]; exact hj) fun H5 e5 => ?_
    have A5 : RkA T p sh wl sl rr { R with ways := R.ways.set j 2 } (upd H5 wl (.lst ((R.ways.map wayV).set j (.str "lost")))) := (A4.ex e5).setWay (j := j) (w := 2)
    have f5 : Fr (wl :: rr) H (upd H5 wl (.lst ((R.ways.map wayV).set j (.str "lost")))) := (Fr.ex (E4.trans e5)).upd List.mem_cons_self
    generalize upd H5 wl (.lst ((R.ways.map wayV).set j (.str "lost"))) = H6 at A5 f5 ⊢
    obtain ⟨dx, hob⟩ := A5.ob
    exact ⟨_, rfl, p, dx, _, rfl, hob, rkF_no (by decide +kernel) (by decide +kernel) (by decide +kernel) (by decide +kernel), _, rfl, p, sh, wl, sl, rr, _, j, .non, none, rfl, A5, hj, rfl, fun H8 A8 f8 => qv j rfl hj (by omega) H8 A8 (f5.trans (f8.more fun x hx => List.mem_cons_of_mem _ hx))⟩
theorem ok_Rack_lose (T : Txt K mg) : FnOk P w K mg base (L2.CX P w) 4 T.f_Rack_lose T.fd_Rack_lose ["self", "shelf"] (sp_Rack_lose T) :=
  T.d_Rack_lose.F.okX sc_Rack_lose (fun vs H Q E h => len_Rack_lose T h) fun cdv A outer s H vs Q E hr h => ⟨t_Rack_lose T E, by
    exact (pss_cons (ps_expr (pe_meth (pv 0) T.cl_Rack T.d_Rack_check_shelf.m (ok_Rack_check_shelf T) (hr.mono (by decide)) T.d_Rack_check_shelf.b .nil (passes_call (takes_of rfl rfl rfl rfl) fun _ _ _ _ h => h) (pa_cons (pv 1) pa_nil))) (pss_cons (ps_setLc (i := 2) (own := [("other", 3), ("way", 4)]) (g := (gTup K 2 (gCons (gName 3) (gCons (gName 4) gNil)))) (tt := (tAnd (tTest (tOp rNe (tVar 4) (tC (.str "kept")))) (tTest (tOp (rNeD K) (tVar 3) (tVar 1))))) (te := (tVar 3)) rfl sc_Rack_lose.nd rfl rfl (sw_true rfl rfl rfl (by decide +kernel)) (pi_enumB false (by rfl) T.m_enumerate (pa_cons (pe_fld (pv 0) rfl) pa_nil)) (blkOk_by (own := [("other", 3), ("way", 4)]) (N := n_Rack_lose) (sc := defScope s_Rack_lose) (by decide +kernel)) (fun _ _ _ _ _ => (pg_tup rfl (pgs_cons (pg_name (i := 3) sc_Rack_lose.nd rfl (Or.inl rfl)) (pgs_cons (pg_name (i := 4) sc_Rack_lose.nd rfl (Or.inl rfl)) pgs_nil)))) (fun _ _ _ _ _ => pts_one (PW.pt (pw_and (pt_cmpR op_ne (pv 4) (pe_glob (v := .str "kept") (by rfl) T.v_KEPT ⟨_, rfl⟩) (nomark _)) (pw_and1 (pt_cmpR (op_neD hr.units) (pv 3) (pv 1) (nomark _)))))) (fun _ _ _ _ _ => (pv 3))) (pss_cons (ps_if (pt_cmpR op_gt (pe_op op_add (pe_callB call_len (by rfl) T.m_len (by decide +kernel) (pa_cons (pv 2) pa_nil)) pe_int) (pe_ix ix_tup (pe_fld (pv 0) rfl) pe_int (fun _ _ => rfl)) (nomark _)) (pss_one (ps_raise rfl (takes_of rfl rfl rfl rfl) (pmk_oex T.o_TooMany T.i_TooMany T.ti (ok_init T) (hr.mono (by decide)) T.b_init .nil pass0 (by rfl) T.g_TooMany (pa_cons (pe_op op_add (pe_callB call_len (by rfl) T.m_len (by decide +kernel) (pa_cons (pv 2) pa_nil)) pe_int) pa_nil)))) pss_nil) (pss_cons (ps_asg (pe_glob (v := .str "lost") (by rfl) T.v_LOST ⟨_, rfl⟩) (pg_sub (pe_fld (pv 0) rfl) (pv 1) set_list)) (pss_one (ps_expr (pe_meth (pv 0) T.cl_Rack T.d_Rack_fill.m (ok_Rack_fill T) (hr.mono (by decide)) T.d_Rack_fill.b .nil pass0 (pa_cons (pv 1) (pa_cons pe_non pa_nil))))))))), pure_Rack_lose T h⟩

end
end My


set_option maxHeartbeats 1000000
namespace My
open PySem PySem.Spec PyProof.Rows L2 Own LamX
open Evl (Ex RetV)
section
variable {P : Program} {w : World} {K : PySem.W.Frag} {mg : Str → Option Value} {base : Heap}

open Evl
/-! ### racks: left, made -/
def leftC (R : Rk) (i : Nat) : Nat → Option Ro := fun j => if R.ways.getD j 0 = 0 then R.cell i j else none
def sp_Rack_left (T : Txt K mg) : Sp := fun vs H Q E => ∃ p sh wl sl rr R k x d, vs = [.ref p, x] ∧ RkA T p sh wl sl rr R H ∧ Gd K H k x d ∧
  (∀ i : Nat, d = .int i → i < R.rows → ∀ b H', Ex H H' → TupO K b (R.s.c + R.s.n) (leftC R i) H' → Q (.ref b) H') ∧
  (within d 0 ((R.rows : Int) - 1) = false → ∀ H' dd, Ex H H' → Wh H' dd x → E (.ref T.c_BadNumber) (some dd) H')
theorem len_Rack_left (T : Txt K mg) {vs H Q E} (h : sp_Rack_left T vs H Q E) : vs.length = 2 := by obtain ⟨_, _, _, _, _, _, _, _, _, rfl, _⟩ := h; rfl
def t_Rack_left (T : Txt K mg) (E : XK) : TS := (tSeq (tDrop (tMeth T.c_Rack "check_row" (sp_Rack_check_row T) [] E (tVar 0) (tCons (tVar 1) tNil))) (tRet (tCB (rTupOf K) (tCons (tLc (iZipB false false K (tCons (tOp (rIxL K) (tFld K (tVar 0) "stripes") (tVar 1)) (tCons (tFld K (tVar 0) "ways") tNil))) (gTup K 2 (gCons (gName 2) (gCons (gName 3) gNil))) tYes (tIf (tTest (tOp rEq (tVar 3) (tC (.str "kept")))) (tVar 2) (tC .non)) [2, 3]) tNil))))

theorem pure_Rack_left (T : Txt K mg) {vs H Q} {E : XK} (h : sp_Rack_left T vs H Q E) : t_Rack_left T E { nx := fun _ H' => Q .non H', rt := Q } (L2.start n_Rack_left vs) H := by
  obtain ⟨p, sh, wl, sl, rr, R, k, x, d, rfl, A, g, qv, qe⟩ := h
  refine q_meth A (ev_var rfl) (by decide +kernel) (by decide +kernel) (by decide +kernel) (by decide +kernel) (ea_1 (ev_var rfl)) fun H1 e1 => ⟨p, sh, wl, sl, rr, R, k, x, d, rfl, A.ex e1, g.ex e1, fun c H2 e2 => ?_, fun c H2 dd e2 ed => qe c H2 dd (e1.trans e2) ed⟩
  have E2 := e1.trans e2
  have A2 := A.ex E2
  obtain ⟨i, rfl, hi⟩ := within_nat c
  cases g.dp
  have hir : i < rr.length := by rw [A.rn]; exact hi
  have hb := List.getElem?_eq_getElem hir
  obtain ⟨cv, hcv, hcl, hcc⟩ := A2.lo i _ hb
  have on := A.ok.n; have oc : R.s.c ≤ 8 := A.ok.c
  have wn := A.wn
  have lc := el_lcZ (K := K) (t1 := false) (t2 := false) (σ := [some (.ref p), some (.int (i : Int)), none, none]) (H := H2) (i := 2) (j := 3) (vs := [2, 3]) (ta := tCons (tOp (rIxL K) (tFld K (tVar 0) "stripes") (tVar 1)) (tCons (tFld K (tVar 0) "ways") tNil)) (te := tIf (tTest (tOp rEq (tVar 3) (tC (.str "kept")))) (tVar 2) (tC .non)) (fun m => if R.ways.getD m 0 = 0 then cv.getD m .non else .non) (ea_2 (rk_row A2 (ev_var rfl) (ev_var rfl) hb) (rk_ways A2 (ev_var rfl))) (sq_of (K := K) hcv) (sq_of (K := K) A2.fW) (by rw [List.length_map]; omega) (by omega) (fun x y => rfl) (fun t a xs H' e h => ex_B e h)
    (fun m x y H3 e3 hx hy => by
      rw [List.getElem?_map] at hy
      have hm : m < R.ways.length := by have := (List.getElem?_eq_some_iff.mp hx).1; omega
      rw [List.getElem?_eq_getElem hm] at hy
      injection hy with hy
      subst hy
      rw [getD_lt hm, List.getD_eq_getElem?_getD, hx]
      have tst := et_test (ev_op (z := .bl (decide (wayV R.ways[m] = V.str "kept"))) (ev_var (i := 3) (σ := [some (.ref p), some (.int (i : Int)), some x, some (wayV R.ways[m])]) (H := H3) rfl) (ev_c (v := .str "kept")) (rv_eq rfl))
      rw [way_kept] at tst
      refine ev_if tst (fun h => ?_) (fun h => ?_)
      · rw [if_pos (of_decide_eq_true h)]; exact ev_var rfl
      · rw [if_neg (of_decide_eq_false h)]; exact ev_c)
  refine ex_tupL lc H2 (.refl H2) _ fun v H3 e3 ⟨b, ev, hbt⟩ => ?_
  subst ev
  refine qv i rfl hi b H3 (E2.trans e3) ⟨_, hbt, by rw [List.length_map, List.length_range, hcl], fun m v hv => ?_⟩
  rw [List.getElem?_map] at hv
  have hm : m < cv.length := by
    by_cases z : m < cv.length
    · exact z
    · rw [List.getElem?_eq_none (by rw [List.length_range]; omega)] at hv; cases hv
  rw [List.getElem?_range hm] at hv
  injection hv with hv
  subst hv
  show CellV K H3 (if R.ways.getD m 0 = 0 then cv.getD m .non else .non) (if R.ways.getD m 0 = 0 then R.cell i m else none)
  by_cases z : R.ways.getD m 0 = 0
  · rw [if_pos z, if_pos z, getD_lt hm]
    exact (hcc m _ (List.getElem?_eq_getElem hm)).kp (.ex e3)
  · rw [if_neg z, if_neg z]
    exact rfl
theorem ok_Rack_left (T : Txt K mg) : FnOk P w K mg base (L2.CX P w) 4 T.f_Rack_left T.fd_Rack_left ["self", "row"] (sp_Rack_left T) :=
  T.d_Rack_left.F.okX sc_Rack_left (fun vs H Q E h => len_Rack_left T h) fun cdv A outer s H vs Q E hr h => ⟨t_Rack_left T E, by
    exact (pss_cons (ps_expr (pe_meth (pv 0) T.cl_Rack T.d_Rack_check_row.m (ok_Rack_check_row T) (hr.mono (by decide)) T.d_Rack_check_row.b .nil (passes_call (takes_of rfl rfl rfl rfl) fun _ _ _ _ h => h) (pa_cons (pv 1) pa_nil))) (pss_one (ps_ret (pe_callTy call_tuple_of (by rfl) T.m_tuple (by decide +kernel) (pa_cons (pe_lc (own := [("cell", 2), ("way", 3)]) (g := (gTup K 2 (gCons (gName 2) (gCons (gName 3) gNil)))) (tt := tYes) (te := (tIf (tTest (tOp rEq (tVar 3) (tC (.str "kept")))) (tVar 2) (tC .non))) rfl sc_Rack_left.nd (pi_zipB false false (by rfl) T.m_zip (pa_cons (pe_ix ix_list (pe_fld (pv 0) rfl) (pv 1) (fun _ _ => rfl)) (pa_cons (pe_fld (pv 0) rfl) pa_nil))) (blkOk_by (own := [("cell", 2), ("way", 3)]) (N := n_Rack_left) (sc := defScope s_Rack_left) (by decide +kernel)) (fun _ _ _ _ _ => (pg_tup rfl (pgs_cons (pg_name (i := 2) sc_Rack_left.nd rfl (Or.inl rfl)) (pgs_cons (pg_name (i := 3) sc_Rack_left.nd rfl (Or.inl rfl)) pgs_nil)))) (fun _ _ _ _ _ => pts_nil) (fun _ _ _ _ _ => (pe_ifExp (pt_cmpR op_eq (pv 3) (pe_glob (v := .str "kept") (by rfl) T.v_KEPT ⟨_, rfl⟩) (nomark _)) (pv 2) pe_non))) pa_nil))))), pure_Rack_left T h⟩

end
end My


set_option maxHeartbeats 1000000
namespace My
open PySem PySem.Spec PyProof.Rows L2 Own LamX
open Evl (Ex RetV)
section
variable {P : Program} {w : World} {K : PySem.W.Frag} {mg : Str → Option Value} {base : Heap}

open Evl
/-! ### racks made -/
/-- new lists of cells, one a turn -/
def Lns (K : PySem.W.Frag) (H0 : Hp) (n N : Nat) (f : Nat → Option Ro) (Dl : Addr) (H : Hp) : Prop := ∃ refs : List Addr, H Dl = some (.lst (refs.map V.ref)) ∧ refs.length = n ∧ refs.Nodup ∧ Dl ∉ refs ∧ (∀ b ∈ refs, H0 b = none) ∧ ∀ b ∈ refs, LO K b N f H
theorem lo_upd {H : Hp} {b c : Addr} {N : Nat} {f : Nat → Option Ro} {xs ys : List V} (h : LO K b N f H) (n : b ≠ c) (hc : H c = some (.lst xs)) : LO K b N f (upd H c (.lst ys)) := let ⟨vs, h1, h2, h3⟩ := h; ⟨vs, by rw [upd_ne n]; exact h1, h2, fun i v hv => (h3 i v hv).kp (.lst hc)⟩
theorem en_lcNew {σ : L2.St} {H : Hp} {te : TE} {ta : TA} {j n N : Nat} {vs : List Nat} {f : Nat → Option Ro} (h : EvA ta σ H [.int (n : Int)]) (hn : n ≤ 1000) (hw : ∀ x, wipe ((wipe σ vs).set j (some x)) vs = wipe σ vs)
    (he : ∀ (i : Nat) H1, Ex H H1 → EvN te ((wipe σ vs).set j (some (.int (i : Int)))) H1 (fun l H' => LO K l N f H')) : EvN (tLc (iRng1 ta) (gName j) tYes te vs) σ H (fun Dl H' => Lns K H n N f Dl H') := fun H0 u Q q =>
  h H0 u _ fun H1 e1 => ⟨(n : Int), rfl, by omega, by omega, fun Dl hD => by
    have U1 := u.trans e1
    exact lc_range (lo := 0) (n := (n : Int).toNat) (fun i H' => Ex H1 H' ∧ Lns K H1 i N f Dl H') ⟨Ex.new hD, [], upd_same, rfl, .nil, List.not_mem_nil, fun b hb => absurd hb List.not_mem_nil, fun b hb => absurd hb List.not_mem_nil⟩
      (fun i H' hi ⟨e2, refs, hacc, hl, hnd, hDl, hnew, hlo⟩ => by
        show wipe ((wipe σ vs).set j (some (.int ((0 : Int) + (i : Int))))) vs = wipe σ vs ∧ te ((wipe σ vs).set j (some (.int ((0 : Int) + (i : Int))))) H' fun y H4 => ∃ acc, H4 Dl = some (.lst acc) ∧ acc.length < sizeLine ∧ (Ex H1 (upd H4 Dl (.lst (acc ++ [y]))) ∧ Lns K H1 (i + 1) N f Dl (upd H4 Dl (.lst (acc ++ [y]))))
        rw [Int.zero_add]
        refine ⟨hw _, he i H' (U1.trans e2) H' (.refl H') _ fun b H4 nb e4 lo => ?_⟩
        have h4 := e4 _ _ hacc
        have nDb : b ≠ Dl := fun z => by rw [z, hacc] at nb; cases nb
        have nbr : b ∉ refs := fun z => by obtain ⟨_, h, _⟩ := hlo b z; rw [nb] at h; cases h
        refine ⟨refs.map V.ref, h4, sz_lt (by rw [List.length_map]; omega), Ex.mut (e2.trans e4) hD, refs ++ [b], by rw [upd_same, List.map_append]; rfl, by rw [List.length_append, hl]; rfl, ?_, fun z => ?_, fun c hc => ?_, fun c hc => ?_⟩
        · exact List.nodup_append.mpr ⟨hnd, by simp, fun x hx y hy => by rw [List.mem_singleton.mp hy]; exact fun z => nbr (z ▸ hx)⟩
        · rcases List.mem_append.mp z with c | c
          · exact hDl c
          · exact nDb (List.mem_singleton.mp c).symm
        · rcases List.mem_append.mp hc with d | d
          · exact hnew c d
          · rw [List.mem_singleton.mp d]; exact fresh_back e2 nb
        · rcases List.mem_append.mp hc with d | d
          · exact lo_upd ((hlo c d).ex e4) (fun z => hDl (z ▸ d)) h4
          · rw [List.mem_singleton.mp d]; exact lo_upd lo nDb h4)
      (fun H' ⟨e2, refs, hacc, hl, hnd, hDl, hnew, hlo⟩ => q Dl H' (fresh_back e1 hD) (e1.trans e2) ⟨refs, hacc, by rw [hl]; rfl, hnd, hDl, fun b hb => fresh_back U1 (hnew b hb), hlo⟩)⟩
theorem en_repNew {σ : L2.St} {H : Hp} {te tb : TE} {k : Nat} {r : Ro} (h : EvX te σ H (fun v H' => ∃ b, v = .ref b ∧ SqT K H' b (r.map V.int))) (hk : Ev tb σ H (.int (k : Int))) (h1 : k ≤ 1000) : EvN (tOp rRep (tLst (tCons te tNil)) tb) σ H (fun l H' => LO K l k (fun _ => some r) H') := fun H1 u Q q =>
  h H1 u _ fun v H2 u2 ⟨b, ev, hb⟩ => ⟨by show 1 ≤ sizeLine; decide, fun p np => hk _ ((u.trans u2).trans (Ex.new np)) _ fun H3 e3 => ⟨p, k, [v], rfl, rfl, e3 _ _ upd_same, by omega, by omega, sz_of (by show 1 * (k : Int).toNat ≤ 100000; omega), fun l nl => by
    rw [rep_one]
    have E := ((Ex.new (o := .lst [v]) np).trans e3).trans (Ex.new (o := .lst (List.replicate (k : Int).toNat v)) nl)
    refine q l _ (fresh_back ((u2.trans (Ex.new np)).trans e3) nl) (u2.trans E) ⟨_, upd_same, by rw [List.length_replicate]; rfl, fun i w hw => ?_⟩
    have := List.eq_of_mem_replicate (List.mem_of_getElem? hw)
    subst this
    exact ⟨b, ev, ex_t E hb⟩⟩⟩
def newR (s : Shp) (n : Nat) : Rk := ⟨s, n, List.replicate (s.c + s.n) 0, fun _ _ => some (zeroC s)⟩
def sp_Rack_init (T : Txt K mg) : Sp := fun vs H Q E => ∃ p dx sh s k2 y e, vs = [.ref p, .ref sh, y] ∧ H p = some (.ins T.c_Rack dx []) ∧ Sh K sh s H ∧ s.Ok ∧ Gd K H k2 y e ∧
  (∀ n : Nat, e = .int n → 1 ≤ n → n ≤ 16 → ∀ wl sl rr H', RkA T p sh wl sl rr (newR s n) H' → (∀ b o, b ≠ p → H b = some o → H' b = some o) → H wl = none → H sl = none → (∀ b ∈ rr, H b = none) → Q .non H') ∧
  (within e 1 16 = false → ∀ H' dd, Ex H H' → Wh H' dd y → E (.ref T.c_BadNumber) (some dd) H')
theorem len_Rack_init (T : Txt K mg) {vs H Q E} (h : sp_Rack_init T vs H Q E) : vs.length = 3 := by obtain ⟨_, _, _, _, _, _, _, rfl, _⟩ := h; rfl
def t_Rack_init (T : Txt K mg) (E : XK) : TS := (tSeq (tDrop (tCall (sp_made_shape T) [] E (tCons (tVar 1) tNil))) (tSeq (tIfS (tNot (tB (tCall (sp_number_within T) [] E0 (tCons (tVar 2) (tCons (tC (.int 1)) (tCons (tC (.int 16)) tNil)))))) (tRaise E (tMkO T.c_BadNumber (spInit K) [] (tCons (tVar 2) tNil))) tNext) (tSeq (sFld K (tVar 0) (tVar 1) "shape") (tSeq (sFld K (tVar 0) (tVar 2) "rows") (tSeq (sFld K (tVar 0) (tOp rRep (tLst (tCons (tC (.str "kept")) tNil)) (tCall (sp_shelves_of T) [] E0 (tCons (tVar 1) tNil))) "ways") (sFld K (tVar 0) (tLc (iRng1 (tCons (tVar 2) tNil)) (gName 3) tYes (tOp rRep (tLst (tCons (tCall (sp_as_cell T) [] E0 (tCons (tVar 1) (tCons (tC (.int 0)) tNil))) tNil)) (tCall (sp_shelves_of T) [] E0 (tCons (tVar 1) tNil))) [3]) "stripes"))))))

theorem s_fld {σ : L2.St} {H : Hp} {D : Ends} {ta tv : TE} {p C dx : Addr} {f : Str} {fs : List (Str × V)} {v : V} (hv : Ev tv σ H v) (h : Ev ta σ H (.ref p)) (hp : H p = some (.ins C dx fs)) (c : Cls K C) (n : NoAttr K C f) (l : fs.length < 1000) (k : ∀ H1, Ex H H1 → D.nx σ (upd H1 p (.ins C dx (putF f v fs)))) : sFld K ta tv f D σ H :=
  hv H (.refl H) _ fun H1 e1 => h H1 e1 _ fun H2 e2 => ⟨p, C, dx, fs, rfl, (e1.trans e2) _ _ hp, c, n, l, k H2 (e1.trans e2)⟩
theorem s_fldN {σ : L2.St} {H : Hp} {D : Ends} {tv : TE} {p C dx : Addr} {f : Str} {fs : List (Str × V)} {P : Addr → Hp → Prop} {i : Nat} (hv : EvN tv σ H P) (h : σ[i]? = some (some (.ref p))) (hp : H p = some (.ins C dx fs)) (c : Cls K C) (n : NoAttr K C f) (l : fs.length < 1000) (k : ∀ l H1, H l = none → Ex H H1 → P l H1 → D.nx σ (upd H1 p (.ins C dx (putF f (.ref l) fs)))) : sFld K (tVar i) tv f D σ H :=
  hv H (.refl H) _ fun b H1 nb e1 pb => ⟨_, h, p, C, dx, fs, rfl, e1 _ _ hp, c, n, l, k b H1 nb e1 pb⟩
theorem fresh_of {p b : Addr} {H H' : Hp} {o : HO} (f : ∀ b o, b ≠ p → H b = some o → H' b = some o) (hp : H' p = some o) (nb : H' b = none) : H b = none := by
  have n : b ≠ p := fun z => by rw [z, hp] at nb; cases nb
  cases h : H b with
  | none => rfl
  | some q => rw [f b q n h] at nb; cases nb
theorem sh_ins {sh p C dx : Addr} {s : Shp} {H : Hp} {o : HO} {fs : List (Str × V)} (h : Sh K sh s H) (hp : H p = some (.ins C dx fs)) : Sh K sh s (upd H p o) := by
  have sq : SqK K H (upd H p o) := But.sqT hp (fun _ z => by cases z) (fun _ _ z => by cases z) (But.upd (.refl _ _))
  obtain ⟨b, h1, refs, q1, q2, q3⟩ := h
  exact ⟨b, sq _ _ h1, refs, sq _ _ q1, q2, fun i c hc => sq _ _ (q3 i c hc)⟩
theorem lo_ins {b p C dx : Addr} {N : Nat} {f : Nat → Option Ro} {H : Hp} {o : HO} {fs : List (Str × V)} (h : LO K b N f H) (hp : H p = some (.ins C dx fs)) : LO K b N f (upd H p o) := by
  have sq : SqK K H (upd H p o) := But.sqT hp (fun _ z => by cases z) (fun _ _ z => by cases z) (But.upd (.refl _ _))
  obtain ⟨vs, h1, h2, h3⟩ := h
  have nb : b ≠ p := fun z => by rw [z, hp] at h1; cases h1
  refine ⟨vs, by rw [upd_ne nb]; exact h1, h2, fun i v hv => ?_⟩
  have := h3 i v hv
  cases hf : f i with
  | none => rw [hf] at this; exact this
  | some r => rw [hf] at this; obtain ⟨c, e1, e2⟩ := this; exact ⟨c, e1, sq _ _ e2⟩
theorem pure_Rack_init (T : Txt K mg) {vs H Q} {E : XK} (h : sp_Rack_init T vs H Q E) : t_Rack_init T E { nx := fun _ H' => Q .non H', rt := Q } (L2.start n_Rack_init vs) H := by
  obtain ⟨p, dx, sh, s, k2, y, e, rfl, hp, S, o, g, qv, qe⟩ := h
  have on := o.n; have oc : s.c ≤ 8 := o.c
  refine ⟨_, rfl, 3, _, shD s, rfl, S.gd o, fun _ H1 e1 => ?_, fun f hf => by rw [fault_ok o] at hf; cases hf⟩
  refine q_when (et_not (et_B (ev_call (ea_3 (ev_var rfl) ev_c ev_c) (v_number_within T (g.ex e1))))) (fun c H2 e2 => ?_) (fun c H2 e2 => ?_)
  · exact s_raise1 (ev_var rfl) T.o_BadNumber T.n_BadNumber_what fun dd H3 e3 ed => qe (by simpa using c) H3 dd ((e1.trans e2).trans e3) ed
  · obtain ⟨v, rfl, v0, v1⟩ := within_int (by simpa using c : within e 1 16 = true)
    obtain ⟨n, rfl⟩ : ∃ n : Nat, v = (n : Int) := ⟨v.toNat, by omega⟩
    cases g.dp
    have E2 := e1.trans e2
    have l0 : ([] : List (Str × V)).length < 1000 := by decide
    -- shape
    refine s_fld (D := { nx := _, rt := _, bk := _, ct := _ }) (ev_var rfl) (ev_var rfl) (E2 _ _ hp) T.cl_Rack T.na_Rack_shape l0 fun H3 e3 => ?_
    have hp3 := (E2.trans e3) _ _ hp
    have S4 := sh_ins (o := .ins T.c_Rack dx (putF "shape" (.ref sh) [])) (S.ex (E2.trans e3)) hp3
    have f4 : ∀ b o, b ≠ p → H b = some o → (upd H3 p (.ins T.c_Rack dx (putF "shape" (.ref sh) []))) b = some o := fun b o nb hb => by rw [upd_ne nb]; exact (E2.trans e3) _ _ hb
    have hp4 : (upd H3 p (.ins T.c_Rack dx (putF "shape" (.ref sh) []))) p = some (.ins T.c_Rack dx (putF "shape" (.ref sh) [])) := upd_same
    generalize upd H3 p (.ins T.c_Rack dx (putF "shape" (.ref sh) [])) = H4 at S4 f4 hp4 ⊢
    have l1 : (putF "shape" (.ref sh) []).length ≤ 1 := length_putF _ _ _
    dsimp only
    -- rows
    refine s_fld (D := { nx := _, rt := _, bk := _, ct := _ }) (ev_var rfl) (ev_var rfl) hp4 T.cl_Rack T.na_Rack_rows (by omega) fun H5 e5 => ?_
    have hp5 := e5 _ _ hp4
    have S6 := sh_ins (o := .ins T.c_Rack dx (putF "rows" (.int (n : Int)) (putF "shape" (.ref sh) []))) (S4.ex e5) hp5
    have f6 : ∀ b o, b ≠ p → H b = some o → (upd H5 p (.ins T.c_Rack dx (putF "rows" (.int (n : Int)) (putF "shape" (.ref sh) [])))) b = some o := fun b o nb hb => by rw [upd_ne nb]; exact e5 _ _ (f4 b o nb hb)
    have hp6 : (upd H5 p (.ins T.c_Rack dx (putF "rows" (.int (n : Int)) (putF "shape" (.ref sh) [])))) p = some (.ins T.c_Rack dx (putF "rows" (.int (n : Int)) (putF "shape" (.ref sh) []))) := upd_same
    generalize upd H5 p (.ins T.c_Rack dx (putF "rows" (.int (n : Int)) (putF "shape" (.ref sh) []))) = H6 at S6 f6 hp6 ⊢
    have l2 : (putF "rows" (.int (n : Int)) (putF "shape" (.ref sh) [])).length ≤ 2 := Nat.le_trans (length_putF _ _ _) (by omega)
    dsimp only
    -- ways
    have shv : ∀ {σ : L2.St} {H' : Hp}, σ[1]? = some (some (.ref sh)) → Sh K sh s H' → Ev (tCall (sp_shelves_of T) [] E0 (tCons (tVar 1) tNil)) σ H' (.int ((s.c + s.n : Nat) : Int)) := fun h S' => ev_is (ev_call (ea_1 (ev_var h)) (v_shelves_of T S')) (by rw [Int.natCast_add])
    refine s_fldN (D := { nx := _, rt := _, bk := _, ct := _ }) (P := fun l H' => H' l = some (.lst (List.replicate (s.c + s.n) (V.str "kept")))) (i := 0) (fun H7 u Q q => (el_rep (v := .str "kept") (σ := [some (.ref p), some (.ref sh), some (.int (n : Int)), none]) (k := ((s.c + s.n : Nat) : Int)) ev_c (shv rfl S6) (by omega) (by omega)) H7 u Q fun l H8 nl e8 hl => q l H8 nl e8 (by rw [Int.toNat_natCast] at hl; exact hl)) rfl hp6 T.cl_Rack T.na_Rack_ways (by omega) fun wl H7 nwl e7 hwl => ?_
    have hp7 := e7 _ _ hp6
    have nwp : wl ≠ p := fun z => by rw [z, hp6] at nwl; cases nwl
    have S8 := sh_ins (o := .ins T.c_Rack dx (putF "ways" (.ref wl) (putF "rows" (.int (n : Int)) (putF "shape" (.ref sh) [])))) (S6.ex e7) hp7
    have hwl8 : (upd H7 p (.ins T.c_Rack dx (putF "ways" (.ref wl) (putF "rows" (.int (n : Int)) (putF "shape" (.ref sh) []))))) wl = some (.lst (List.replicate (s.c + s.n) (V.str "kept"))) := by rw [upd_ne nwp]; exact hwl
    have f8 : ∀ b o, b ≠ p → H b = some o → (upd H7 p (.ins T.c_Rack dx (putF "ways" (.ref wl) (putF "rows" (.int (n : Int)) (putF "shape" (.ref sh) []))))) b = some o := fun b o nb hb => by rw [upd_ne nb]; exact e7 _ _ (f6 b o nb hb)
    have hp8 : (upd H7 p (.ins T.c_Rack dx (putF "ways" (.ref wl) (putF "rows" (.int (n : Int)) (putF "shape" (.ref sh) []))))) p = some (.ins T.c_Rack dx (putF "ways" (.ref wl) (putF "rows" (.int (n : Int)) (putF "shape" (.ref sh) [])))) := upd_same
    have nwH : H wl = none := fresh_of f6 hp6 nwl
    generalize upd H7 p (.ins T.c_Rack dx (putF "ways" (.ref wl) (putF "rows" (.int (n : Int)) (putF "shape" (.ref sh) [])))) = H8 at S8 hwl8 f8 hp8 ⊢
    have l3 : (putF "ways" (.ref wl) (putF "rows" (.int (n : Int)) (putF "shape" (.ref sh) []))).length ≤ 3 := Nat.le_trans (length_putF _ _ _) (by omega)
    dsimp only
    -- stripes
    refine s_fldN (D := { nx := _, rt := _, bk := _, ct := _ }) (P := fun l H' => Lns K H8 n (s.c + s.n) (fun _ => some (zeroC s)) l H') (i := 0) (en_lcNew (ea_1 (ev_var rfl)) (by omega) (fun x => rfl) fun i H9 e9 => en_repNew (r := zeroC s) (fun H10 u Q q => ⟨_, rfl, sh, s, 0, rfl, S8.ex (e9.trans u), o, fun b H' e hb => q (.ref b) H' e ⟨b, rfl, hb⟩⟩) (shv rfl (S8.ex e9)) (by omega)) rfl hp8 T.cl_Rack T.na_Rack_stripes (by omega) fun sl H9 nsl e9 ⟨rr, hsl, rl, rnd, rns, rnew, rlo⟩ => ?_
    have hp9 := e9 _ _ hp8
    have nsp : sl ≠ p := fun z => by rw [z, hp8] at nsl; cases nsl
    have nws : wl ≠ sl := fun z => by rw [z, nsl] at hwl8; cases hwl8
    refine qv n rfl (by omega) (by omega) wl sl rr _ ⟨⟨dx, upd_same⟩, sh_ins (S8.ex e9) hp9, o, ?_, List.length_replicate, by rw [upd_ne nsp]; exact hsl, rl, ⟨by show 1 ≤ n; omega, by show n ≤ 16; omega⟩, rnd, ⟨nws, (fun z => by have := rnew wl z; rw [hwl8] at this; cases this), rns⟩, fun i b hb => lo_ins (rlo b (List.mem_of_getElem? hb)) hp9⟩ (fun b o nb hb => by rw [upd_ne nb]; exact e9 _ _ (f8 b o nb hb)) nwH (fresh_of f8 hp8 nsl) fun b hb => fresh_of f8 hp8 (rnew b hb)
    rw [upd_ne nwp]
    show H9 wl = some (.lst ((List.replicate (s.c + s.n) 0).map wayV))
    rw [List.map_replicate]
    exact e9 _ _ hwl8
theorem ok_Rack_init (T : Txt K mg) : FnOk P w K mg base (L2.CX P w) 6 T.f_Rack_init T.fd_Rack_init ["self", "shape", "many"] (sp_Rack_init T) :=
  T.d_Rack_init.F.okX sc_Rack_init (fun vs H Q E h => len_Rack_init T h) fun cdv A outer s H vs Q E hr h => ⟨t_Rack_init T E, by
    exact (pss_cons (ps_expr (pe_call (ok_made_shape T) (hr.mono (by decide)) (by rfl) T.d_made_shape.g T.d_made_shape.F.kp T.d_made_shape.b .nil (passes_call (takes_of rfl rfl rfl rfl) fun _ _ _ _ h => h) (pa_cons (pv 1) pa_nil))) (pss_cons (ps_if (pt_not (pt_val (pe_call (ok_number_within T) (hr.mono (by decide)) (by rfl) T.d_number_within.g T.d_number_within.F.kp T.d_number_within.b .nil pass0 (pa_cons (pv 2) (pa_cons pe_int (pa_cons (pe_glob (v := .int 16) (by rfl) T.v_MOST_ROWS ⟨_, rfl⟩) pa_nil)))))) (pss_one (ps_raise rfl (takes_of rfl rfl rfl rfl) (pmk_oex T.o_BadNumber T.i_BadNumber T.ti (ok_init T) (hr.mono (by decide)) T.b_init .nil pass0 (by rfl) T.g_BadNumber (pa_cons (pv 2) pa_nil)))) pss_nil) (pss_cons (ps_fld (pv 0) (pv 1) rfl) (pss_cons (ps_fld (pv 0) (pv 2) rfl) (pss_cons (ps_fld (pv 0) (pe_op op_rep (pe_lst (pa_cons (pe_glob (v := .str "kept") (by rfl) T.v_KEPT ⟨_, rfl⟩) pa_nil)) (pe_call (ok_shelves_of T) (hr.mono (by decide)) (by rfl) T.d_shelves_of.g T.d_shelves_of.F.kp T.d_shelves_of.b .nil pass0 (pa_cons (pv 1) pa_nil))) rfl) (pss_one (ps_fld (pv 0) (pe_lc (own := [("_", 3)]) (g := (gName 3)) (tt := tYes) (te := (tOp rRep (tLst (tCons (tCall (sp_as_cell T) [] E0 (tCons (tVar 1) (tCons (tC (.int 0)) tNil))) tNil)) (tCall (sp_shelves_of T) [] E0 (tCons (tVar 1) tNil)))) rfl sc_Rack_init.nd (pi_range1 (by rfl) T.m_range (pa_cons (pv 2) pa_nil)) (blkOk_by (own := [("_", 3)]) (N := n_Rack_init) (sc := defScope s_Rack_init) (by decide +kernel)) (fun _ _ _ _ _ => (pg_name (i := 3) sc_Rack_init.nd rfl (Or.inl rfl))) (fun _ _ _ _ _ => pts_nil) (fun _ _ _ _ _ => (pe_op op_rep (pe_lst (pa_cons (pe_call (ok_as_cell T) (hr.mono (by decide)) (by rfl) T.d_as_cell.g T.d_as_cell.F.kp T.d_as_cell.b .nil pass0 (pa_cons (pv 1) (pa_cons pe_int pa_nil))) pa_nil)) (pe_call (ok_shelves_of T) (hr.mono (by decide)) (by rfl) T.d_shelves_of.g T.d_shelves_of.F.kp T.d_shelves_of.b .nil pass0 (pa_cons (pv 1) pa_nil))))) rfl))))))), pure_Rack_init T h⟩

end
end My


set_option maxHeartbeats 1000000
namespace My
open PySem PySem.Spec PyProof.Rows L2 Own LamX
open Evl (Ex RetV)
section
variable {P : Program} {w : World} {K : PySem.W.Frag} {mg : Str → Option Value} {base : Heap}

open Evl
/-! ### the draws -/
abbrev sp_law_take (T : Txt K mg) : Sp := spTake
abbrev sp_law_one (T : Txt K mg) : Sp := spOne K
abbrev sp_law_pool (T : Txt K mg) : Sp := spPool K
theorem len_law_take (T : Txt K mg) {vs H Q E} (h : sp_law_take T vs H Q E) : vs.length = 2 := by obtain ⟨_, _, rfl, _⟩ := h; rfl
theorem len_law_one (T : Txt K mg) {vs H Q E} (h : sp_law_one T vs H Q E) : vs.length = 2 := by obtain ⟨_, _, _, rfl, _⟩ := h; rfl
theorem len_law_pool (T : Txt K mg) {vs H Q E} (h : sp_law_pool T vs H Q E) : vs.length = 2 := by obtain ⟨_, _, _, rfl, _⟩ := h; rfl
def t_law_take (T : Txt K mg) : TS := (tSeq (tIfS (tTest (tOp rGtI (tOp (rIxL K) (tVar 0) (tC (.int 0))) (tC (.int 0)))) (tSeq (tAsg (tOp rModI (tCB rInt1 (tCons (tOp (rIxL K) (tVar 0) (tC (.int 0))) tNil)) (tVar 1)) (gName 2)) (tSeq (tAsg (tOp rDivI (tOp (rIxL K) (tVar 0) (tC (.int 0))) (tVar 1)) (gSub (tVar 0) (tC (.int 0)) rSetL)) (tRet (tVar 2)))) tNext) (tSeq (tAsg (tOp rModI (tCB rInt1 (tCons (tOp rAddI (tOp rMulI (tOp (rIxL K) (tVar 0) (tC (.int 1))) (tC (.int 39373))) (tC (.int 7))) tNil)) (tC (.int 2147483647))) (gSub (tVar 0) (tC (.int 1)) rSetL)) (tRet (tOp rModI (tCB rInt1 (tCons (tOp rDivI (tOp rModI (tCB rInt1 (tCons (tOp rMulI (tOp (rIxL K) (tVar 0) (tC (.int 1))) (tOp (rIxL K) (tVar 0) (tC (.int 1)))) tNil)) (tC (.int 2147483629))) (tC (.int 32))) tNil)) (tVar 1)))))

theorem up_set {a : Addr} {H H1 : Hp} {big mixed : Int} (e : Ex H H1) (h1 : 0 ≤ big) (h2 : 0 ≤ mixed) (h3 : mixed < 2147483647) : Up a H (upd H1 a (.lst [.int big, .int mixed])) :=
  ⟨fun b o nb hb => by rw [upd_ne nb]; exact e b o hb, big, mixed, upd_same, h1, h2, h3⟩
theorem pure_law_take (T : Txt K mg) {vs H Q} {E : XK} (h : sp_law_take T vs H Q E) : t_law_take T { nx := fun _ H' => Q .non H', rt := Q } (L2.start n_law_take vs) H := by
  obtain ⟨a, top, rfl, ⟨big, mixed, hs, hb, hm, hm2⟩, h0, h1, q⟩ := h
  have at0 : ∀ H1, Ex H H1 → ∀ (σ : L2.St), σ[0]? = some (some (.ref a)) → Ev (tOp (rIxL K) (tVar 0) (tC (.int 0))) σ H1 (.int big) := fun H1 e σ e0 => ev_ixL (ev_var e0) ev_c (sq_of (e a _ hs)) (atI_nat (j := 0) rfl)
  have at1 : ∀ H1, Ex H H1 → ∀ (σ : L2.St), σ[0]? = some (some (.ref a)) → Ev (tOp (rIxL K) (tVar 0) (tC (.int 1))) σ H1 (.int mixed) := fun H1 e σ e0 => ev_ixL (ev_var e0) ev_c (sq_of (e a _ hs)) (atI_nat (j := 1) rfl)
  refine q_when (ev_gtI (at0 H (Ex.refl H) _ rfl) ev_c) (fun c H1 e1 => ?_) (fun c H1 e1 => ?_)
  · refine q_asg (ev_modI (ev_int1 (at0 H1 e1 _ rfl)) (ev_var rfl) h0) fun H2 e2 => ?_
    have E2 := e1.trans e2
    refine q_setL (j := 0) (E2 a _ hs) (ev_divI (at0 H2 E2 _ rfl) (ev_var rfl) ⟨h0, h1⟩) (ev_var rfl) ev_c (by show 0 < 2; decide) fun H3 e3 => ?_
    refine s_ret (ev_var rfl) fun H4 e4 => ?_
    have m0 := Int.emod_nonneg big (show top ≠ 0 by omega)
    have m1 := Int.emod_lt_of_pos big h0
    have d0 : 0 ≤ big / top := Int.ediv_nonneg hb (by omega)
    have u := up_set (a := a) (E2.trans e3) d0 hm hm2
    exact q _ _ m0 m1 (u.trans (.ex e4 u.src))
  · have b0 : big = 0 := by have := of_decide_eq_false c; omega
    have r0 : 0 ≤ (mixed * 39373 + 7) % 2147483647 := Int.emod_nonneg _ (by decide)
    have r1 : (mixed * 39373 + 7) % 2147483647 < 2147483647 := Int.emod_lt_of_pos _ (by decide)
    refine q_setL (j := 1) (e1 a _ hs) (ev_modI (ev_int1 (ev_addI (ev_mulI (at1 H1 e1 _ rfl) ev_c (.inr ⟨by decide, by decide⟩)) ev_c)) ev_c (by decide)) (ev_var rfl) ev_c (by show 1 < 2; decide) fun H3 e3 => ?_
    have u := up_set (a := a) (e1.trans e3) hb r0 r1
    have a1 : ∀ (σ : L2.St), σ[0]? = some (some (.ref a)) → Ev (tOp (rIxL K) (tVar 0) (tC (.int 1))) σ (upd H3 a (.lst [.int big, .int ((mixed * 39373 + 7) % 2147483647)])) (.int ((mixed * 39373 + 7) % 2147483647)) :=
      fun σ e0 => ev_ixL (ev_var e0) ev_c (sq_of upd_same) (atI_nat (j := 1) rfl)
    refine s_ret (ev_modI (ev_int1 (ev_divI (ev_modI (ev_int1 (ev_mulI (a1 _ rfl) (a1 _ rfl) (.inl ⟨by omega, by omega⟩))) ev_c (by decide)) ev_c ⟨by decide, by decide⟩)) (ev_var rfl) h0) fun H4 e4 => ?_
    exact q _ _ (Int.emod_nonneg _ (by omega)) (Int.emod_lt_of_pos _ h0) (u.trans (.ex e4 u.src))
theorem ok_law_take (T : Txt K mg) : FnOk P w K mg base CX0 1 T.f_law_take T.fd_law_take ["_law_source", "_law_top"] (sp_law_take T) :=
  T.d_law_take.F.ok sc_law_take (fun vs H Q E h => len_law_take T h) fun cdv A outer s H vs Q E hr h => ⟨t_law_take T, by
    exact (pss_cons (ps_if (pt_cmpR op_gt (pe_ix ix_list (pv 0) pe_int (fun _ _ => rfl)) pe_int (nomark _)) (pss_cons (ps_set (i := 2) sc_law_take.nd rfl (Or.inl rfl) (pe_op op_mod (pe_callTy call_int1 (by rfl) T.m_int (by decide +kernel) (pa_cons (pe_ix ix_list (pv 0) pe_int (fun _ _ => rfl)) pa_nil)) (pv 1))) (pss_cons (ps_asg (pe_op op_fdiv (pe_ix ix_list (pv 0) pe_int (fun _ _ => rfl)) (pv 1)) (pg_sub (pv 0) pe_int set_list)) (pss_one (ps_ret (pv 2))))) pss_nil) (pss_cons (ps_asg (pe_op op_mod (pe_callTy call_int1 (by rfl) T.m_int (by decide +kernel) (pa_cons (pe_op op_add (pe_op op_mul (pe_ix ix_list (pv 0) pe_int (fun _ _ => rfl)) pe_int) pe_int) pa_nil)) pe_int) (pg_sub (pv 0) pe_int set_list)) (pss_one (ps_ret (pe_op op_mod (pe_callTy call_int1 (by rfl) T.m_int (by decide +kernel) (pa_cons (pe_op op_fdiv (pe_op op_mod (pe_callTy call_int1 (by rfl) T.m_int (by decide +kernel) (pa_cons (pe_op op_mul (pe_ix ix_list (pv 0) pe_int (fun _ _ => rfl)) (pe_ix ix_list (pv 0) pe_int (fun _ _ => rfl))) pa_nil)) pe_int) pe_int) pa_nil)) (pv 1)))))), pure_law_take T h⟩

def t_law_one (T : Txt K mg) : TS := (tRet (tOp (rIxL K) (tVar 1) (tCall (sp_law_take T) [] E0 (tCons (tVar 0) (tCons (tCB (rLenV K) (tCons (tVar 1) tNil)) tNil)))))

theorem pure_law_one (T : Txt K mg) {vs H Q} {E : XK} (h : sp_law_one T vs H Q E) : t_law_one T { nx := fun _ H' => Q .non H', rt := Q } (L2.start n_law_one vs) H := by
  obtain ⟨a, b, xs, rfl, nb, s, hx, ne, hl, q⟩ := h
  have h0 : 0 < xs.length := List.length_pos_iff.mpr ne
  refine ⟨_, rfl, _, rfl, _, rfl, _, _, rfl, .inl ⟨xs, hx, rfl⟩, ?_⟩
  refine ⟨a, xs.length, rfl, s, by omega, by omega, fun r H' r0 r1 u => ?_⟩
  have hr : r.toNat < xs.length := by omega
  have er : (r.toNat : Int) = r := by omega
  have hx' : SqL K H' b xs := by
    rcases hx with (z | ⟨o, z⟩) | z
    · exact .inl (.inl (u.keep b _ nb z))
    · exact .inl (.inr ⟨o, u.keep b _ nb z⟩)
    · exact .inr z
  refine ⟨b, xs, r, xs[r.toNat], rfl, rfl, hx', ?_, q _ (List.getElem_mem hr) H' u⟩
  exact at_of er.symm (List.getElem?_eq_getElem hr)
theorem ok_law_one (T : Txt K mg) : FnOk P w K mg base CX0 2 T.f_law_one T.fd_law_one ["_law_source", "_law_things"] (sp_law_one T) :=
  T.d_law_one.F.ok sc_law_one (fun vs H Q E h => len_law_one T h) fun cdv A outer s H vs Q E hr h => ⟨t_law_one T, by
    exact (pss_one (ps_ret (pe_ix ix_list (pv 1) (pe_call (ok_law_take T) (hr.mono (by decide)) (by rfl) T.d_law_take.g T.d_law_take.F.kp T.d_law_take.b .nil pass0 (pa_cons (pv 0) (pa_cons (pe_callB call_len (by rfl) T.m_len (by decide +kernel) (pa_cons (pv 1) pa_nil)) pa_nil))) (fun _ _ => rfl)))), pure_law_one T h⟩

def t_law_pool (T : Txt K mg) : TS := (tSeq (tAsg (tC (.int 0)) (gName 2)) (tSeq (tIfS (tTest (tOp rLtI (tVar 1) (tCB (rLenV K) (tCons (tVar 0) tNil)))) (tAsg (tOp (rIxL K) (tVar 0) (tVar 1)) (gName 2)) (tIfS (tTest (tOp (rNeD K) (tVar 0) (tLst tNil))) (tAsg (tOp (rIxL K) (tVar 0) (tC (.int 0))) (gName 2)) tNext)) (tSeq (tAsg (tCB Own.rMax2 (tCons (tCB rInt1 (tCons (tVar 2) tNil)) (tCons (tCB rInt1 (tCons (tOp rSubI (tUn rNegI (tC (.int 1))) (tVar 2)) tNil)) tNil))) (gName 3)) (tSeq (tAsg (tOp rModI (tCB rInt1 (tCons (tOp rMulI (tOp rAddI (tOp rAddI (tOp rAddI (tOp rModI (tCB rInt1 (tCons (tVar 3) tNil)) (tC (.int 2147483629))) (tOp rMulI (tOp rMulI (tC (.int 7919)) (tVar 1)) (tVar 1))) (tOp rMulI (tC (.int 31)) (tVar 1))) (tC (.int 17))) (tC (.int 48271))) tNil)) (tC (.int 2147483647))) (gName 4)) (tRet (tLst (tCons (tOp rMulI (tVar 3) (tCB rInt1 (tCons (tAndV (tOp rGeI (tVar 3) (tOp rPowI (tC (.int 10)) (tC (.int 18)))) (tOp rLtI (tVar 1) (tCB (rLenV K) (tCons (tVar 0) tNil)))) tNil))) (tCons (tVar 4) tNil))))))))

theorem pure_law_pool (T : Txt K mg) {vs H Q} {E : XK} (h : sp_law_pool T vs H Q E) : t_law_pool T { nx := fun _ H' => Q .non H', rt := Q } (L2.start n_law_pool vs) H := by
  obtain ⟨b, ns, k, rfl, hs, hl, k0, k1, q⟩ := h
  have len : ∀ H1, Ex H H1 → ∀ (σ : L2.St), σ[0]? = some (some (.ref b)) → Ev (tCB (rLenV K) (tCons (tVar 0) tNil)) σ H1 (.int (ns.length : Int)) := fun H1 e σ e0 => by
    have := ev_lenL (K := K) (ev_var e0) (ex_l e hs)
    rwa [List.length_map] at this
  refine q_asg ev_c fun H1 e1 => ?_
  refine q_split (fun σ' H' => ∃ c : Int, σ' = [some (.ref b), some (.int k), some (.int c), none, none] ∧ Ex H H') ?_ (fun R => ?_)
  · rintro σ' H2 ⟨c, rfl, e2⟩
    -- big
    refine q_asg (Own.ev_max2 (ev_int1 (ev_var rfl)) (ev_int1 (ev_subI (ev_negI ev_c) (ev_var rfl)))) fun H3 e3 => ?_
    generalize hbig : (if -1 - c > c then -1 - c else c) = big
    have b0 : 0 ≤ big := by rw [← hbig]; split <;> omega
    have m0 : 0 ≤ big % 2147483629 := Int.emod_nonneg _ (by decide)
    have m1 : big % 2147483629 < 2147483629 := Int.emod_lt_of_pos _ (by decide)
    -- mixed
    refine q_asg (ev_modI (ev_int1 (ev_mulI (ev_addI (ev_addI (ev_addI (ev_modI (ev_int1 (ev_var rfl)) ev_c (by decide)) (ev_mulI (ev_mulI ev_c (ev_var rfl) (.inl ⟨by decide, by decide⟩)) (ev_var rfl) (.inr ⟨by omega, by omega⟩)))
      (ev_mulI ev_c (ev_var rfl) (.inl ⟨by decide, by decide⟩))) ev_c) ev_c (.inr ⟨by decide, by decide⟩))) ev_c (by decide)) fun H4 e4 => ?_
    generalize hmix : ((big % 2147483629 + 7919 * k * k + 31 * k + 17) * 48271) % 2147483647 = mixed
    have x0 : 0 ≤ mixed := by rw [← hmix]; exact Int.emod_nonneg _ (by decide)
    have x1 : mixed < 2147483647 := by rw [← hmix]; exact Int.emod_lt_of_pos _ (by decide)
    have E4 := (e2.trans e3).trans e4
    refine s_retL (el_lst (ea_2 (ev_mulI (ev_var rfl) (ev_intB (ev_andV (ev_geV (ev_var rfl) (ev_powI ev_c ev_c ⟨by decide, by decide, by decide⟩)) fun _ => ev_ltV (ev_var rfl) (len H4 E4 _ rfl))) (.inr ?_)) (ev_var rfl)) (by show 2 ≤ 100000; decide)) fun p H5 hp e5 h5 => ?_
    · split <;> exact ⟨by decide, by decide⟩
    · refine q p H5 ?_ (E4.trans e5) ⟨_, mixed, h5, ?_, x0, x1⟩
      · exact fresh_back E4 hp
      · refine Int.mul_nonneg b0 ?_
        split <;> decide
  · refine s_if (ev_ltI (ev_var rfl) (len H1 e1 _ rfl)) ?_ ?_
    · intro c H2 e2
      have c := of_decide_eq_true c
      have hk : k.toNat < ns.length := by omega
      refine s_asg (v := .int ns[k.toNat]) (ev_ixL (ev_var rfl) (ev_var rfl) (ex_l (e1.trans e2) hs) ?_) fun H3 e3 => R _ _ ⟨_, rfl, (e1.trans e2).trans e3⟩
      refine at_of (j := k.toNat) (by omega) ?_
      rw [List.getElem?_map, List.getElem?_eq_getElem hk]
      rfl
    · intro c H2 e2
      refine s_when (et_neInts (ev_var rfl) (ex_l (e1.trans e2) hs)) (fun c H3 e3 => ?_) (fun c H3 e3 => R _ _ ⟨0, rfl, (e1.trans e2).trans e3⟩)
      cases hn : ns with
      | nil => rw [hn] at c; cases c
      | cons n r =>
        refine s_asg (v := .int n) (ev_ixL (ev_var rfl) ev_c (ex_l ((e1.trans e2).trans e3) hs) (atI_nat (j := 0) (by rw [hn]; rfl))) fun H4 e4 => R _ _ ⟨n, rfl, ((e1.trans e2).trans e3).trans e4⟩
theorem ok_law_pool (T : Txt K mg) : FnOk P w K mg base CX0 1 T.f_law_pool T.fd_law_pool ["_law_script", "_law_k"] (sp_law_pool T) :=
  T.d_law_pool.F.ok sc_law_pool (fun vs H Q E h => len_law_pool T h) fun cdv A outer s H vs Q E hr h => ⟨t_law_pool T, by
    exact (pss_cons (ps_set (i := 2) sc_law_pool.nd rfl (Or.inl rfl) pe_int) (pss_cons (ps_if (pt_cmpR op_lt (pv 1) (pe_callB call_len (by rfl) T.m_len (by decide +kernel) (pa_cons (pv 0) pa_nil)) (nomark _)) (pss_one (ps_set (i := 2) sc_law_pool.nd rfl (Or.inl rfl) (pe_ix ix_list (pv 0) (pv 1) (fun _ _ => rfl)))) (pss_one (ps_if (pt_cmpR (op_neD hr.units) (pv 0) (pe_lst pa_nil) (nomark _)) (pss_one (ps_set (i := 2) sc_law_pool.nd rfl (Or.inl rfl) (pe_ix ix_list (pv 0) pe_int (fun _ _ => rfl)))) pss_nil))) (pss_cons (ps_set (i := 3) sc_law_pool.nd rfl (Or.inl rfl) (pe_callB (call_max2 rfl) (by rfl) T.m_max (by decide +kernel) (pa_cons (pe_callTy call_int1 (by rfl) T.m_int (by decide +kernel) (pa_cons (pv 2) pa_nil)) (pa_cons (pe_callTy call_int1 (by rfl) T.m_int (by decide +kernel) (pa_cons (pe_op op_sub (pe_un un_neg pe_int) (pv 2)) pa_nil)) pa_nil)))) (pss_cons (ps_set (i := 4) sc_law_pool.nd rfl (Or.inl rfl) (pe_op op_mod (pe_callTy call_int1 (by rfl) T.m_int (by decide +kernel) (pa_cons (pe_op op_mul (pe_op op_add (pe_op op_add (pe_op op_add (pe_op op_mod (pe_callTy call_int1 (by rfl) T.m_int (by decide +kernel) (pa_cons (pv 3) pa_nil)) pe_int) (pe_op op_mul (pe_op op_mul pe_int (pv 1)) (pv 1))) (pe_op op_mul pe_int (pv 1))) pe_int) pe_int) pa_nil)) pe_int)) (pss_one (ps_ret (pe_lst (pa_cons (pe_op op_mul (pv 3) (pe_callTy call_int1 (by rfl) T.m_int (by decide +kernel) (pa_cons (pe_and (pe_cmpR op_ge (pv 3) (pe_op op_pow pe_int pe_int) (nomark _)) (pe_one (pe_cmpR op_lt (pv 1) (pe_callB call_len (by rfl) T.m_len (by decide +kernel) (pa_cons (pv 0) pa_nil)) (nomark _)))) pa_nil))) (pa_cons (pv 4) pa_nil))))))))), pure_law_pool T h⟩

end
end My


set_option maxHeartbeats 1000000
namespace My
open PySem PySem.Spec PyProof.Rows L2 Own LamX
open Evl (Ex RetV)
section
variable {P : Program} {w : World} {K : PySem.W.Frag} {mg : Str → Option Value} {base : Heap}

open Evl
/-! ### drawn shapes, cells -/
theorem es_eq0 {a : Addr} {σ : L2.St} {H : Hp} {te : TE} {lo hi : Int} (h : EvS a te σ H (PInt lo hi)) : EvS a (tCB rInt1 (tCons (tOp rEq te (tC (.int 0))) tNil)) σ H (PInt 0 1) := fun H1 u Q q => h H1 u _ fun v H2 u2 ⟨i, e, _⟩ => by
  subst e
  exact ⟨rfl, .inr ⟨_, rfl, q _ H2 u2 ⟨_, rfl, by split <;> decide, by split <;> decide⟩⟩⟩
theorem ss_tup3 {a : Addr} {σ : L2.St} {H : Hp} {D : Ends} {te tb tc : TE} {P1 P2 P3 : VP} {i j l : Nat} (s : Src H a) (h1 : EvS a te σ H P1) (h2 : EvS a tb σ H P2) (h3 : EvS a tc σ H P3) (m1 : Mono a P1) (m2 : Mono a P2)
    (k : ∀ x y z H1 H2, Up a H H1 → Ex H1 H2 → P1 x H1 → P2 y H1 → P3 z H1 → D.nx (((σ.set i (some x)).set j (some y)).set l (some z)) H2) : tAsg (tTup (tCons te (tCons tb (tCons tc tNil)))) (gTup K 3 (gCons (gName i) (gCons (gName j) (gCons (gName l) gNil)))) D σ H :=
  h1 H (.refl s) _ fun x H1 u1 p1 => h2 H1 u1 _ fun y H2 u2 p2 => h3 H2 (u1.trans u2) _ fun z H3 u3 p3 => ⟨by show 3 ≤ sizeLine; decide, fun p np => ⟨p, _, rfl, st_of upd_same, rfl, _, _, rfl, _, _, rfl, _, _, rfl, rfl, k x y z H3 _ ((u1.trans u2).trans u3) (Ex.new np) (m1 x _ _ (u1.trans u2).src u3 (m1 x _ _ u1.src u2 p1)) (m2 y _ _ (u1.trans u2).src u3 p2) p3⟩⟩
theorem es_lcC {P : VP} {σ : L2.St} {H : Hp} {a : Addr} {te elt : TE} {j : Nat} {vs : List Nat} {lo hi : Int} (h : EvS a te σ H (PInt lo hi)) (hlo : 0 ≤ lo) (hhi : hi ≤ 1000) (hw : ∀ x, wipe ((wipe σ vs).set j (some x)) vs = wipe σ vs)
    (he : ∀ (i : Nat) H1, Up a H H1 → EvS a elt ((wipe σ vs).set j (some (.int (i : Int)))) H1 P) (mk : MonoK P) : EvS a (tLc (iRng1 (tCons te tNil)) (gName j) tYes elt vs) σ H (fun v H' => ∃ l ys, v = .ref l ∧ H l = none ∧ l ≠ a ∧ H' l = some (.lst ys) ∧ lo ≤ ys.length ∧ ys.length ≤ hi ∧ ∀ y ∈ ys, P y H') :=
  fun H1 u Q q => h H1 u _ fun w H2 u2 ⟨i, ei, i0, i1⟩ => ⟨i, by rw [ei], by omega, by omega, fun Dl hD => by
    have uE := u.trans u2
    have nD : Dl ≠ a := uE.src.new hD
    exact lc_range (lo := 0) (n := i.toNat) (fun i H' => Up a H2 H' ∧ ∃ acc, H' Dl = some (.lst acc) ∧ acc.length = i ∧ ∀ (k : Nat) x, acc[k]? = some x → P x H') ⟨.ex (Ex.new hD) uE.src, [], upd_same, rfl, fun k x h => by simp at h⟩
      (fun i H' hi ⟨u3, acc, hacc, hl, hp⟩ => by
        show wipe ((wipe σ vs).set j (some (.int ((0 : Int) + (i : Int))))) vs = wipe σ vs ∧ elt ((wipe σ vs).set j (some (.int ((0 : Int) + (i : Int))))) H' fun y H4 => ∃ acc, H4 Dl = some (.lst acc) ∧ acc.length < sizeLine ∧ (Up a H2 (upd H4 Dl (.lst (acc ++ [y]))) ∧ ∃ ac2, (upd H4 Dl (.lst (acc ++ [y]))) Dl = some (.lst ac2) ∧ ac2.length = i + 1 ∧ ∀ (k : Nat) x, ac2[k]? = some x → P x (upd H4 Dl (.lst (acc ++ [y]))))
        rw [Int.zero_add]
        exact ⟨hw _, he i H' (uE.trans u3) H' (.refl u3.src) _ fun y H4 u4 py => ⟨acc, u4.keep Dl _ nD hacc, sz_lt (by omega), lcD_step (P := fun _ => P) (fun _ => mk) hD nD u3 hacc hl hp u4 py⟩⟩)
      (fun H' ⟨u3, acc, hacc, hl, hp⟩ => q _ _ (u2.trans u3) ⟨Dl, acc, rfl, up_back uE nD hD, nD, hacc, by omega, by omega, fun y hy => by
        obtain ⟨k, hk⟩ := List.mem_iff_getElem?.mp hy
        exact hp k y hk⟩)⟩
theorem es_tupC {P : VP} {a : Addr} {σ : L2.St} {H : Hp} {te : TE} {lo hi : Int} (mk : MonoK P) (h : EvS a te σ H (fun v H' => ∃ l ys, v = .ref l ∧ H l = none ∧ l ≠ a ∧ H' l = some (.lst ys) ∧ lo ≤ ys.length ∧ ys.length ≤ hi ∧ ∀ y ∈ ys, P y H')) :
    EvS a (tCB (rTupOf K) (tCons te tNil)) σ H (fun v H' => ∃ b ys, v = .ref b ∧ SqT K H' b ys ∧ (ys.length : Int) ≤ hi ∧ ∀ y ∈ ys, P y H') := fun H1 u Q q => h H1 u _ fun v H2 u2 ⟨l, ys, ev, _, la, hl, h1, h2, py⟩ => ⟨l, ys, by rw [ev], .inl ⟨sq_of hl, fun t nt => q _ _ (u2.trans (.ex (Ex.new nt) u2.src)) ⟨t, ys, rfl, st_of upd_same, h2, fun y hy => mk y _ _ (.new nt) (py y hy)⟩⟩⟩
def sp_law_new_cell (T : Txt K mg) : Sp := fun vs H Q _ => ∃ a sh s, vs = [.ref a, .ref sh] ∧ Src H a ∧ Sh K sh s H ∧ s.Ok ∧ ∀ v H', Up a H H' → Rig K s.p s.w v H' → Q v H'
theorem len_law_new_cell (T : Txt K mg) {vs H Q E} (h : sp_law_new_cell T vs H Q E) : vs.length = 2 := by obtain ⟨_, _, _, rfl, _⟩ := h; rfl
def t_law_new_cell (T : Txt K mg) : TS := (tRet (tCB (rTupOf K) (tCons (tLc (iRng1 (tCons (tOp (rIxT K) (tVar 1) (tC (.int 1))) tNil)) (gName 2) tYes (tCall (sp_law_take T) [] E0 (tCons (tVar 0) (tCons (tOp (rIxT K) (tVar 1) (tC (.int 0))) tNil))) [2]) tNil)))

theorem pure_law_new_cell (T : Txt K mg) {vs H Q} {E : XK} (h : sp_law_new_cell T vs H Q E) : t_law_new_cell T { nx := fun _ H' => Q .non H', rt := Q } (L2.start n_law_new_cell vs) H := by
  obtain ⟨a, sh, s, rfl, src, S, o, q⟩ := h
  have p0 := o.p.1
  have p1 := o.p.2.1
  have ow := o.w
  refine ss_ret src (es_imp (es_tupX (es_lcE (P := fun _ => PInt 0 (s.p - 1)) (n := s.w) (fun H1 u => sh_w (S.kp (u.kp src)) (ev_var rfl)) (by omega) (fun x => rfl) (fun i H1 u hi => es_take (lo := s.p) (hi := s.p) rfl (es_ev (v := .int s.p) (fun H2 u2 => sh_p (S.kp ((u.trans u2).kp src)) (ev_var rfl)) fun _ _ => ⟨_, rfl, by omega, by omega⟩) (by omega) (by omega)) fun i => monoK_int) fun i => monoK_int) fun v H1 h => rig_of h) fun v H1 u r => q v H1 u r
theorem ok_law_new_cell (T : Txt K mg) : FnOk P w K mg base CX0 2 T.f_law_new_cell T.fd_law_new_cell ["_law_source", "_law_shape"] (sp_law_new_cell T) :=
  T.d_law_new_cell.F.ok sc_law_new_cell (fun vs H Q E h => len_law_new_cell T h) fun cdv A outer s H vs Q E hr h => ⟨t_law_new_cell T, by
    exact (pss_one (ps_ret (pe_callTy call_tuple_of (by rfl) T.m_tuple (by decide +kernel) (pa_cons (pe_lc (own := [("_law_place", 2)]) (g := (gName 2)) (tt := tYes) (te := (tCall (sp_law_take T) [] E0 (tCons (tVar 0) (tCons (tOp (rIxT K) (tVar 1) (tC (.int 0))) tNil)))) rfl sc_law_new_cell.nd (pi_range1 (by rfl) T.m_range (pa_cons (pe_ix ix_tup (pv 1) pe_int (fun _ _ => rfl)) pa_nil)) (blkOk_by (own := [("_law_place", 2)]) (N := n_law_new_cell) (sc := defScope s_law_new_cell) (by decide +kernel)) (fun _ _ _ _ _ => (pg_name (i := 2) sc_law_new_cell.nd rfl (Or.inl rfl))) (fun _ _ _ _ _ => pts_nil) (fun _ _ _ _ _ => (pe_call (ok_law_take T) (hr.mono (by decide)) (by rfl) T.d_law_take.g T.d_law_take.F.kp T.d_law_take.b .nil pass0 (pa_cons (pv 0) (pa_cons (pe_ix ix_tup (pv 1) pe_int (fun _ _ => rfl)) pa_nil))))) pa_nil)))), pure_law_new_cell T h⟩

def sp_law_any_shape (T : Txt K mg) : Sp := fun vs H Q _ => ∃ a, vs = [.ref a] ∧ Src H a ∧ ∀ sh s H', Up a H H' → Sh K sh s H' → s.Ok → Q (.ref sh) H'
theorem len_law_any_shape (T : Txt K mg) {vs H Q E} (h : sp_law_any_shape T vs H Q E) : vs.length = 1 := by obtain ⟨_, rfl, _⟩ := h; rfl
def t_law_any_shape (T : Txt K mg) : TS := (tSeq (tAsg (tTup (tCons (tCall (sp_law_one T) [] E0 (tCons (tVar 0) (tCons (tLst (tCons (tC (.int 5)) (tCons (tC (.int 7)) (tCons (tC (.int 11)) (tCons (tC (.int 257)) (tCons (tC (.int 65521)) tNil)))))) tNil))) (tCons (tOp rAddI (tC (.int 1)) (tCall (sp_law_take T) [] E0 (tCons (tVar 0) (tCons (tC (.int 3)) tNil)))) (tCons (tOp rAddI (tC (.int 1)) (tCall (sp_law_take T) [] E0 (tCons (tVar 0) (tCons (tC (.int 4)) tNil)))) tNil)))) (gTup K 3 (gCons (gName 1) (gCons (gName 2) (gCons (gName 3) gNil))))) (tSeq (tAsg (tCB rInt1 (tCons (tOp rEq (tCall (sp_law_take T) [] E0 (tCons (tVar 0) (tCons (tC (.int 4)) tNil))) (tC (.int 0))) tNil)) (gName 4)) (tSeq (tAsg (tCB (rTupOf K) (tCons (tLc (iRng1 (tCons (tCall (sp_law_take T) [] E0 (tCons (tVar 0) (tCons (tC (.int 6)) tNil))) tNil)) (gName 6) tYes (tCB (rTupOf K) (tCons (tLc (iRng1 (tCons (tVar 3) tNil)) (gName 7) tYes (tCall (sp_law_take T) [] E0 (tCons (tVar 0) (tCons (tVar 1) tNil))) [7]) tNil)) [6]) tNil)) (gName 5)) (tRet (tTup (tCons (tVar 1) (tCons (tVar 2) (tCons (tVar 3) (tCons (tOp rAddI (tC (.int 1)) (tCall (sp_law_take T) [] E0 (tCons (tVar 0) (tCons (tCB rMin2 (tCons (tC (.int 3)) (tCons (tVar 3) tNil))) tNil)))) (tCons (tIf (tTest (tOp rEq (tVar 4) (tC (.int 1)))) (tC (.int 0)) (tCall (sp_law_take T) [] E0 (tCons (tVar 0) (tCons (tC (.int 3)) tNil)))) (tCons (tVar 4) (tCons (tVar 5) tNil))))))))))))

theorem pure_law_any_shape (T : Txt K mg) {vs H Q} {E : XK} (h : sp_law_any_shape T vs H Q E) : t_law_any_shape T { nx := fun _ H' => Q .non H', rt := Q } (L2.start n_law_any_shape vs) H := by
  obtain ⟨a, rfl, src, q⟩ := h
  have c : ∀ {i : Int} {σ : L2.St} {H : Hp}, Prm i → EvS a (tC (.int i)) σ H PPrm := fun h => es_c fun _ => ⟨_, rfl, h⟩
  refine ss_tup3 (D := { nx := _, rt := _, bk := _, ct := _ }) src (es_one (P := PPrm) rfl (es_lst (n := 5) (ea_consS (c ⟨by decide, by decide, by decide +kernel⟩) (ea_consS (c ⟨by decide, by decide, by decide +kernel⟩) (ea_consS (c ⟨by decide, by decide, by decide +kernel⟩) (ea_consS (c ⟨by decide, by decide, by decide +kernel⟩) (ea_consS (c ⟨by decide, by decide, by decide +kernel⟩) ea_nilS mono_prm) mono_prm) mono_prm) mono_prm) mono_prm) (by decide) mono_prm) (by decide) (by decide) mono_prm)
    (es_add (l1 := 1) (h1 := 1) (l2 := 0) (h2 := 2) (es_int (by decide) (by decide)) (es_take (lo := 3) (hi := 3) rfl (es_int (by decide) (by decide)) (by decide) (by decide)))
    (es_add (l1 := 1) (h1 := 1) (l2 := 0) (h2 := 3) (es_int (by decide) (by decide)) (es_take (lo := 4) (hi := 4) rfl (es_int (by decide) (by decide)) (by decide) (by decide))) mono_prm mono_int fun x y z H1 H2 u1 e1 ⟨p, ex, P⟩ ⟨wi, ey, w0, w1⟩ ⟨ni, ez, n0, n1⟩ => ?_
  subst ex ey ez
  have p0 := P.1
  have p1 := P.2.1
  obtain ⟨w, rfl⟩ : ∃ w : Nat, wi = (w : Int) := ⟨wi.toNat, by omega⟩
  obtain ⟨n, rfl⟩ : ∃ n : Nat, ni = (n : Int) := ⟨ni.toNat, by omega⟩
  have U2 : Up a H H2 := u1.trans (.ex e1 u1.src)
  dsimp only
  refine ss_asg U2.src (es_eq0 (es_take (s0 := 0) (a := a) (lo := 4) (hi := 4) rfl (es_int (by decide) (by decide)) (by decide) (by decide))) fun v H3 u3 ⟨mi, ev, m0, m1⟩ => ?_
  subst ev
  obtain ⟨m, rfl⟩ : ∃ m : Nat, mi = (m : Int) := ⟨mi.toNat, by omega⟩
  have U3 := U2.trans u3
  refine ss_asg U3.src (es_tupC (P := Rig K p n) (lo := 0) (hi := 5) monoK_rig (es_lcC (a := a) (P := Rig K p n) (lo := 0) (hi := 5) (es_take (s0 := 0) (a := a) (lo := 6) (hi := 6) rfl (es_int (by decide) (by decide)) (by decide) (by decide)) (by decide) (by decide) (fun x => rfl) (fun i H6 u6 => es_imp (es_tupX (es_lcE (P := fun _ => PInt 0 (p - 1)) (n := n) (fun H6 u6 => ev_var rfl) (by omega) (fun x => rfl) (fun j H6 u6 hj => es_take (lo := p) (hi := p) rfl (es_vint rfl (by omega) (by omega)) (by omega) (by omega)) fun i => monoK_int) fun i => monoK_int) fun v H6 h => rig_of h) monoK_rig)) fun v H5 u5 ⟨tb0, ys, ev, hys, ly, py⟩ => ?_
  subst ev
  obtain ⟨tb, M, ev, mt, wf, hM⟩ := mat_of (K := K) (p := p) (w := n) (n := ys.length) (v := .ref tb0) (H := H5) ⟨tb0, ys, rfl, hys, rfl, fun i x hx => py x (List.mem_of_getElem? hx)⟩
  injection ev with ev
  subst ev
  have U5 := U3.trans u5
  have he : ∀ (H6 : Hp), Src H6 a → EvS a (tIf (tTest (tOp rEq (tVar 4) (tC (.int 1)))) (tC (.int 0)) (tCall (sp_law_take T) [] E0 (tCons (tVar 0) (tCons (tC (.int 3)) tNil)))) [some (.ref a), some (.int p), some (.int (w : Int)), some (.int (n : Int)), some (.int (m : Int)), some (.ref tb0), none, none] H6 (fun v _ => ∃ e : Nat, v = .int (e : Int) ∧ e ≤ 2 ∧ (m = 1 → e = 0)) := by
    intro H6 _ H4 u4 Q' q'
    refine et_eqI (ev_var (i := 4) rfl) ev_c H4 (.refl H4) _ fun H5 e5 => ?_
    by_cases z : (m : Int) = 1
    · rw [decide_eq_true z]
      exact q' (.int 0) H5 (.ex e5 u4.src) ⟨0, rfl, by decide, fun _ => rfl⟩
    · rw [decide_eq_false z]
      exact es_take (s0 := 0) (a := a) (lo := 3) (hi := 3) rfl (es_int (by decide) (by decide)) (by decide) (by decide) H5 (.refl (u4.src.ex e5)) Q' fun v H6 u6 ⟨i, ei, i0, i1⟩ => q' v H6 ((Up.ex e5 u4.src).trans u6) ⟨i.toNat, by rw [ei]; congr 1; omega, by omega, fun h => absurd (by omega) z⟩
  refine ⟨_, rfl, _, rfl, _, rfl, ?_⟩
  refine es_add (l1 := 1) (h1 := 1) (l2 := 0) (h2 := min 3 (n : Int) - 1) (es_int (by decide) (by decide)) (es_take (s0 := 0) (a := a) (lo := min 3 (n : Int)) (hi := min 3 (n : Int)) rfl (es_min (es_int (lo := 3) (hi := 3) (by decide) (by decide)) (es_vint (lo := (n : Int)) (hi := (n : Int)) rfl (Int.le_refl _) (Int.le_refl _))) (by omega) (by omega)) H5 (.refl U5.src) _ fun v H7 u7 ⟨ki, ek, k0, k1⟩ => ?_
  subst ek
  obtain ⟨k, rfl⟩ : ∃ k : Nat, ki = (k : Int) := ⟨ki.toNat, by omega⟩
  refine he H7 u7.src H7 (.refl u7.src) _ fun v H8 u8 ⟨e, ev, e0, em⟩ => ?_
  subst ev
  refine ⟨_, rfl, _, rfl, by show 7 ≤ sizeLine; decide, fun sh nsh => ?_⟩
  have mt8 := mt.kp ((u7.trans u8).kp U5.src)
  exact q sh ⟨p, w, n, k, e, m, M⟩ _ ((U5.trans (u7.trans u8)).trans (.ex (Ex.new nsh) u8.src)) ⟨tb0, st_of upd_same, mt8.ex (Ex.new nsh)⟩ ⟨P, ⟨by show 1 ≤ w; omega, by show w ≤ 16; omega⟩, ⟨by show 1 ≤ n; omega, by show n ≤ 8; omega⟩, ⟨by show 1 ≤ k; omega, by show k ≤ 3; omega, by show k ≤ n; omega⟩, e0, ⟨by show m ≤ 1; omega, em⟩, by show M.length ≤ 8; omega, wf⟩
theorem ok_law_any_shape (T : Txt K mg) : FnOk P w K mg base CX0 3 T.f_law_any_shape T.fd_law_any_shape ["_law_source"] (sp_law_any_shape T) :=
  T.d_law_any_shape.F.ok sc_law_any_shape (fun vs H Q E h => len_law_any_shape T h) fun cdv A outer s H vs Q E hr h => ⟨t_law_any_shape T, by
    exact (pss_cons (ps_asg (pe_tup (pa_cons (pe_call (ok_law_one T) (hr.mono (by decide)) (by rfl) T.d_law_one.g T.d_law_one.F.kp T.d_law_one.b .nil pass0 (pa_cons (pv 0) (pa_cons (pe_lst (pa_cons pe_int (pa_cons pe_int (pa_cons pe_int (pa_cons pe_int (pa_cons pe_int pa_nil)))))) pa_nil))) (pa_cons (pe_op op_add pe_int (pe_call (ok_law_take T) (hr.mono (by decide)) (by rfl) T.d_law_take.g T.d_law_take.F.kp T.d_law_take.b .nil pass0 (pa_cons (pv 0) (pa_cons pe_int pa_nil)))) (pa_cons (pe_op op_add pe_int (pe_call (ok_law_take T) (hr.mono (by decide)) (by rfl) T.d_law_take.g T.d_law_take.F.kp T.d_law_take.b .nil pass0 (pa_cons (pv 0) (pa_cons pe_int pa_nil)))) pa_nil)))) (pg_tup rfl (pgs_cons (pg_name (i := 1) sc_law_any_shape.nd rfl (Or.inr rfl)) (pgs_cons (pg_name (i := 2) sc_law_any_shape.nd rfl (Or.inl rfl)) (pgs_cons (pg_name (i := 3) sc_law_any_shape.nd rfl (Or.inr rfl)) pgs_nil))))) (pss_cons (ps_set (i := 4) sc_law_any_shape.nd rfl (Or.inl rfl) (pe_callTy call_int1 (by rfl) T.m_int (by decide +kernel) (pa_cons (pe_cmpR op_eq (pe_call (ok_law_take T) (hr.mono (by decide)) (by rfl) T.d_law_take.g T.d_law_take.F.kp T.d_law_take.b .nil pass0 (pa_cons (pv 0) (pa_cons pe_int pa_nil))) pe_int (nomark _)) pa_nil))) (pss_cons (ps_set (i := 5) sc_law_any_shape.nd rfl (Or.inl rfl) (pe_callTy call_tuple_of (by rfl) T.m_tuple (by decide +kernel) (pa_cons (pe_lc (own := [("_law_j", 6)]) (g := (gName 6)) (tt := tYes) (te := (tCB (rTupOf K) (tCons (tLc (iRng1 (tCons (tVar 3) tNil)) (gName 7) tYes (tCall (sp_law_take T) [] E0 (tCons (tVar 0) (tCons (tVar 1) tNil))) [7]) tNil))) rfl sc_law_any_shape.nd (pi_range1 (by rfl) T.m_range (pa_cons (pe_call (ok_law_take T) (hr.mono (by decide)) (by rfl) T.d_law_take.g T.d_law_take.F.kp T.d_law_take.b .nil pass0 (pa_cons (pv 0) (pa_cons pe_int pa_nil))) pa_nil)) (blkOk_by (own := [("_law_j", 6)]) (N := n_law_any_shape) (sc := defScope s_law_any_shape) (by decide +kernel)) (fun _ _ _ _ _ => (pg_name (i := 6) sc_law_any_shape.nd rfl (Or.inl rfl))) (fun _ _ _ _ _ => pts_nil) (fun _ _ _ _ _ => (pe_callTy call_tuple_of (by rfl) T.m_tuple (by decide +kernel) (pa_cons (pe_lcIn (own := [("_law_x", 7)]) (g := (gName 7)) (tt := tYes) (te := (tCall (sp_law_take T) [] E0 (tCons (tVar 0) (tCons (tVar 1) tNil)))) rfl sc_law_any_shape.nd (pi_range1 (by rfl) T.m_range (pa_cons (pv 3) pa_nil)) (blkOk_by (own := [("_law_x", 7)]) (N := n_law_any_shape) (sc := _) (by decide +kernel)) (fun _ _ _ _ _ => (pg_name (i := 7) sc_law_any_shape.nd rfl (Or.inl rfl))) (fun _ _ _ _ _ => pts_nil) (fun _ _ _ _ _ => (pe_call (ok_law_take T) (hr.mono (by decide)) (by rfl) T.d_law_take.g T.d_law_take.F.kp T.d_law_take.b .nil pass0 (pa_cons (pv 0) (pa_cons (pv 1) pa_nil))))) pa_nil)))) pa_nil))) (pss_one (ps_ret (pe_tup (pa_cons (pv 1) (pa_cons (pv 2) (pa_cons (pv 3) (pa_cons (pe_op op_add pe_int (pe_call (ok_law_take T) (hr.mono (by decide)) (by rfl) T.d_law_take.g T.d_law_take.F.kp T.d_law_take.b .nil pass0 (pa_cons (pv 0) (pa_cons (pe_callB (call_min2 rfl) (by rfl) T.m_min (by decide +kernel) (pa_cons pe_int (pa_cons (pv 3) pa_nil))) pa_nil)))) (pa_cons (pe_ifExp (pt_cmpR op_eq (pv 4) pe_int (nomark _)) pe_int (pe_call (ok_law_take T) (hr.mono (by decide)) (by rfl) T.d_law_take.g T.d_law_take.F.kp T.d_law_take.b .nil pass0 (pa_cons (pv 0) (pa_cons pe_int pa_nil)))) (pa_cons (pv 4) (pa_cons (pv 5) pa_nil))))))))))))), pure_law_any_shape T h⟩

end
end My


set_option maxHeartbeats 1000000
namespace My
open PySem PySem.Spec PyProof.Rows L2 Own LamX
open Evl (Ex RetV)
section
variable {P : Program} {w : World} {K : PySem.W.Frag} {mg : Str → Option Value} {base : Heap}

open Evl
/-! ### the law's own rack -/
/-- a dict with the law's own cells and states -/
structure OwA (K : PySem.W.Frag) (o cl st : Addr) (rr : List Addr) (rows N : Nat) (ways : List Nat) (f : Nat → Nat → Ro) (H : Hp) : Prop where
  ob : ∃ kvs : List (Key × V), H o = some (.dK kvs) ∧ valV kvs (.inr "cells") = some (.ref cl) ∧ valV kvs (.inr "states") = some (.ref st)
  fS : H st = some (.lst (ways.map wayV))
  wn : ways.length = N
  fL : H cl = some (.lst (rr.map V.ref))
  rn : rr.length = rows
  nd : rr.Nodup
  ne : cl ≠ st ∧ cl ∉ rr ∧ st ∉ rr
  lo : ∀ (i : Nat) (b : Addr), rr[i]? = some b → LO K b N (fun j => some (f i j)) H
theorem OwA.ex {o cl st : Addr} {rr : List Addr} {rows N : Nat} {ways : List Nat} {f : Nat → Nat → Ro} {H H' : Hp} (e : Ex H H') (h : OwA K o cl st rr rows N ways f H) : OwA K o cl st rr rows N ways f H' :=
  ⟨let ⟨kvs, h1, h2⟩ := h.ob; ⟨kvs, e _ _ h1, h2⟩, e _ _ h.fS, h.wn, e _ _ h.fL, h.rn, h.nd, h.ne, fun i b hb => (h.lo i b hb).ex e⟩
theorem en_rowNew {σ : L2.St} {H : Hp} {i5 i2 i3 N : Nat} {r : Ro} {b : Addr} {vs : List Nat} (h : σ[i2]? = some (some (.int (N : Int)))) (hN : N ≤ 1000) (hw : ∀ x, wipe ((wipe σ vs).set i5 (some x)) vs = wipe σ vs) (h3 : ∀ x, ((wipe σ vs).set i5 (some x))[i3]? = some (some (.ref b))) (hb : SqT K H b (r.map V.int)) :
    EvN (tLc (iRng1 (tCons (tVar i2) tNil)) (gName i5) tYes (tVar i3) vs) σ H (fun l H' => LO K l N (fun _ => some r) H') := fun H1 u Q q => by
  have lc := el_lcR1 (σ := σ) (H := H) (j := i5) (vs := vs) (t := tYes) (te := tVar i3) (fun _ => true) (fun _ => .ref b) (ea_1 (ev_var h)) (by omega) hw (fun k H2 e2 hk => et_yes) (fun k H2 e2 hk _ => ev_var (h3 _))
  rw [given_true, Int.toNat_natCast] at lc
  refine lc H1 u Q fun l H2 nl e2 hl => q l H2 nl e2 ⟨_, hl, by rw [List.length_map, List.length_range], fun i v hv => ?_⟩
  obtain ⟨x, _, rfl⟩ := List.mem_map.mp (List.mem_of_getElem? hv)
  exact ⟨b, rfl, ex_t (u.trans e2) hb⟩
theorem lo_dict {b d : Addr} {N : Nat} {f : Nat → Option Ro} {H : Hp} {o : HO} {kvs : List (Key × V)} (h : LO K b N f H) (hd : H d = some (.dK kvs)) : LO K b N f (upd H d o) := by
  have sq : SqK K H (upd H d o) := But.sqT hd (fun _ z => by cases z) (fun _ _ z => by cases z) (But.upd (.refl _ _))
  obtain ⟨vs, h1, h2, h3⟩ := h
  have nb : b ≠ d := fun z => by rw [z, hd] at h1; cases h1
  refine ⟨vs, by rw [upd_ne nb]; exact h1, h2, fun i v hv => ?_⟩
  have := h3 i v hv
  cases hf : f i with
  | none => rw [hf] at this; exact this
  | some r => rw [hf] at this; obtain ⟨c, e1, e2⟩ := this; exact ⟨c, e1, sq _ _ e2⟩
def sp_law_own_rack (T : Txt K mg) : Sp := fun vs H Q _ => ∃ sh s, ∃ n : Nat, vs = [.ref sh, .int (n : Int)] ∧ Sh K sh s H ∧ s.Ok ∧ n ≤ 16 ∧ ∀ o cl st rr H', H o = none → H cl = none → H st = none → (∀ b ∈ rr, H b = none) → Ex H H' → OwA K o cl st rr n (s.c + s.n) (List.replicate (s.c + s.n) 0) (fun _ _ => List.replicate s.w 0) H' → Q (.ref o) H'
theorem len_law_own_rack (T : Txt K mg) {vs H Q E} (h : sp_law_own_rack T vs H Q E) : vs.length = 2 := by obtain ⟨_, _, _, rfl, _⟩ := h; rfl
def t_law_own_rack (T : Txt K mg) : TS := (tSeq (tAsg (tTup (tCons (tOp rAddI (tCB (rLenV K) (tCons (tOp (rIxT K) (tVar 0) (tC (.int 6))) tNil)) (tOp (rIxT K) (tVar 0) (tC (.int 2)))) (tCons (tOp (rTimes0 K) (tTup (tCons (tC (.int 0)) tNil)) (tOp (rIxT K) (tVar 0) (tC (.int 1)))) tNil))) (gTup K 2 (gCons (gName 2) (gCons (gName 3) gNil)))) (tRet (tDisp (((tC (.str "cells")), (tLc (iRng1 (tCons (tVar 1) tNil)) (gName 4) tYes (tLc (iRng1 (tCons (tVar 2) tNil)) (gName 5) tYes (tVar 3) [5]) [4])) :: (((tC (.str "states")), (tLc (iRng1 (tCons (tVar 2) tNil)) (gName 5) tYes (tC (.str "kept")) [5])) :: [])))))

theorem pure_law_own_rack (T : Txt K mg) {vs H Q} {E : XK} (h : sp_law_own_rack T vs H Q E) : t_law_own_rack T { nx := fun _ H' => Q .non H', rt := Q } (L2.start n_law_own_rack vs) H := by
  obtain ⟨sh, s, n, rfl, S, o, hn, q⟩ := h
  have on := o.n; have oc : s.c ≤ 8 := o.c; have ow := o.w
  refine ev_is (ev_addI (sh_c S (ev_var (i := 0) rfl)) (sh_n S (ev_var (i := 0) rfl))) (show V.int ((s.c : Int) + (s.n : Int)) = V.int ((s.c + s.n : Nat) : Int) by rw [Int.natCast_add]) H (.refl H) _ fun H1 e1 => ?_
  refine eh_rep0 (K := K) (v := .int 0) ev_c (sh_w (S.ex e1) (ev_var rfl)) (by omega) H1 (.refl H1) _ fun z H2 nz e2 hz => ⟨by show 2 ≤ sizeLine; decide, fun p np => ⟨p, _, rfl, st_of upd_same, rfl, _, _, rfl, _, _, rfl, rfl, ?_⟩⟩
  have E3 := (e1.trans e2).trans (Ex.new (o := .tup [.int ((s.c + s.n : Nat) : Int), .ref z]) np)
  have hz3 : SqT K (upd H2 p (.tup [.int ((s.c + s.n : Nat) : Int), .ref z])) z ((List.replicate s.w (0 : Int)).map V.int) := ex_t (Ex.new np) (st_of (by rw [hz, List.map_replicate]))
  generalize upd H2 p (.tup [.int ((s.c + s.n : Nat) : Int), .ref z]) = H3 at E3 hz3 ⊢
  dsimp only
  intro d nd
  have e4 := Ex.new (o := .dK []) nd
  have hd4 : (upd H3 d (.dK [])) d = some (.dK []) := upd_same
  generalize upd H3 d (.dK []) = H4 at e4 hd4 ⊢
  simp only [tPairs, tC]
  refine en_lcNew (K := K) (σ := [some (.ref sh), some (.int (n : Int)), some (.int ((s.c + s.n : Nat) : Int)), some (.ref z), none, none]) (j := 4) (vs := [4]) (te := tLc (iRng1 (tCons (tVar 2) tNil)) (gName 5) tYes (tVar 3) [5]) (n := n) (N := s.c + s.n) (f := fun _ => some (List.replicate s.w 0)) (ea_1 (ev_var (i := 1) rfl)) (by omega) (fun x => rfl) (fun i H5 e5 => en_rowNew (i5 := 5) (i2 := 2) (i3 := 3) (vs := [5]) (b := z) (r := List.replicate s.w 0) (σ := [some (.ref sh), some (.int (n : Int)), some (.int ((s.c + s.n : Nat) : Int)), some (.ref z), some (.int (i : Int)), none]) rfl (by omega) (fun x => rfl) (fun x => rfl) (ex_t (e4.trans e5) hz3)) H4 (.refl H4) _ fun cl H5 ncl e5 ⟨rr, hcl, rl, rnd, rns, rnew, rlo⟩ => ?_
  have lc := el_lcR1 (σ := [some (.ref sh), some (.int (n : Int)), some (.int ((s.c + s.n : Nat) : Int)), some (.ref z), none, none]) (H := H5) (j := 5) (vs := [5]) (t := tYes) (te := tC (.str "kept")) (fun _ => true) (fun _ => .str "kept") (ea_1 (ev_var (v := .int ((s.c + s.n : Nat) : Int)) (i := 2) rfl)) (by omega) (fun x => rfl) (fun k H2 e2 hk => et_yes) (fun k H2 e2 hk _ => ev_c)
  rw [given_true, Int.toNat_natCast, List.map_const', List.length_range] at lc
  refine lc H5 (.refl H5) _ fun st H6 nst e6 hst => ⟨(e5.trans e6) _ _ hd4, [((.inr "cells" : Key), .ref cl), ((.inr "states" : Key), .ref st)], rfl, (by show 2 ≤ 15; decide), ?_⟩
  have hd6 := (e5.trans e6) _ _ hd4
  have hcl6 := e6 _ _ hcl
  have ncd : cl ≠ d := fun z => by rw [z, hd6] at hcl6; cases hcl6
  have nsd : st ≠ d := fun z => by rw [z, hd6] at hst; cases hst
  have ncs : cl ≠ st := fun z => by rw [z, nst] at hcl; cases hcl
  have ndH : H d = none := fresh_back E3 nd
  have E4 := E3.trans e4
  have kne : ¬ ((.inr "cells" : Key) = .inr "states") := by decide +kernel
  refine q d cl st rr _ ndH (fresh_back E4 ncl) (fresh_back (E4.trans e5) nst) (fun b hb => fresh_back E4 (rnew b hb)) (Ex.mut ((E4.trans e5).trans e6) ndH) ⟨⟨_, upd_same, ?_, ?_⟩, ?_, List.length_replicate, by rw [upd_ne ncd]; exact hcl6, rl, rnd, ⟨ncs, rns, fun z => ?_⟩, fun i b hb => lo_dict ((rlo b (List.mem_of_getElem? hb)).ex e6) hd6⟩
  · show valV (putK (putK [] (.inr "cells" : Key) (.ref cl)) (.inr "states") (.ref st)) _ = _
    rw [valV_put, if_neg kne, valV_put, if_pos rfl]
  · show valV (putK (putK [] (.inr "cells" : Key) (.ref cl)) (.inr "states") (.ref st)) _ = _
    rw [valV_put, if_pos rfl]
  · rw [upd_ne nsd, List.map_replicate]
    exact hst
  · obtain ⟨_, h, _⟩ := rlo st z
    rw [nst] at h
    cases h
theorem ok_law_own_rack (T : Txt K mg) : FnOk P w K mg base CX0 1 T.f_law_own_rack T.fd_law_own_rack ["_law_shape", "_law_rows"] (sp_law_own_rack T) :=
  T.d_law_own_rack.F.ok sc_law_own_rack (fun vs H Q E h => len_law_own_rack T h) fun cdv A outer s H vs Q E hr h => ⟨t_law_own_rack T, by
    exact (pss_cons (ps_asg (pe_tup (pa_cons (pe_op op_add (pe_callB call_len (by rfl) T.m_len (by decide +kernel) (pa_cons (pe_ix ix_tup (pv 0) pe_int (fun _ _ => rfl)) pa_nil)) (pe_ix ix_tup (pv 0) pe_int (fun _ _ => rfl))) (pa_cons (pe_op op_times0 (pe_tup (pa_cons pe_int pa_nil)) (pe_ix ix_tup (pv 0) pe_int (fun _ _ => rfl))) pa_nil))) (pg_tup rfl (pgs_cons (pg_name (i := 2) sc_law_own_rack.nd rfl (Or.inr rfl)) (pgs_cons (pg_name (i := 3) sc_law_own_rack.nd rfl (Or.inr rfl)) pgs_nil)))) (pss_one (ps_ret (pe_disp (pps_cons pe_str (pe_lc (own := [("_law_r", 4)]) (g := (gName 4)) (tt := tYes) (te := (tLc (iRng1 (tCons (tVar 2) tNil)) (gName 5) tYes (tVar 3) [5])) rfl sc_law_own_rack.nd (pi_range1 (by rfl) T.m_range (pa_cons (pv 1) pa_nil)) (blkOk_by (own := [("_law_r", 4)]) (N := n_law_own_rack) (sc := defScope s_law_own_rack) (by decide +kernel)) (fun _ _ _ _ _ => (pg_name (i := 4) sc_law_own_rack.nd rfl (Or.inl rfl))) (fun _ _ _ _ _ => pts_nil) (fun _ _ _ _ _ => (pe_lcIn (own := [("_law_s", 5)]) (g := (gName 5)) (tt := tYes) (te := (tVar 3)) rfl sc_law_own_rack.nd (pi_range1 (by rfl) T.m_range (pa_cons (pv 2) pa_nil)) (blkOk_by (own := [("_law_s", 5)]) (N := n_law_own_rack) (sc := _) (by decide +kernel)) (fun _ _ _ _ _ => (pg_name (i := 5) sc_law_own_rack.nd rfl (Or.inl rfl))) (fun _ _ _ _ _ => pts_nil) (fun _ _ _ _ _ => (pv 3))))) (pps_cons pe_str (pe_lc (own := [("_law_s", 5)]) (g := (gName 5)) (tt := tYes) (te := (tC (.str "kept"))) rfl sc_law_own_rack.nd (pi_range1 (by rfl) T.m_range (pa_cons (pv 2) pa_nil)) (blkOk_by (own := [("_law_s", 5)]) (N := n_law_own_rack) (sc := defScope s_law_own_rack) (by decide +kernel)) (fun _ _ _ _ _ => (pg_name (i := 5) sc_law_own_rack.nd rfl (Or.inl rfl))) (fun _ _ _ _ _ => pts_nil) (fun _ _ _ _ _ => pe_str)) pps_nil)) rfl rfl (by simp) (by decide))))), pure_law_own_rack T h⟩

end
end My


set_option maxHeartbeats 1000000
namespace My
open PySem PySem.Spec PyProof.Rows L2 Own LamX
open Evl (Ex RetV)
section
variable {P : Program} {w : World} {K : PySem.W.Frag} {mg : Str → Option Value} {base : Heap}

open Evl
/-! ### the rack beside the law's own -/
def cellsOf (ways : List Nat) (f : Nat → Nat → Ro) : Nat → Nat → Option Ro := fun i j => if 2 ≤ ways.getD j 0 then none else some (f i j)
def FBd (f : Nat → Nat → Ro) : Prop := ∀ i j, (f i j).length ≤ 20 ∧ ∀ x ∈ f i j, x.natAbs < 2 ^ 64
structure LwA (T : Txt K mg) (a p sh wl sl : Addr) (rr : List Addr) (o cl st : Addr) (rr2 : List Addr) (s : Shp) (n : Nat) (ways : List Nat) (f : Nat → Nat → Ro) (H : Hp) : Prop where
  src : Src H a
  rk : RkA T p sh wl sl rr ⟨s, n, ways, cellsOf ways f⟩ H
  ow : OwA K o cl st rr2 n (s.c + s.n) ways f H
  nd : (a :: wl :: sl :: cl :: st :: (rr ++ rr2)).Nodup
  fb : FBd f
theorem LO.keep {b : Addr} {N : Nat} {g : Nat → Option Ro} {H H' : Hp} (h : LO K b N g H) (k : ∀ o, H b = some o → H' b = some o) (sq : SqK K H H') : LO K b N g H' := by
  obtain ⟨vs, h1, h2, h3⟩ := h
  refine ⟨vs, k _ h1, h2, fun i v hv => ?_⟩
  have := h3 i v hv
  cases hf : g i with
  | none => rw [hf] at this; exact this
  | some r => rw [hf] at this; obtain ⟨c, e1, e2⟩ := this; exact ⟨c, e1, sq _ _ e2⟩
theorem Sh.sq {sh : Addr} {s : Shp} {H H' : Hp} (sq : SqK K H H') (h : Sh K sh s H) : Sh K sh s H' := by
  obtain ⟨b, h1, refs, q1, q2, q3⟩ := h
  exact ⟨b, sq _ _ h1, refs, sq _ _ q1, q2, fun i c hc => sq _ _ (q3 i c hc)⟩
theorem RkA.keep {T : Txt K mg} {p sh wl sl : Addr} {rr : List Addr} {R : Rk} {H H' : Hp} (h : RkA T p sh wl sl rr R H) (sq : SqK K H H') (k : ∀ b o, b = p ∨ b = wl ∨ b = sl ∨ b ∈ rr → H b = some o → H' b = some o) : RkA T p sh wl sl rr R H' :=
  ⟨let ⟨dx, h1⟩ := h.ob; ⟨dx, k _ _ (.inl rfl) h1⟩, Sh.sq sq h.fS, h.ok, k _ _ (.inr (.inl rfl)) h.fW, h.wn, k _ _ (.inr (.inr (.inl rfl))) h.fL, h.rn, h.r1, h.nd, h.ne, fun i b hb => LO.keep (h.lo i b hb) (fun o => k b o (.inr (.inr (.inr (List.mem_of_getElem? hb))))) sq⟩
theorem OwA.keep {o cl st : Addr} {rr : List Addr} {rows N : Nat} {ways : List Nat} {f : Nat → Nat → Ro} {H H' : Hp} (h : OwA K o cl st rr rows N ways f H) (sq : SqK K H H') (k : ∀ b q, b = o ∨ b = cl ∨ b = st ∨ b ∈ rr → H b = some q → H' b = some q) : OwA K o cl st rr rows N ways f H' :=
  ⟨let ⟨kvs, h1, h2⟩ := h.ob; ⟨kvs, k _ _ (.inl rfl) h1, h2⟩, k _ _ (.inr (.inr (.inl rfl))) h.fS, h.wn, k _ _ (.inr (.inl rfl)) h.fL, h.rn, h.nd, h.ne, fun i b hb => LO.keep (h.lo i b hb) (fun o => k b o (.inr (.inr (.inr (List.mem_of_getElem? hb))))) sq⟩
/-- the tables of the lambdas are still empty -/
def Tb0 (T : Txt K mg) (H : Hp) : Prop := ∀ P ∈ T.Ps, H P = some (.tbl #[])
theorem Tb0.ex {T : Txt K mg} {H H' : Hp} (e : Ex H H') (t : Tb0 T H) : Tb0 T H' := fun P hP => e _ _ (t P hP)
theorem Tb0.up {T : Txt K mg} {a : Addr} {H H' : Hp} (s : Src H a) (u : Up a H H') (t : Tb0 T H) : Tb0 T H' := fun P hP => u.keep P _ (s.at (t P hP) fun _ z => by cases z) (t P hP)
theorem Tb0.fr {T : Txt K mg} {L : List Addr} {H H' : Hp} (hl : ∀ b ∈ L, ∃ xs, H b = some (.lst xs)) (f : Fr L H H') (t : Tb0 T H) : Tb0 T H' := fun P hP => f P _ (fun z => by obtain ⟨xs, h⟩ := hl P z; rw [t P hP] at h; cases h) (t P hP)
theorem Tb0.lst {T : Txt K mg} {l : Addr} {xs ys : List V} {H : Hp} (h : H l = some (.lst xs)) (t : Tb0 T H) : Tb0 T (upd H l (.lst ys)) := fun P hP => by
  rw [upd_ne (fun z => by rw [← z, t P hP] at h; cases h)]
  exact t P hP
theorem Kp.sqK {H H' : Hp} (e : Kp H H') : SqK K H H' := fun _ _ h => e.sqT h
/-- the draws change nothing of it -/
theorem LwA.up {T : Txt K mg} {a p sh wl sl : Addr} {rr : List Addr} {o cl st : Addr} {rr2 : List Addr} {s : Shp} {n : Nat} {ways : List Nat} {f : Nat → Nat → Ro} {H H' : Hp} (h : LwA T a p sh wl sl rr o cl st rr2 s n ways f H) (u : Up a H H') : LwA T a p sh wl sl rr o cl st rr2 s n ways f H' := by
  have sq := Kp.sqK (K := K) (u.kp h.src)
  have nd := h.nd
  rw [List.nodup_cons] at nd
  have na := nd.1
  obtain ⟨dx, h1⟩ := h.rk.ob
  obtain ⟨kvs, h2, _⟩ := h.ow.ob
  have pa : p ≠ a := h.src.at h1 (fun _ z => by cases z)
  have oa : o ≠ a := h.src.at h2 (fun _ z => by cases z)
  refine ⟨u.src, h.rk.keep sq fun b q hb hq => u.keep b q (fun z => ?_) hq, h.ow.keep sq fun b q hb hq => u.keep b q (fun z => ?_) hq, h.nd, h.fb⟩
  · subst z
    rcases hb with e | e | e | e
    · exact pa e.symm
    · exact na (by rw [e]; simp)
    · exact na (by rw [e]; simp)
    · exact na (by simp [e])
  · subst z
    rcases hb with e | e | e | e
    · exact oa e.symm
    · exact na (by rw [e]; simp)
    · exact na (by rw [e]; simp)
    · exact na (by simp [e])
end
end My


set_option maxHeartbeats 1000000
namespace My
open PySem PySem.Spec PyProof.Rows L2 Own LamX
open Evl (Ex RetV)
section
variable {P : Program} {w : World} {K : PySem.W.Frag} {mg : Str → Option Value} {base : Heap}

open Evl
/-! ### a cell is put, here and there -/
theorem Fr.sqK {L : List Addr} {H H' : Hp} (h : Fr L H H') (hl : ∀ b ∈ L, ∃ xs, H b = some (.lst xs)) : SqK K H H' := fun c xs hx => hx.elim (fun hx => .inl (by
  rcases hx with hx | ⟨c', hx⟩
  · exact .inl (h c _ (fun z => by obtain ⟨ys, hy⟩ := hl c z; rw [hy] at hx; cases hx) hx)
  · exact .inr ⟨c', h c _ (fun z => by obtain ⟨ys, hy⟩ := hl c z; rw [hy] at hx; cases hx) hx⟩)) .inr
theorem OwA.setRow {o cl st : Addr} {rr : List Addr} {n N : Nat} {ways : List Nat} {f : Nat → Nat → Ro} {H : Hp} {i : Nat} {b : Addr} {vs : List V} {g : Nat → Ro} (h : OwA K o cl st rr n N ways f H) (hb : rr[i]? = some b) (hlo : LO K b N (fun j => some (g j)) (upd H b (.lst vs))) :
    OwA K o cl st rr n N ways (fun r => if r = i then g else f r) (upd H b (.lst vs)) := by
  have hm := List.mem_of_getElem? hb
  obtain ⟨kvs, h1, h2⟩ := h.ob
  obtain ⟨cv, hcv, _, _⟩ := h.lo i b hb
  have ns : st ≠ b := fun z => h.ne.2.2 (z ▸ hm)
  have nc : cl ≠ b := fun z => h.ne.2.1 (z ▸ hm)
  have no : o ≠ b := fun z => by rw [z, hcv] at h1; cases h1
  refine ⟨⟨kvs, by rw [upd_ne no]; exact h1, h2⟩, by rw [upd_ne ns]; exact h.fS, h.wn, by rw [upd_ne nc]; exact h.fL, h.rn, h.nd, h.ne, fun r b' hb' => ?_⟩
  by_cases c : r = i
  · subst c
    rw [hb] at hb'
    injection hb' with hb'
    subst hb'
    have e : (fun j => some ((if r = r then g else f r) j)) = fun j => some (g j) := by funext j; rw [if_pos rfl]
    show LO K b N (fun j => some ((if r = r then g else f r) j)) _
    rw [e]
    exact hlo
  · have e : (fun j => some ((if r = i then g else f r) j)) = fun j => some (f r j) := by funext j; rw [if_neg c]
    show LO K b' N (fun j => some ((if r = i then g else f r) j)) _
    rw [e]
    have nb : b' ≠ b := fun z => by
      subst z
      exact c ((List.getElem?_inj (List.getElem?_eq_some_iff.mp hb').1 h.nd).mp (hb'.trans hb.symm))
    obtain ⟨ws, q1, q2, q3⟩ := h.lo r b' hb'
    exact ⟨ws, by rw [upd_ne nb]; exact q1, q2, fun j v hv => (q3 j v hv).kp (.lst hcv)⟩
section
variable {σ : L2.St} {H : Hp} {ta tb : TE} {o cl st : Addr} {rr : List Addr} {n N : Nat} {ways : List Nat} {f : Nat → Nat → Ro}
theorem ow_cells (W : OwA K o cl st rr n N ways f H) (h : Ev ta σ H (.ref o)) : Ev (tDGet ta (tC (.str "cells"))) σ H (.ref cl) := fun H1 u Q q => h H1 u _ fun H2 u2 => by
  obtain ⟨kvs, h1, h2, h3⟩ := W.ob
  exact ⟨o, _, rfl, .inl ⟨kvs, .inr "cells", .inl ((u.trans u2) _ _ h1), rfl, h2.symm⟩, q H2 u2⟩
theorem ow_states (W : OwA K o cl st rr n N ways f H) (h : Ev ta σ H (.ref o)) : Ev (tDGet ta (tC (.str "states"))) σ H (.ref st) := fun H1 u Q q => h H1 u _ fun H2 u2 => by
  obtain ⟨kvs, h1, h2, h3⟩ := W.ob
  exact ⟨o, _, rfl, .inl ⟨kvs, .inr "states", .inl ((u.trans u2) _ _ h1), rfl, h3.symm⟩, q H2 u2⟩
theorem ow_neLost {j : Nat} (W : OwA K o cl st rr n N ways f H) (h : Ev ta σ H (.ref o)) (hj : Ev tb σ H (.int (j : Int))) (hl : j < N) : EvT (tTest (tOp rNe (tOp (rIxL K) (tDGet ta (tC (.str "states"))) tb) (tC (.str "lost")))) σ H (!decide (2 ≤ ways.getD j 0)) := by
  have hw : j < ways.length := by rw [W.wn]; exact hl
  have e : Ev (tOp (rIxL K) (tDGet ta (tC (.str "states"))) tb) σ H (wayV (ways.getD j 0)) := ev_ixL (ow_states W h) hj (sq_of W.fS) (atI_nat (by rw [List.getElem?_map, List.getElem?_eq_getElem hw, getD_lt hw]; rfl))
  have := et_test (ev_op (z := .bl (!decide (wayV (ways.getD j 0) = V.str "lost"))) e ev_c (rv_ne rfl))
  rwa [way_lost] at this
end
def sp_law_put_right (T : Txt K mg) : Sp := fun vs H Q _ => ∃ a p sh wl sl rr o cl st rr2 s n ways f, vs = [.ref a, .ref p, .ref o, .ref sh] ∧ LwA T a p sh wl sl rr o cl st rr2 s n ways f H ∧ Tb0 T H ∧ ∀ f' H', LwA T a p sh wl sl rr o cl st rr2 s n ways f' H' → Tb0 T H' → Q (.bl true) H'
theorem len_law_put_right (T : Txt K mg) {vs H Q E} (h : sp_law_put_right T vs H Q E) : vs.length = 4 := by obtain ⟨_, _, _, _, _, _, _, _, _, _, _, _, _, _, rfl, _⟩ := h; rfl
def t_law_put_right (T : Txt K mg) : TS := (tSeq (tPar 4 5 (tCons (tCall (sp_law_take T) [] E0 (tCons (tVar 0) (tCons (tCB (rLenV K) (tCons (tDGet (tVar 2) (tC (.str "cells"))) tNil)) tNil))) (tCons (tCall (sp_law_take T) [] E0 (tCons (tVar 0) (tCons (tCB (rLenV K) (tCons (tDGet (tVar 2) (tC (.str "states"))) tNil)) tNil))) tNil))) (tSeq (tAsg (tCall (sp_law_new_cell T) [] E0 (tCons (tVar 0) (tCons (tVar 3) tNil))) (gName 6)) (tSeq (tIfS (tTest (tOp rNotN (tMeth T.c_Rack "put" (sp_Rack_put T) [] E0 (tVar 1) (tCons (tVar 4) (tCons (tVar 5) (tCons (tVar 6) tNil)))) (tC .non))) (tRet (tC (.bl false))) tNext) (tSeq (tIfS (tTest (tOp rNe (tOp (rIxL K) (tDGet (tVar 2) (tC (.str "states"))) (tVar 5)) (tC (.str "lost")))) (tSeq (tAsg (tOp (rIxL K) (tDGet (tVar 2) (tC (.str "cells"))) (tVar 4)) (gName 7)) (tAsg (tVar 6) (gSub (tVar 7) (tVar 5) rSetL))) tNext) (tRet (tC (.bl true)))))))

theorem pure_law_put_right (T : Txt K mg) {vs H Q} {E : XK} (h : sp_law_put_right T vs H Q E) : t_law_put_right T { nx := fun _ H' => Q .non H', rt := Q } (L2.start n_law_put_right vs) H := by
  obtain ⟨a, p, sh, wl, sl, rr, o, cl, st, rr2, s, n, ways, f, rfl, W, tb0, q⟩ := h
  have r1 : 1 ≤ n ∧ n ≤ 16 := W.rk.r1
  have ok : s.Ok := W.rk.ok
  have on := ok.n; have oc : s.c ≤ 8 := ok.c; have ow := ok.w; have p0 := ok.p.1; have p1 := ok.p.2.1
  have rn2 := W.ow.rn
  refine ss_parPQ (D := { nx := _, rt := _, bk := _, ct := _ }) W.src (es_take (s0 := 0) (a := a) (lo := (n : Int)) (hi := (n : Int)) rfl (es_ev (v := .int (n : Int)) (fun H1 u => by
      have := ev_lenL (K := K) (σ := [some (.ref a), some (.ref p), some (.ref o), some (.ref sh), none, none, none, none]) (ta := tDGet (tVar 2) (tC (.str "cells"))) (ow_cells (W.up u).ow (ev_var rfl)) (sq_of (W.up u).ow.fL)
      rw [List.length_map, rn2] at this
      exact this) fun _ _ => ⟨_, rfl, Int.le_refl _, Int.le_refl _⟩) (by omega) (by omega))
    (es_take (s0 := 0) (a := a) (lo := ((s.c + s.n : Nat) : Int)) (hi := ((s.c + s.n : Nat) : Int)) rfl (es_ev (v := .int ((s.c + s.n : Nat) : Int)) (fun H1 u => by
      have := ev_lenL (K := K) (σ := [some (.ref a), some (.ref p), some (.ref o), some (.ref sh), none, none, none, none]) (ta := tDGet (tVar 2) (tC (.str "states"))) (ow_states (W.up u).ow (ev_var rfl)) (sq_of (W.up u).ow.fS)
      rw [List.length_map, W.ow.wn] at this
      exact this) fun _ _ => ⟨_, rfl, Int.le_refl _, Int.le_refl _⟩) (by omega) (by omega)) mono_int fun x y H1 u1 ⟨ii, ex, i0, i1⟩ ⟨ji, ey, j0, j1⟩ => ?_
  subst ex ey
  obtain ⟨i, rfl⟩ : ∃ i : Nat, ii = (i : Int) := ⟨ii.toNat, by omega⟩
  obtain ⟨j, rfl⟩ : ∃ j : Nat, ji = (j : Int) := ⟨ji.toNat, by omega⟩
  have hi : i < n := by omega
  have hj : j < s.c + s.n := by omega
  have W1 := W.up u1
  dsimp only
  refine ⟨_, rfl, _, rfl, a, sh, s, rfl, W1.src, W1.rk.fS, ok, fun v H2 u2 ⟨cb, r, ev, hcb, hrl, hrb⟩ => ?_⟩
  subst ev
  have W2 := W1.up u2
  dsimp only
  have gi : ∀ {k : Nat}, k < 2 ^ 60 → Gd K H2 0 (.int (k : Int)) (.int (k : Int)) := fun h => gd_int (by rw [Int.natAbs_natCast]; omega)
  have gr : Gd K H2 1 (.ref cb) (intsD r) := gd_ints hcb (by omega) fun x hx => by have := hrb x hx; omega
  have wi : within (.int (i : Int)) 0 ((n : Int) - 1) = true := by simp [within]; omega
  have wj : within (.int (j : Int)) 0 ((s.c + s.n : Int) - 1) = true := by simp [within]; omega
  have wr : rowD (intsD r) s.w s.p = true := by
    show (decide ((((r.map PyData.int).length : Nat) : Int) = (s.w : Int)) && (r.map PyData.int).all fun x => within x 0 (s.p - 1)) = true
    rw [Bool.and_eq_true]
    refine ⟨decide_eq_true (by rw [List.length_map]; omega), List.all_eq_true.mpr fun x hx => ?_⟩
    obtain ⟨y, hy, rfl⟩ := List.mem_map.mp hx
    have := hrb y hy
    simp [within]
    omega
  obtain ⟨dx, hob⟩ := W2.rk.ob
  have nd := W2.nd
  simp only [List.nodup_cons, List.mem_cons, List.mem_append, not_or, List.nodup_append] at nd
  obtain ⟨⟨_, _, _, _, ar, ar2⟩, ⟨_, _, _, wr1, wr2⟩, ⟨_, _, sr1, sr2⟩, ⟨_, cr1, cr2⟩, ⟨tr1, tr2⟩, _, _, dj⟩ := nd
  refine ⟨_, rfl, p, dx, _, rfl, hob, rkF_no (by decide +kernel) (by decide +kernel) (by decide +kernel) (by decide +kernel), _, rfl, _, rfl, _, rfl, p, sh, wl, sl, rr, _, 0, 0, 1, _, _, _, .int (i : Int), .int (j : Int), intsD r, rfl, W2.rk, gi (by omega), gi (by omega), gr, fun i' j' r' ei ej er hi' hj' hl' hb' H3 rk3 fr => ?_, (fun c => by rw [wi] at c; cases c), (fun _ c => by rw [wj] at c; cases c), fun _ _ c => by rw [wr] at c; cases c⟩
  injection ei with ei
  injection ej with ej
  have ei : i = i' := by omega
  have ej : j = j' := by omega
  subst ei ej
  have er : r = r' := by
    unfold intsD at er
    injection er with er
    exact List.map_inj_right (fun a b h => by injection h) |>.mp er
  subst er
  refine ⟨rfl, false, rfl, ?_⟩
  dsimp only
  rw [if_neg (by decide : ¬ (false = true))]
  dsimp only [tNext]
  have lists : ∀ b ∈ rr, ∃ xs, H2 b = some (.lst xs) := fun b hb => by
    obtain ⟨k, hk⟩ := List.mem_iff_getElem?.mp hb
    obtain ⟨vs, h, _⟩ := W2.rk.lo k b hk
    exact ⟨vs, h⟩
  have sq3 := fr.sqK (K := K) lists
  have tb3 : Tb0 T H3 := ((tb0.up W.src u1).up W1.src u2).fr lists fr
  have src3 : Src H3 a := let ⟨x, y, h, r⟩ := W2.src; ⟨x, y, fr a _ ar h, r⟩
  have o3 : o ∉ rr := fun z => by
    obtain ⟨xs, h⟩ := lists o z
    obtain ⟨kvs, h2, _⟩ := W2.ow.ob
    rw [h] at h2
    cases h2
  have ow3 : OwA K o cl st rr2 n (s.c + s.n) ways f H3 := W2.ow.keep sq3 fun b q hb hq => fr b q (fun z => by
    rcases hb with e | e | e | e
    · exact o3 (e ▸ z)
    · exact cr1 (e ▸ z)
    · exact tr1 (e ▸ z)
    · exact dj b z b e rfl) hq
  refine q_when (ow_neLost ow3 (ev_var rfl) (ev_var rfl) hj) (fun c H4 e4 => ?_) (fun c H4 e4 => ?_)
  · have nl : ¬ 2 ≤ ways.getD j 0 := by simpa using c
    have ow4 := ow3.ex e4
    have hir : i < rr2.length := by rw [rn2]; exact hi
    have hb := List.getElem?_eq_getElem hir
    refine q_asg (ev_ixL (ow_cells ow4 (ev_var rfl)) (ev_var rfl) (sq_of ow4.fL) (atI_nat (refs_at hb))) fun H5 e5 => ?_
    refine s_setO (o := some r) ((ow4.ex e5).lo i _ hb) (ev_var rfl) ⟨cb, rfl, ex_t (e4.trans e5) (sq3 _ _ hcb)⟩ (ev_var rfl) (ev_var rfl) hj fun H6 vs e6 hlo => ?_
    have ow6 := (ow4.ex e5).ex e6
    have rk6 := ((rk3.ex e4).ex e5).ex e6
    have hm := List.getElem_mem hir
    obtain ⟨cv, hcv, _, _⟩ := ow6.lo i _ hb
    have src6 : Src (upd H6 rr2[i] (.lst vs)) a := by
      obtain ⟨x, y, h, r⟩ := src3
      have na : a ≠ rr2[i] := fun z => ar2 (by rw [z]; exact hm)
      exact ⟨x, y, by rw [upd_ne na]; exact ((e4.trans e5).trans e6) _ _ h, r⟩
    have hlo2 : LO K rr2[i] (s.c + s.n) (fun x => some (if x = j then r else f i x)) (upd H6 rr2[i] (.lst vs)) := by
      have e : (fun x => some (if x = j then r else f i x)) = fun x => if x = j then some r else some (f i x) := by funext x; split <;> rfl
      rw [e]
      exact hlo
    have rk7 := rk6.keep (H' := upd H6 rr2[i] (.lst vs)) (Kp.sqK (Kp.lst hcv)) fun b q hb hq => by
      have nb : b ≠ rr2[i] := fun z => by
        rcases hb with e | e | e | e
        · obtain ⟨dx6, h6⟩ := rk6.ob
          rw [← e, z, hcv] at h6
          cases h6
        · exact wr2 (by rw [← e, z]; exact hm)
        · exact sr2 (by rw [← e, z]; exact hm)
        · exact dj b e b (by rw [z]; exact hm) rfl
      rw [upd_ne nb]
      exact hq
    dsimp only
    refine s_ret (ev_c (v := .bl true)) fun H7 e7 => q (fun r' => if r' = i then fun x => if x = j then r else f i x else f r') H7 ⟨src6.ex e7, (rk7.cellEq fun i' j' _ => ?_).ex e7, (ow6.setRow hb hlo2).ex e7, W.nd, fun r' x' => ?_⟩ ((((tb3.ex e4).ex e5).ex e6 |>.lst hcv).ex e7)
    · show (if 2 ≤ ways.getD j 0 then cellsOf ways f else putC (cellsOf ways f) i j (some r)) i' j' = cellsOf ways (fun r' => if r' = i then fun x => if x = j then r else f i x else f r') i' j'
      rw [if_neg nl]
      unfold putC cellsOf
      by_cases c1 : i' = i
      · subst c1
        by_cases c2 : j' = j
        · subst c2
          rw [if_pos ⟨rfl, rfl⟩, if_neg nl]
          simp
        · rw [if_neg (fun z => c2 z.2)]
          simp [c2]
      · rw [if_neg (fun z => c1 z.1)]
        simp [c1]
    · show ((if r' = i then fun x => if x = j then r else f i x else f r') x').length ≤ 20 ∧ ∀ y ∈ (if r' = i then fun x => if x = j then r else f i x else f r') x', y.natAbs < 2 ^ 64
      by_cases c1 : r' = i
      · rw [if_pos c1]
        by_cases c2 : x' = j
        · simp only [c2, if_true]
          exact ⟨by omega, fun y hy => by have := hrb y hy; omega⟩
        · simp only [c2, if_false]
          exact W.fb i x'
      · rw [if_neg c1]
        exact W.fb r' x'
  · have nl : 2 ≤ ways.getD j 0 := by simpa using c
    refine s_ret (ev_c (v := .bl true)) fun H5 e5 => q f H5 ⟨(src3.ex e4).ex e5, ((rk3.cellEq fun i' j' _ => ?_).ex e4).ex e5, (ow3.ex e4).ex e5, W.nd, W.fb⟩ ((tb3.ex e4).ex e5)
    show (if 2 ≤ ways.getD j 0 then cellsOf ways f else putC (cellsOf ways f) i j (some r)) i' j' = cellsOf ways f i' j'
    rw [if_pos nl]
theorem ok_law_put_right (T : Txt K mg) : FnOk P w K mg base CX0 5 T.f_law_put_right T.fd_law_put_right ["_law_source", "_law_rack", "_law_own", "_law_shape"] (sp_law_put_right T) :=
  T.d_law_put_right.F.ok sc_law_put_right (fun vs H Q E h => len_law_put_right T h) fun cdv A outer s H vs Q E hr h => ⟨t_law_put_right T, by
    exact (pss_cons (ps_par (i := 4) (j := 5) rfl sc_law_put_right.nd rfl rfl (by decide) rfl rfl (pa_cons (pe_call (ok_law_take T) (hr.mono (by decide)) (by rfl) T.d_law_take.g T.d_law_take.F.kp T.d_law_take.b .nil pass0 (pa_cons (pv 0) (pa_cons (pe_callB call_len (by rfl) T.m_len (by decide +kernel) (pa_cons (pe_dget hr.units1 (pv 2) pe_str (fun _ _ => rfl)) pa_nil)) pa_nil))) (pa_cons (pe_call (ok_law_take T) (hr.mono (by decide)) (by rfl) T.d_law_take.g T.d_law_take.F.kp T.d_law_take.b .nil pass0 (pa_cons (pv 0) (pa_cons (pe_callB call_len (by rfl) T.m_len (by decide +kernel) (pa_cons (pe_dget hr.units1 (pv 2) pe_str (fun _ _ => rfl)) pa_nil)) pa_nil))) pa_nil)) (by rfl)) (pss_cons (ps_set (i := 6) sc_law_put_right.nd rfl (Or.inl rfl) (pe_call (ok_law_new_cell T) (hr.mono (by decide)) (by rfl) T.d_law_new_cell.g T.d_law_new_cell.F.kp T.d_law_new_cell.b .nil pass0 (pa_cons (pv 0) (pa_cons (pv 3) pa_nil)))) (pss_cons (ps_if (pt_cmpR op_notN (pe_meth (pv 1) T.cl_Rack T.d_Rack_put.m (ok_Rack_put T) (hr.mono (by decide)) T.d_Rack_put.b .nil passL (pa_cons (pv 4) (pa_cons (pv 5) (pa_cons (pv 6) pa_nil)))) pe_non (nomark _)) (pss_one (ps_ret pe_bl)) pss_nil) (pss_cons (ps_if (pt_cmpR op_ne (pe_ix ix_list (pe_dget hr.units1 (pv 2) pe_str (fun _ _ => rfl)) (pv 5) (fun _ _ => rfl)) pe_str (nomark _)) (pss_cons (ps_set (i := 7) sc_law_put_right.nd rfl (Or.inl rfl) (pe_ix ix_list (pe_dget hr.units1 (pv 2) pe_str (fun _ _ => rfl)) (pv 4) (fun _ _ => rfl))) (pss_one (ps_asg (pv 6) (pg_sub (pv 7) (pv 5) set_list)))) pss_nil) (pss_one (ps_ret pe_bl)))))), pure_law_put_right T h⟩

end
end My


set_option maxHeartbeats 1000000
namespace My
open PySem PySem.Spec PyProof.Rows L2 Own LamX
open Evl (Ex RetV)
section
variable {P : Program} {w : World} {K : PySem.W.Frag} {mg : Str → Option Value} {base : Heap}

open Evl
/-! ### a shelf lost, or there again, here and there -/
section
variable {σ : L2.St} {H : Hp} {D : Ends} {t u : TT} {A B tz tu : TS} {ta : TE}
theorem s_ifAnd {b : Bool} (h1 : EvT t σ H b) (k0 : b = false → ∀ H1, Ex H H1 → B D σ H1) (k1 : b = true → ∀ H1, Ex H H1 → u σ H1 fun c H2 => if c = true then A D σ H2 else B D σ H2) : tIfS (tAnd t u) A B D σ H := h1 H (.refl H) _ fun H1 e => by
  cases b with
  | false => exact k0 rfl H1 e
  | true => exact k1 rfl H1 e
/-- if rack.m(..) is not None: .. -/
theorem q_methNon {T : Txt K mg} {p sh wl sl : Addr} {rr : List Addr} {R : Rk} {m : Str} {sp : Sp} {E : XK} {tt : TA} {vs : List V} (A : RkA T p sh wl sl rr R H) (h : Ev ta σ H (.ref p)) (n1 : ¬ m = "stripes") (n2 : ¬ m = "ways") (n3 : ¬ m = "rows") (n4 : ¬ m = "shape") (ha : EvA tt σ H vs)
    (k : ∀ H1, Ex H H1 → ∀ Q : VK, (∀ H', tz D σ H' → Q .non H') → sp (.ref p :: vs) H1 Q E) : tSeq (tIfS (tTest (tOp rNotN (tMeth T.c_Rack m sp [] E ta tt) (tC .non))) tu tNext) tz D σ H :=
  h H (.refl H) _ fun H1 e1 => by
    obtain ⟨dx, h1⟩ := A.ob
    refine ⟨p, dx, _, rfl, e1 _ _ h1, rkF_no n1 n2 n3 n4, ha H1 e1 _ fun H2 e2 => ?_⟩
    rw [List.append_nil]
    exact k H2 (e1.trans e2) _ fun H' q => ⟨rfl, false, rfl, q⟩
/-- the shelves of a way -/
def inWay (P : Nat → Bool) (ways : List Nat) : List Nat := (List.range ways.length).filter fun i => P (ways.getD i 0)
theorem el_ways {st : Addr} {ways : List Nat} {i j : Nat} {P : Nat → Bool} {word : Str} (hst : SqL K H st (ways.map wayV)) (hn : ways.length ≤ 1000) (h4 : σ[i]? = some (some (.ref st))) (hw : ∀ x, wipe ((wipe σ [j]).set j (some x)) [j] = wipe σ [j])
    (h5 : ∀ x, ((wipe σ [j]).set j (some x))[i]? = some (some (.ref st))) (h7 : ∀ x, ((wipe σ [j]).set j (some x))[j]? = some (some x)) (hP : ∀ w, decide (wayV w = V.str word) = P w) :
    EvL (tLc (iRng1 (tCons (tCB (rLenV K) (tCons (tVar i) tNil)) tNil)) (gName j) (tTest (tOp rEq (tOp (rIxL K) (tVar i) (tVar j)) (tC (.str word)))) (tVar j) [j]) σ H ((inWay P ways).map fun (m : Nat) => V.int (m : Int)) := by
  have hl : (ways.map wayV).length = ways.length := List.length_map _
  have lc := el_lcR1 (σ := σ) (H := H) (j := j) (vs := [j]) (t := tTest (tOp rEq (tOp (rIxL K) (tVar i) (tVar j)) (tC (.str word)))) (te := tVar j) (fun m => P (ways.getD m 0)) (fun m => .int (m : Int)) (ea_1 (ev_lenL (K := K) (ev_var h4) hst)) (by omega) hw
    (fun m H1 e1 hm => by
      have hm2 : m < ways.length := by omega
      have e : Ev (tOp (rIxL K) (tVar i) (tVar j)) ((wipe σ [j]).set j (some (.int (m : Int)))) H1 (wayV (ways.getD m 0)) := ev_ixL (ev_var (h5 _)) (ev_var (h7 _)) (ex_l e1 hst) (atI_nat (by rw [List.getElem?_map, List.getElem?_eq_getElem hm2, getD_lt hm2]; rfl))
      have := et_test (ev_op (z := .bl (decide (wayV (ways.getD m 0) = V.str word))) e ev_c (rv_eq rfl))
      rwa [hP] at this) (fun m H1 e1 hm _ => ev_var (h7 _))
  rw [hl, Int.toNat_natCast] at lc
  exact lc
end
/-- a rack and the law's own, each as it is -/
structure TwA (T : Txt K mg) (a p sh wl sl : Addr) (rr : List Addr) (o cl st : Addr) (rr2 : List Addr) (R : Rk) (n N : Nat) (ways : List Nat) (f : Nat → Nat → Ro) (H : Hp) : Prop where
  src : Src H a
  rk : RkA T p sh wl sl rr R H
  ow : OwA K o cl st rr2 n N ways f H
  nd : (a :: wl :: sl :: cl :: st :: (rr ++ rr2)).Nodup
  tb : Tb0 T H
section
variable {T : Txt K mg} {a p sh wl sl : Addr} {rr : List Addr} {o cl st : Addr} {rr2 : List Addr} {R R' : Rk} {n N : Nat} {ways ways' : List Nat} {f f' : Nat → Nat → Ro} {H H' : Hp}
theorem LwA.two {s : Shp} (W : LwA T a p sh wl sl rr o cl st rr2 s n ways f H) (tb : Tb0 T H) : TwA T a p sh wl sl rr o cl st rr2 ⟨s, n, ways, cellsOf ways f⟩ n (s.c + s.n) ways f H := ⟨W.src, W.rk, W.ow, W.nd, tb⟩
theorem TwA.lw {s : Shp} (W : TwA T a p sh wl sl rr o cl st rr2 R n (s.c + s.n) ways f H) (e1 : R.s = s) (e2 : R.rows = n) (e3 : R.ways = ways) (e4 : ∀ i j, i < n → R.cell i j = cellsOf ways f i j) (fb : FBd f) : LwA T a p sh wl sl rr o cl st rr2 s n ways f H := by
  subst e1 e2 e3
  exact ⟨W.src, W.rk.cellEq e4, W.ow, W.nd, fb⟩
theorem TwA.ex (e : Ex H H') (W : TwA T a p sh wl sl rr o cl st rr2 R n N ways f H) : TwA T a p sh wl sl rr o cl st rr2 R n N ways f H' := ⟨W.src.ex e, W.rk.ex e, W.ow.ex e, W.nd, W.tb.ex e⟩
theorem TwA.rack (W : TwA T a p sh wl sl rr o cl st rr2 R n N ways f H) (h : RkA T p sh wl sl rr R' H') (fr : Fr (wl :: rr) H H') : TwA T a p sh wl sl rr o cl st rr2 R' n N ways f H' := by
  have nd := W.nd
  simp only [List.nodup_cons, List.mem_cons, List.mem_append, not_or, List.nodup_append] at nd
  obtain ⟨⟨aw, _, _, _, ar, ar2⟩, ⟨_, wc, wt, wr1, wr2⟩, ⟨_, _, sr1, sr2⟩, ⟨_, cr1, cr2⟩, ⟨tr1, tr2⟩, _, _, dj⟩ := nd
  have lists : ∀ b ∈ wl :: rr, ∃ xs, H b = some (.lst xs) := fun b hb => by
    rcases List.mem_cons.mp hb with e | hb
    · exact ⟨_, e ▸ W.rk.fW⟩
    · obtain ⟨k, hk⟩ := List.mem_iff_getElem?.mp hb
      obtain ⟨vs, h, _⟩ := W.rk.lo k b hk
      exact ⟨vs, h⟩
  refine ⟨?_, h, W.ow.keep (fr.sqK lists) fun b q hb hq => fr b q (fun z => ?_) hq, W.nd, W.tb.fr lists fr⟩
  · obtain ⟨x, y, h, r⟩ := W.src
    exact ⟨x, y, fr a _ (fun z => (List.mem_cons.mp z).elim aw ar) h, r⟩
  · have zz := List.mem_cons.mp z
    rcases hb with e | e | e | e
    · subst e
      obtain ⟨xs, h⟩ := lists b z
      obtain ⟨kvs, h2, _⟩ := W.ow.ob
      rw [h] at h2
      cases h2
    · subst e
      exact zz.elim (fun z => wc z.symm) cr1
    · subst e
      exact zz.elim (fun z => wt z.symm) tr1
    · exact zz.elim (fun z => wr2 (z ▸ e)) fun z => dj b z b e rfl
theorem TwA.own {b : Addr} {xs ys : List V} (W : TwA T a p sh wl sl rr o cl st rr2 R n N ways f H) (hb : b = st ∨ b ∈ rr2) (hx : H b = some (.lst xs)) (h : OwA K o cl st rr2 n N ways' f' (upd H b (.lst ys))) : TwA T a p sh wl sl rr o cl st rr2 R n N ways' f' (upd H b (.lst ys)) := by
  have nd := W.nd
  simp only [List.nodup_cons, List.mem_cons, List.mem_append, not_or, List.nodup_append] at nd
  obtain ⟨⟨aw, _, _, at_, ar, ar2⟩, ⟨_, wc, wt, wr1, wr2⟩, ⟨_, lt, sr1, sr2⟩, ⟨_, cr1, cr2⟩, ⟨tr1, tr2⟩, _, _, dj⟩ := nd
  refine ⟨?_, W.rk.keep (Kp.sqK (Kp.lst hx)) fun c q hc hq => ?_, h, W.nd, W.tb.lst hx⟩
  · obtain ⟨x, y, h, r⟩ := W.src
    have na : a ≠ b := fun z => hb.elim (fun e => at_ (z.trans e)) fun e => ar2 (by rw [z]; exact e)
    exact ⟨x, y, by rw [upd_ne na]; exact h, r⟩
  · have nb : c ≠ b := fun z => by
      rcases hc with e | e | e | e
      · obtain ⟨dx, h1⟩ := W.rk.ob
        rw [← e, z, hx] at h1
        cases h1
      · exact hb.elim (fun y => wt (e.symm.trans (z.trans y))) fun y => wr2 (by rw [← e, z]; exact y)
      · exact hb.elim (fun y => lt (e.symm.trans (z.trans y))) fun y => sr2 (by rw [← e, z]; exact y)
      · exact hb.elim (fun y => tr1 (by rw [← y, ← z]; exact e)) fun y => dj c e c (by rw [z]; exact y) rfl
    rw [upd_ne nb]
    exact hq
theorem OwA.setWay {j w : Nat} (h : OwA K o cl st rr2 n N ways f H) : OwA K o cl st rr2 n N (ways.set j w) f (upd H st (.lst ((ways.map wayV).set j (wayV w)))) := by
  obtain ⟨kvs, h1, h2⟩ := h.ob
  have no : o ≠ st := fun z => by rw [z, h.fS] at h1; cases h1
  refine ⟨⟨kvs, by rw [upd_ne no]; exact h1, h2⟩, by rw [upd_same, List.map_set], by rw [List.length_set]; exact h.wn, by rw [upd_ne h.ne.1]; exact h.fL, h.rn, h.nd, h.ne, fun r b hb => ?_⟩
  have nb : b ≠ st := fun z => h.ne.2.2 (z ▸ List.mem_of_getElem? hb)
  obtain ⟨ws, q1, q2, q3⟩ := h.lo r b hb
  exact ⟨ws, by rw [upd_ne nb]; exact q1, q2, fun j v hv => (q3 j v hv).kp (.lst h.fS)⟩
theorem OwA.fEq (h : OwA K o cl st rr2 n N ways f H) (e : ∀ i j, i < n → f i j = f' i j) : OwA K o cl st rr2 n N ways f' H :=
  ⟨h.ob, h.fS, h.wn, h.fL, h.rn, h.nd, h.ne, fun i b hb => by
    have hi : i < n := by rw [← h.rn]; exact (List.getElem?_eq_some_iff.mp hb).1
    have e2 : (fun j => some (f' i j)) = fun j => some (f i j) := funext fun j => by rw [e i j hi]
    rw [e2]
    exact h.lo i b hb⟩
end
def PWay (P : Nat → Bool) (ways : List Nat) : VP := fun v _ => ∃ m : Nat, v = .int (m : Int) ∧ m < ways.length ∧ P (ways.getD m 0) = true
theorem monoK_way {P : Nat → Bool} {ways : List Nat} : MonoK (PWay P ways) := fun _ _ _ _ h => h
theorem way_bag {P : Nat → Bool} {ways : List Nat} {a l : Addr} {H : Hp} (na : l ≠ a) (h : H l = some (.lst ((inWay P ways).map fun (m : Nat) => V.int (m : Int)))) (ne : inWay P ways ≠ []) : Bag a l (PWay P ways) ways.length H :=
  ⟨na, _, h, by rw [List.length_map]; exact List.length_pos_iff.mpr ne, by rw [List.length_map]; exact Nat.le_trans (List.length_filter_le _ _) (by rw [List.length_range]; exact Nat.le_refl _), fun y hy => by
    obtain ⟨m, hm, rfl⟩ := List.mem_map.mp hy
    unfold inWay at hm
    rw [List.mem_filter, List.mem_range] at hm
    exact ⟨m, rfl, hm.1, hm.2⟩⟩
theorem len_filter2 (N : Nat) (P : Nat → Bool) (j : Nat) (hj : j < N) (hp : P j = false) : (((List.range N).filter fun i => P i && !decide (i = j)).length = ((List.range N).filter P).length) := by
  congr 1
  refine List.filter_congr fun i _ => ?_
  by_cases c : i = j
  · subst c
    simp [hp]
  · simp [c]
theorem len_part (N : Nat) (P : Nat → Bool) : ((List.range N).filter P).length + ((List.range N).filter fun i => !P i).length = N := by
  have h : ∀ l : List Nat, (l.filter P).length + (l.filter fun i => !P i).length = l.length := fun l => by
    induction l with
    | nil => rfl
    | cons x l ih =>
      by_cases c : P x = true
      · simp only [List.filter_cons, c, if_true, List.length_cons, Bool.not_true]
        simp only [Bool.false_eq_true, if_false]
        omega
      · have c : P x = false := by simpa using c
        simp only [List.filter_cons, c, List.length_cons, Bool.not_false, if_true]
        simp only [Bool.false_eq_true, if_false, List.length_cons]
        omega
  rw [h, List.length_range]
theorem getD_set {l : List Nat} {i j x : Nat} (hj : j < l.length) : (l.set j x).getD i 0 = if i = j then x else l.getD i 0 := by
  rw [List.getD_eq_getElem?_getD, List.getD_eq_getElem?_getD, List.getElem?_set]
  by_cases c : j = i
  · rw [if_pos c, if_pos (by omega), if_pos c.symm]; rfl
  · rw [if_neg c, if_neg (Ne.symm c)]
end
end My


set_option maxHeartbeats 1000000
namespace My
open PySem PySem.Spec PyProof.Rows L2 Own LamX
open Evl (Ex RetV)
section
variable {P : Program} {w : World} {K : PySem.W.Frag} {mg : Str → Option Value} {base : Heap}

open Evl
/-! ### one loss, or one replaced -/
section
variable {σ : L2.St} {H : Hp} {D : Ends} {t u : TT} {A B : TS} {a : Addr}
theorem s_ifAndU {b : Bool} (s : Src H a) (h1 : EvT t σ H b) (h2 : b = true → ∀ H1, Up a H H1 → EvST a u σ H1) (hA : b = true → ∀ H1, Up a H H1 → A D σ H1) (hB : ∀ H1, Up a H H1 → B D σ H1) : tIfS (tAnd t u) A B D σ H := h1 H (.refl H) _ fun H1 e => by
  have u1 := Up.ex e s
  cases b with
  | false => exact hB H1 u1
  | true =>
    refine h2 rfl H1 u1 H1 (.refl u1.src) _ fun c H2 u2 => ?_
    cases c with
    | false => exact hB H2 (u1.trans u2)
    | true => exact hA rfl H2 (u1.trans u2)
end
theorem TwA.fEq {T : Txt K mg} {a p sh wl sl : Addr} {rr : List Addr} {o cl st : Addr} {rr2 : List Addr} {R : Rk} {n N : Nat} {ways : List Nat} {f f' : Nat → Nat → Ro} {H : Hp} (W : TwA T a p sh wl sl rr o cl st rr2 R n N ways f H) (e : ∀ i j, i < n → f i j = f' i j) : TwA T a p sh wl sl rr o cl st rr2 R n N ways f' H := ⟨W.src, W.rk, W.ow.fEq e, W.nd, W.tb⟩
theorem way_ints {P : Nat → Bool} {ways : List Nat} {l : Addr} {H : Hp} (h : H l = some (.lst ((inWay P ways).map fun (m : Nat) => V.int (m : Int)))) : SqL K H l (((inWay P ways).map fun (m : Nat) => (m : Int)).map V.int) := sq_of (by rw [h, List.map_map]; rfl)
theorem way_ne {P : Nat → Bool} {ways : List Nat} (h : (!((inWay P ways).map fun (m : Nat) => (m : Int)).isEmpty) = true) : inWay P ways ≠ [] := fun z => by rw [z] at h; cases h
theorem zeroC_rep {s : Shp} (h : 1 ≤ s.w) : zeroC s = List.replicate s.w 0 := by
  unfold zeroC
  obtain ⟨k, hk⟩ : ∃ k, s.w = k + 1 := ⟨s.w - 1, by omega⟩
  rw [hk]
  rfl
def sp_law_loss_right (T : Txt K mg) : Sp := fun vs H Q _ => ∃ a p sh wl sl rr o cl st rr2 s n ways f, vs = [.ref a, .ref p, .ref o, .ref sh] ∧ LwA T a p sh wl sl rr o cl st rr2 s n ways f H ∧ Tb0 T H ∧ ∀ ways' f' H', LwA T a p sh wl sl rr o cl st rr2 s n ways' f' H' → Tb0 T H' → Q (.bl true) H'
theorem len_law_loss_right (T : Txt K mg) {vs H Q E} (h : sp_law_loss_right T vs H Q E) : vs.length = 4 := by obtain ⟨_, _, _, _, _, _, _, _, _, _, _, _, _, _, rfl, _⟩ := h; rfl
def t_law_loss_right (T : Txt K mg) : TS := (tSeq (tAsg (tDGet (tVar 2) (tC (.str "states"))) (gName 4)) (tSeq (tAsg (tLc (iRng1 (tCons (tCB (rLenV K) (tCons (tVar 4) tNil)) tNil)) (gName 7) (tTest (tOp rEq (tOp (rIxL K) (tVar 4) (tVar 7)) (tC (.str "kept")))) (tVar 7) [7]) (gName 5)) (tSeq (tAsg (tLc (iRng1 (tCons (tCB (rLenV K) (tCons (tVar 4) tNil)) tNil)) (gName 7) (tTest (tOp rEq (tOp (rIxL K) (tVar 4) (tVar 7)) (tC (.str "lost")))) (tVar 7) [7]) (gName 6)) (tSeq (tIfS (tAnd (tTest (tOp (rNeD K) (tVar 6) (tLst tNil))) (tTest (tOp rEq (tCall (sp_law_take T) [] E0 (tCons (tVar 0) (tCons (tC (.int 2)) tNil))) (tC (.int 0))))) (tSeq (tAsg (tCall (sp_law_one T) [] E0 (tCons (tVar 0) (tCons (tVar 6) tNil))) (gName 7)) (tSeq (tIfS (tTest (tOp rNotN (tMeth T.c_Rack "replace" (sp_Rack_replace T) [] E0 (tVar 1) (tCons (tVar 7) tNil)) (tC .non))) (tRet (tC (.bl false))) tNext) (tSeq (tAsg (tC (.str "raw")) (gSub (tVar 4) (tVar 7) rSetL)) (tFor (iList K (tDGet (tVar 2) (tC (.str "cells")))) (gName 8) (tAsg (tOp (rTimes0 K) (tTup (tCons (tC (.int 0)) tNil)) (tOp (rIxT K) (tVar 3) (tC (.int 1)))) (gSub (tVar 8) (tVar 7) rSetL)))))) (tIfS (tAnd (tTest (tOp (rNeD K) (tVar 5) (tLst tNil))) (tTest (tOp rLtI (tOp rSubI (tCB (rLenV K) (tCons (tVar 4) tNil)) (tCB (rLenV K) (tCons (tVar 5) tNil))) (tOp (rIxT K) (tVar 3) (tC (.int 4)))))) (tSeq (tAsg (tCall (sp_law_one T) [] E0 (tCons (tVar 0) (tCons (tVar 5) tNil))) (gName 7)) (tSeq (tIfS (tTest (tOp rNotN (tMeth T.c_Rack "lose" (sp_Rack_lose T) [] E0 (tVar 1) (tCons (tVar 7) tNil)) (tC .non))) (tRet (tC (.bl false))) tNext) (tAsg (tC (.str "lost")) (gSub (tVar 4) (tVar 7) rSetL)))) tNext)) (tRet (tC (.bl true)))))))

theorem pure_law_loss_right (T : Txt K mg) {vs H Q} {E : XK} (h : sp_law_loss_right T vs H Q E) : t_law_loss_right T { nx := fun _ H' => Q .non H', rt := Q } (L2.start n_law_loss_right vs) H := by
  obtain ⟨a, p, sh, wl, sl, rr, o, cl, st, rr2, s, n, ways, f, rfl, W, tb0, q⟩ := h
  have ok : s.Ok := W.rk.ok
  have on := ok.n; have oc : s.c ≤ 8 := ok.c; have ow := ok.w
  have wn : ways.length = s.c + s.n := W.ow.wn
  refine q_asg (i := 4) (ow_states W.ow (ev_var rfl)) fun H1 e1 => ?_
  have W1 := W.up (.ex e1 W.src)
  refine q_asgL (el_ways (K := K) (P := fun w => decide (w = 0)) (sq_of W1.ow.fS) (by omega) rfl (fun x => rfl) (fun x => rfl) (fun x => rfl) way_kept) fun kl H2 nk e2 hk => ?_
  have W2 := W1.up (.ex e2 W1.src)
  refine q_asgL (el_ways (K := K) (P := fun w => decide (2 ≤ w)) (sq_of W2.ow.fS) (by omega) rfl (fun x => rfl) (fun x => rfl) (fun x => rfl) way_lost) fun ll H3 nl e3 hl => ?_
  have W3 := W2.up (.ex e3 W2.src)
  have hk3 := e3 _ _ hk
  have ka : kl ≠ a := W1.src.new nk
  have la : ll ≠ a := W2.src.new nl
  have tb3 : Tb0 T H3 := ((tb0.ex e1).ex e2).ex e3
  have W30 : ∀ {H4 : Hp}, Up a H3 H4 → LwA T a p sh wl sl rr o cl st rr2 s n ways f H4 := fun u => W3.up u
  refine q_split (fun σ' H' => ∃ u7 u8 ways' f', σ' = [some (.ref a), some (.ref p), some (.ref o), some (.ref sh), some (.ref st), some (.ref kl), some (.ref ll), u7, u8] ∧ LwA T a p sh wl sl rr o cl st rr2 s n ways' f' H' ∧ Tb0 T H') ?_ fun R => ?_
  · rintro σ' H' ⟨u7, u8, ways', f', rfl, W', tb'⟩
    exact s_ret (ev_c (v := .bl true)) fun H4 e4 => q ways' f' H4 (W'.up (.ex e4 W'.src)) (tb'.ex e4)
  have gi : ∀ {H' : Hp} {k : Nat}, k < ways.length → Gd K H' 0 (.int (k : Int)) (.int (k : Int)) := fun h => gd_int (by rw [Int.natAbs_natCast]; omega)
  have wj : ∀ {j : Nat}, j < ways.length → within (.int (j : Int)) 0 ((s.c + s.n : Int) - 1) = true := fun h => by simp [within]; omega
  refine s_ifAndU W3.src (et_neInts (K := K) (ev_var rfl) (way_ints hl)) (fun _ H4 u4 => est_cmpEq (lo := 0) (hi := 1) (es_take (s0 := 0) (a := a) (lo := 2) (hi := 2) rfl (es_int (by decide) (by decide)) (by decide) (by decide))) (fun c H4 u4 => ?_) (fun H4 u4 => ?_)
  · have W4 := W30 u4
    have B4 := Bag.up W3.src monoK_way u4 (way_bag la hl (way_ne c))
    refine ss_asg (i := 7) W4.src (es_bagOne (K := K) (s0 := 0) (i := 6) rfl rfl W4.src B4 monoK_way (by omega)) fun v H5 u5 ⟨j, ev, hj, hP⟩ => ?_
    subst ev
    have hP : 2 ≤ ways.getD j 0 := of_decide_eq_true hP
    have W5 := W4.up u5
    refine q_methNon W5.rk (ev_var rfl) (by decide +kernel) (by decide +kernel) (by decide +kernel) (by decide +kernel) (ea_1 (ev_var rfl)) fun H6 e6 Q' q' => ⟨p, sh, wl, sl, rr, _, 0, .int (j : Int), .int (j : Int), rfl, W5.rk.ex e6, gi hj, fun j' ej hj' hw H7 A7 f7 => q' H7 ?_, (fun c => by rw [wj hj] at c; cases c), fun j' ej hj' hw => ?_⟩
    · injection ej with ej
      have ej : j = j' := by omega
      subst ej
      have W7 := ((W5.two (((tb3.up W3.src u4).up W4.src u5))).ex e6).rack A7 f7
      refine q_setL (j := j) W7.ow.fS (ev_c (v := .str "raw")) (ev_var (i := 4) rfl) (ev_var (i := 7) rfl) (by rw [List.length_map]; exact hj) fun H8 e8 => ?_
      have W8 := W7.ex e8
      have W9 : TwA T a p sh wl sl rr o cl st rr2 (replR ⟨s, n, ways, cellsOf ways f⟩ j) n (s.c + s.n) (ways.set j 1) f (upd H8 st (.lst ((ways.map wayV).set j (.str "raw")))) := W8.own (.inl rfl) W8.ow.fS (W8.ow.setWay (j := j) (w := 1))
      generalize upd H8 st (.lst ((ways.map wayV).set j (.str "raw"))) = H9 at W9 ⊢
      refine s_forLn (K := K) (xs := rr2.map V.ref) (ow_cells W9.ow (ev_var rfl)) (sq_of W9.ow.fL) (fun i σ' H' => ∃ u8, σ' = [some (.ref a), some (.ref p), some (.ref o), some (.ref sh), some (.ref st), some (.ref kl), some (.ref ll), some (.int (j : Int)), u8] ∧
          TwA T a p sh wl sl rr o cl st rr2 (replR ⟨s, n, ways, cellsOf ways f⟩ j) n (s.c + s.n) (ways.set j 1) (fun r x => if r < i ∧ x = j then List.replicate s.w 0 else f r x) H')
        (fun H10 e10 => ⟨_, rfl, (W9.ex e10).fEq fun r x _ => by rw [if_neg (fun z => Nat.not_lt_zero _ z.1)]⟩) (fun i σ' H' _ ⟨_, _, V⟩ => sq_of V.ow.fL) ?_ ?_
      · rintro i x σ' H' hx ⟨u8, rfl, V⟩
        obtain ⟨b, hb, rfl⟩ := rf_at hx
        refine eh_rep0 (K := K) (v := .int 0) ev_c (sh_w V.rk.fS (ev_var (i := 3) rfl)) (by show s.w ≤ 1000; omega) H' (.refl H') _ fun z H10 nz e10 hz => ?_
        have V10 := V.ex e10
        refine s_setO (K := K) (te := tC (.ref z)) (ta := tVar 8) (tb := tVar 7) (o := some (List.replicate s.w 0)) (V10.ow.lo i b hb) ev_c ⟨z, rfl, st_of (by rw [hz, List.map_replicate]; rfl)⟩ (ev_var rfl) (ev_var rfl) (by omega) fun H11 vs e11 hlo => ⟨_, rfl, ?_⟩
        have V11 := V10.ex e11
        obtain ⟨cv, hcv, _, _⟩ := V11.ow.lo i b hb
        have hlo2 : LO K b (s.c + s.n) (fun x => some (if x = j then List.replicate s.w 0 else if i < i ∧ x = j then List.replicate s.w 0 else f i x)) (upd H11 b (.lst vs)) := by
          have e : (fun x => some (if x = j then List.replicate s.w 0 else if i < i ∧ x = j then List.replicate s.w 0 else f i x)) = fun x => if x = j then some (List.replicate s.w (0 : Int)) else some (if i < i ∧ x = j then List.replicate s.w 0 else f i x) := by funext x; split <;> rfl
          rw [e]
          exact hlo
        refine (V11.own (.inr (List.mem_of_getElem? hb)) hcv (V11.ow.setRow hb hlo2)).fEq fun r x _ => ?_
        show (if r = i then fun x => if x = j then List.replicate s.w 0 else if i < i ∧ x = j then List.replicate s.w 0 else f i x else fun x => if r < i ∧ x = j then List.replicate s.w 0 else f r x) x = if r < i + 1 ∧ x = j then List.replicate s.w 0 else f r x
        by_cases c1 : r = i
        · subst c1
          by_cases c2 : x = j <;> simp [c2]
        · by_cases c2 : x = j
          · by_cases c3 : r < i
            · simp [c1, c2, c3, show r < i + 1 by omega]
            · simp [c1, c2, c3, show ¬ r < i + 1 by omega]
          · simp [c1, c2]
      · rintro σ' H' ⟨u8, rfl, V⟩
        have rn2 := V.ow.rn
        refine R _ _ ⟨some (.int (j : Int)), u8, ways.set j 1, fun r x => if x = j then List.replicate s.w 0 else f r x, rfl, (V.fEq fun r x hr => ?_).lw rfl rfl rfl (fun i x hi => ?_) (fun r x => ?_), V.tb⟩
        · rw [List.length_map, rn2]
          by_cases c2 : x = j <;> simp [c2, hr]
        · show (if x = j then some (zeroC s) else cellsOf ways f i x) = if 2 ≤ (ways.set j 1).getD x 0 then none else some (if x = j then List.replicate s.w 0 else f i x)
          rw [getD_set hj, zeroC_rep ow.1]
          by_cases c2 : x = j
          · simp [c2]
          · simp [c2, cellsOf]
        · by_cases c2 : x = j
          · simp only [c2, if_true]
            exact ⟨by rw [List.length_replicate]; omega, fun y hy => by rw [List.eq_of_mem_replicate hy]; decide⟩
          · simp only [c2, if_false]
            exact W.fb r x
    · injection ej with ej
      exact absurd hP (by rw [show j = j' by omega]; exact hw)
  · have W4 := W30 u4
    have hk4 : H4 kl = some (.lst ((inWay (fun w => decide (w = 0)) ways).map fun (m : Nat) => V.int (m : Int))) := u4.keep kl _ ka hk3
    refine s_if (et_and (et_neInts (K := K) (ev_var rfl) (way_ints hk4)) fun _ => ev_ltI (ev_subI (ev_lenL (K := K) (ev_var rfl) (sq_of W4.ow.fS)) (ev_lenL (K := K) (ev_var rfl) (sq_of hk4))) (sh_e W4.rk.fS (ev_var rfl))) (fun c H5 e5 => ?_) (fun c H5 e5 => ?_)
    · rw [Bool.and_eq_true] at c
      have c2 := of_decide_eq_true c.2
      rw [List.length_map, List.length_map] at c2
      have u5 := Up.ex e5 W4.src
      have W5 := W4.up u5
      have B5 := Bag.up W4.src monoK_way u5 (way_bag ka hk4 (way_ne c.1))
      refine ss_asg (i := 7) W5.src (es_bagOne (K := K) (s0 := 0) (i := 5) rfl rfl W5.src B5 monoK_way (by omega)) fun v H6 u6 ⟨j, ev, hj, hP⟩ => ?_
      subst ev
      have W6 := W5.up u6
      have nO : nOth ⟨s, n, ways, cellsOf ways f⟩ j + (inWay (fun w => decide (w = 0)) ways).length = s.c + s.n := by
        have h1 := len_part (s.c + s.n) (fun i => decide (ways.getD i 0 = 0))
        have h2 := len_filter2 (s.c + s.n) (fun i => !decide (ways.getD i 0 = 0)) j (by omega) (by rw [show decide (ways.getD j 0 = 0) = true from hP]; rfl)
        unfold nOth inWay
        rw [wn]
        show ((List.range (s.c + s.n)).filter fun i => !decide (ways.getD i 0 = 0) && !decide (i = j)).length + ((List.range (s.c + s.n)).filter fun i => decide (ways.getD i 0 = 0)).length = _
        rw [h2]
        omega
      have enough : nOth ⟨s, n, ways, cellsOf ways f⟩ j + 1 ≤ s.e := by
        have c2 : ((ways.length : Int) - ((inWay (fun w => decide (w = 0)) ways).length : Int)) < (s.e : Int) := c2
        omega
      refine q_methNon W6.rk (ev_var rfl) (by decide +kernel) (by decide +kernel) (by decide +kernel) (by decide +kernel) (ea_1 (ev_var rfl)) fun H7 e7 Q' q' => ⟨p, sh, wl, sl, rr, _, 0, .int (j : Int), .int (j : Int), rfl, W6.rk.ex e7, gi hj, fun j' ej hj' hw H8 A8 f8 => q' H8 ?_, (fun c => by rw [wj hj] at c; cases c), fun j' ej hj' hw => ?_⟩
      · injection ej with ej
        have ej : j = j' := by omega
        subst ej
        have W8 := ((W6.two (((tb3.up W3.src u4).ex e5).up W5.src u6)).ex e7).rack A8 f8
        refine s_setL (j := j) W8.ow.fS (ev_c (v := .str "lost")) (ev_var (i := 4) rfl) (ev_var (i := 7) rfl) (by rw [List.length_map]; exact hj) fun H9 e9 => ?_
        have W9 := W8.ex e9
        have W10 : TwA T a p sh wl sl rr o cl st rr2 (loseR ⟨s, n, ways, cellsOf ways f⟩ j) n (s.c + s.n) (ways.set j 2) f (upd H9 st (.lst ((ways.map wayV).set j (.str "lost")))) := W9.own (.inl rfl) W9.ow.fS (W9.ow.setWay (j := j) (w := 2))
        refine R _ _ ⟨some (.int (j : Int)), none, ways.set j 2, f, rfl, W10.lw rfl rfl rfl (fun i x hi => ?_) W.fb, W10.tb⟩
        show (if x = j then none else cellsOf ways f i x) = if 2 ≤ (ways.set j 2).getD x 0 then none else some (f i x)
        rw [getD_set hj]
        by_cases c2 : x = j
        · simp [c2]
        · simp [c2, cellsOf]
      · injection ej with ej
        rw [show j' = j by omega] at hw
        exact absurd enough hw
    · exact R _ _ ⟨none, none, ways, f, rfl, W4.up (.ex e5 W4.src), (tb3.up W3.src u4).ex e5⟩
theorem ok_law_loss_right (T : Txt K mg) : FnOk P w K mg base CX0 5 T.f_law_loss_right T.fd_law_loss_right ["_law_source", "_law_rack", "_law_own", "_law_shape"] (sp_law_loss_right T) :=
  T.d_law_loss_right.F.ok sc_law_loss_right (fun vs H Q E h => len_law_loss_right T h) fun cdv A outer s H vs Q E hr h => ⟨t_law_loss_right T, by
    exact (pss_cons (ps_set (i := 4) sc_law_loss_right.nd rfl (Or.inr rfl) (pe_dget hr.units1 (pv 2) pe_str (fun _ _ => rfl))) (pss_cons (ps_setLc (i := 5) (own := [("_law_s", 7)]) (g := (gName 7)) (tt := (tTest (tOp rEq (tOp (rIxL K) (tVar 4) (tVar 7)) (tC (.str "kept"))))) (te := (tVar 7)) rfl sc_law_loss_right.nd rfl rfl (sw_true rfl rfl rfl (by decide +kernel)) (pi_range1 (by rfl) T.m_range (pa_cons (pe_callB call_len (by rfl) T.m_len (by decide +kernel) (pa_cons (pv 4) pa_nil)) pa_nil)) (blkOk_by (own := [("_law_s", 7)]) (N := n_law_loss_right) (sc := defScope s_law_loss_right) (by decide +kernel)) (fun _ _ _ _ _ => (pg_name (i := 7) sc_law_loss_right.nd rfl (Or.inl rfl))) (fun _ _ _ _ _ => pts_one (pt_cmpR op_eq (pe_ix ix_list (pv 4) (pv 7) (fun _ _ => rfl)) pe_str (nomark _))) (fun _ _ _ _ _ => (pv 7))) (pss_cons (ps_setLc (i := 6) (own := [("_law_s", 7)]) (g := (gName 7)) (tt := (tTest (tOp rEq (tOp (rIxL K) (tVar 4) (tVar 7)) (tC (.str "lost"))))) (te := (tVar 7)) rfl sc_law_loss_right.nd rfl rfl (sw_true rfl rfl rfl (by decide +kernel)) (pi_range1 (by rfl) T.m_range (pa_cons (pe_callB call_len (by rfl) T.m_len (by decide +kernel) (pa_cons (pv 4) pa_nil)) pa_nil)) (blkOk_by (own := [("_law_s", 7)]) (N := n_law_loss_right) (sc := defScope s_law_loss_right) (by decide +kernel)) (fun _ _ _ _ _ => (pg_name (i := 7) sc_law_loss_right.nd rfl (Or.inl rfl))) (fun _ _ _ _ _ => pts_one (pt_cmpR op_eq (pe_ix ix_list (pv 4) (pv 7) (fun _ _ => rfl)) pe_str (nomark _))) (fun _ _ _ _ _ => (pv 7))) (pss_cons (ps_if (PW.pt (pw_and (pt_cmpR (op_neD hr.units) (pv 6) (pe_lst pa_nil) (nomark _)) (pw_and1 (pt_cmpR op_eq (pe_call (ok_law_take T) (hr.mono (by decide)) (by rfl) T.d_law_take.g T.d_law_take.F.kp T.d_law_take.b .nil pass0 (pa_cons (pv 0) (pa_cons pe_int pa_nil))) pe_int (nomark _))))) (pss_cons (ps_set (i := 7) sc_law_loss_right.nd rfl (Or.inl rfl) (pe_call (ok_law_one T) (hr.mono (by decide)) (by rfl) T.d_law_one.g T.d_law_one.F.kp T.d_law_one.b .nil pass0 (pa_cons (pv 0) (pa_cons (pv 6) pa_nil)))) (pss_cons (ps_if (pt_cmpR op_notN (pe_meth (pv 1) T.cl_Rack T.d_Rack_replace.m (ok_Rack_replace T) (hr.mono (by decide)) T.d_Rack_replace.b .nil passL (pa_cons (pv 7) pa_nil)) pe_non (nomark _)) (pss_one (ps_ret pe_bl)) pss_nil) (pss_cons (ps_asg pe_str (pg_sub (pv 4) (pv 7) set_list)) (pss_one (ps_for PassesOwn.never rfl (pi_list (pe_dget hr.units1 (pv 2) pe_str (fun _ _ => rfl))) (pg_name (i := 8) sc_law_loss_right.nd rfl (Or.inl rfl)) (pss_one (ps_asg (pe_op op_times0 (pe_tup (pa_cons pe_int pa_nil)) (pe_ix ix_tup (pv 3) pe_int (fun _ _ => rfl))) (pg_sub (pv 8) (pv 7) set_list)))))))) (pss_one (ps_if (PW.pt (pw_and (pt_cmpR (op_neD hr.units) (pv 5) (pe_lst pa_nil) (nomark _)) (pw_and1 (pt_cmpR op_lt (pe_op op_sub (pe_callB call_len (by rfl) T.m_len (by decide +kernel) (pa_cons (pv 4) pa_nil)) (pe_callB call_len (by rfl) T.m_len (by decide +kernel) (pa_cons (pv 5) pa_nil))) (pe_ix ix_tup (pv 3) pe_int (fun _ _ => rfl)) (nomark _))))) (pss_cons (ps_set (i := 7) sc_law_loss_right.nd rfl (Or.inl rfl) (pe_call (ok_law_one T) (hr.mono (by decide)) (by rfl) T.d_law_one.g T.d_law_one.F.kp T.d_law_one.b .nil pass0 (pa_cons (pv 0) (pa_cons (pv 5) pa_nil)))) (pss_cons (ps_if (pt_cmpR op_notN (pe_meth (pv 1) T.cl_Rack T.d_Rack_lose.m (ok_Rack_lose T) (hr.mono (by decide)) T.d_Rack_lose.b .nil passL (pa_cons (pv 7) pa_nil)) pe_non (nomark _)) (pss_one (ps_ret pe_bl)) pss_nil) (pss_one (ps_asg pe_str (pg_sub (pv 4) (pv 7) set_list))))) pss_nil))) (pss_one (ps_ret pe_bl)))))), pure_law_loss_right T h⟩

end
end My


set_option maxHeartbeats 2000000
namespace Own
open PySem PySem.Spec PyProof.Rows L2
open Evl
/-! ### comprehensions over a range whose items read as data; the text of a list of data; cells as data -/
section
variable {K : PySem.W.Frag} {σ : L2.St} {H H' H1 : Hp} {te ta tb tl : TE} {D : Ends} {tu tz : TS} {k k0 : Nat} {a f p : Addr} {ds es : List PyData} {d e : PyData} {v : V}
theorem en_lcRD {ta : TA} {n : Nat} {j : Nat} {vs : List Nat} (h : EvA ta σ H [.int (n : Int)]) (hn : n ≤ 40000) (hl : es.length = n) (hw : ∀ x, wipe ((wipe σ vs).set j (some x)) vs = wipe σ vs)
    (he : ∀ (i : Nat) H', Ex H H' → i < n → EvX te ((wipe σ vs).set j (some (.int (i : Int)))) H' (fun v H2 => ∃ e, es[i]? = some e ∧ Gd K H2 k v e)) : EvN (tLc (iRng1 ta) (gName j) tYes te vs) σ H (LD K k es) :=
  fun H0 e Q q => h H0 e _ fun H1 e1 => ⟨(n : Int), rfl, by omega, by omega, fun Dl hD => by
    have w : Walk (Itr 0 (n : Int).toNat) (n : Int).toNat (fun _ => True) (YAt ((List.range n).map fun (i : Nat) => V.int (i : Int))) := walk_range.mono (fun _ h => h) fun i H x H' hi _ y => ⟨y.1, by rw [y.2, List.getElem?_map, List.getElem?_range (by simpa using hi)]; show _ = some (V.int ((0 : Int) + (i : Int))); rw [Int.zero_add]; rfl⟩
    exact lcD (es := es) (k := k) (K := K) (Qd := fun l H => Q (.ref l) H) _ w (fun _ _ => trivial) (by omega) hw (fun i x H' e' hx hi => by
      have hi : i < n := by simpa using hi
      rw [List.getElem?_map, List.getElem?_range hi] at hx
      injection hx with hx
      rw [← hx]
      exact he i H' ((e.trans e1).trans e') hi) hD (fun H' e' p => q Dl H' (fresh_back e1 hD) (e1.trans e') (by
        rw [List.take_of_length_le (by rw [hl, Int.toNat_natCast]; exact Nat.le_refl _)] at p
        exact p))⟩
theorem listText_le (ts : List Str) : (listText ts).length ≤ piled ts + 2 := by
  cases ts with
  | nil => decide +kernel
  | cons t r =>
    have h := textFrom_length_pos r 1 (("[" : Str) ++ (if (0 : Nat) > 0 then ", " else "" : String) ++ t) (Nat.succ_pos 0)
    have e : ((("[" : Str) ++ (if (0 : Nat) > 0 then ", " else "" : String) ++ t)).length = 1 + t.length := by
      rw [strLen_append, strLen_append]; rfl
    have hX : (listText (t :: r)).length = (textFrom 0 "[" (t :: r)).length + 1 := by
      show (textFrom 0 "[" (t :: r) ++ "]").length = _
      rw [strLen_append]; rfl
    have hY : (textFrom 0 "[" (t :: r)).length = (textFrom 1 (("[" : Str) ++ (if (0 : Nat) > 0 then ", " else "" : String) ++ t) r).length := rfl
    rw [hX, hY, h, e, piled_cons]; omega
/-- repr of a list of data -/
theorem show_ld {Q : VK} {xs : List V} (hx : SqL K H p xs) (g : GdAll K H k xs ds) (hk : k ≤ 3) (hn : ds.length ≤ 30) (q : Q (.str (PyData.list ds).shown) H) : rShow K [.ref p] H Q := by
  have n3 := showsAll _ _ g.dp.2
  have t3 := texts_le _ k g.dp.2
  have t4 := listText_le (PyData.shownAll ds)
  refine ⟨.ref p, .list ds, rfl, .lst hx g.dp.1, ⟨?_, ?_, ?_, ?_⟩, q⟩
  · simpa only [PyData.showable] using n3.1
  · simpa only [PyData.hasDict] using n3.2.1
  · have := n3.2.2
    simp only [PyData.depth]
    omega
  · show (PyData.list ds).shown.length ≤ sizeLine
    have e : (PyData.list ds).shown = listText (PyData.shownAll ds) := by simp only [PyData.shown]
    rw [e]
    have m0 : mostText 0 = 50 := rfl
    have m1 : mostText 1 = 1042 := rfl
    have m2 : mostText 2 = 20882 := rfl
    have m3 : mostText 3 = 417682 := rfl
    have sl : sizeLine = 16777216 := rfl
    have mk : mostText k ≤ 417682 := by
      match k, hk with
      | 0, _ => omega
      | 1, _ => omega
      | 2, _ => omega
      | 3, _ => omega
    have : ds.length * (mostText k + 2) ≤ 30 * (417682 + 2) := Nat.mul_le_mul hn (by omega)
    omega
theorem ev_showLD (h : EvN te σ H (LD K k ds)) (hk : k ≤ 3) (hn : ds.length ≤ 30) : Ev (tCB (rShow K) (tCons te tNil)) σ H (.str (PyData.list ds).shown) := fun H1 u Q q =>
  h H1 u _ fun l H2 nl u2 ⟨xs, hx, g⟩ => show_ld (sq_of hx) g hk hn (q H2 u2)
theorem ev_showLV (h : Ev te σ H (.ref p)) (hp : LD K k ds p H) (hk : k ≤ 3) (hn : ds.length ≤ 30) : Ev (tCB (rShow K) (tCons te tNil)) σ H (.str (PyData.list ds).shown) := fun H1 u Q q =>
  h H1 u _ fun H2 u2 => by
    obtain ⟨xs, hx, g⟩ := hp.ex (u.trans u2)
    exact show_ld (sq_of hx) g hk hn (q H2 u2)
theorem ex_tupND (h : EvN te σ H (LD K k ds)) (hl : ds.length ≤ 20) : EvX (tCB (rTupOf K) (tCons te tNil)) σ H (PG K (k + 1) (.tuple ds)) := fun H1 u Q q =>
  h H1 u _ fun l H2 nl u2 ⟨xs, hx, g⟩ => ⟨l, xs, rfl, .inl ⟨sq_of hx, fun t nt => q _ _ (u2.trans (Ex.new nt)) (gd_tup (st_of upd_same) (g.kp (.new nt)) (by rw [gdAll_len g]; exact hl))⟩⟩
theorem et_neSamD {k j : Nat} (h1 : EvX ta σ H (PG K k d)) (h2 : EvX tb σ H (PG K j d)) (hk : k ≤ 60) (hj : j ≤ 60) : EvT (tTest (tOp (rNeD K) ta tb)) σ H false := fun H1 e1 Q q => by
  refine h1 H1 e1 _ fun v H2 e2 g1 => h2 H2 (e1.trans e2) _ fun w H3 e3 g2 => neG (Gd.ex e3 g1) g2 hk hj ?_
  rw [SeqAt.eqv_refl d (fine_lay d j g2.fn)]
  exact ⟨false, rfl, q H3 (e2.trans e3)⟩
def cellD : Option Ro → PyData
  | none => .none
  | some r => intsD r
theorem gd_cell {o : Option Ro} (h : CellV K H v o) (hb : ∀ r, o = some r → r.length ≤ 20 ∧ ∀ x ∈ r, x.natAbs < 2 ^ 64) : Gd K H 1 v (cellD o) := by
  cases o with
  | none => rw [show v = .non from h]; exact gd_non.up (by decide)
  | some r => obtain ⟨b, rfl, hs⟩ := h; exact gd_ints hs (hb r rfl).1 (hb r rfl).2
theorem gdAll_cells : ∀ (N : Nat) (vs : List V) (f : Nat → Option Ro), vs.length = N → (∀ i v, vs[i]? = some v → Gd K H 1 v (cellD (f i))) → GdAll K H 1 vs ((List.range N).map fun i => cellD (f i))
  | 0, vs, f, hl, _ => by rw [List.eq_nil_of_length_eq_zero hl]; exact .nil
  | N + 1, [], f, hl, _ => by cases hl
  | N + 1, v :: vs, f, hl, h => by
    rw [List.range_succ_eq_map, List.map_cons, List.map_map]
    exact .cons (h 0 v rfl) (gdAll_cells N vs (fun i => f (i + 1)) (by simpa using hl) fun i w hw => h (i + 1) w (by simpa using hw))
theorem gd_cells {l : Addr} {N : Nat} {f : Nat → Option Ro} (h : TupO K l N f H) (hN : N ≤ 20) (hb : ∀ i, i < N → ∀ r, f i = some r → r.length ≤ 20 ∧ ∀ x ∈ r, x.natAbs < 2 ^ 64) : Gd K H 2 (.ref l) (.tuple ((List.range N).map fun i => cellD (f i))) := by
  obtain ⟨vs, h1, h2, h3⟩ := h
  exact gd_tup h1 (gdAll_cells N vs f h2 fun i v hv => gd_cell (h3 i v hv) (hb i (by have := (List.getElem?_eq_some_iff.mp hv).1; omega))) (by omega)
end
end Own


set_option maxHeartbeats 1000000
namespace My
open PySem PySem.Spec PyProof.Rows L2 Own LamX
open Evl (Ex RetV)
section
variable {P : Program} {w : World} {K : PySem.W.Frag} {mg : Str → Option Value} {base : Heap}

open Evl
/-! ### the rack and the law's own say the same -/
theorem mx_meth {σ : L2.St} {H : Hp} {ta : TE} {T : Txt K mg} {p sh wl sl : Addr} {rr : List Addr} {R : Rk} {m : Str} {sp : Sp} {E : XK} {tt : TA} {vs : List V} {P : VP} (A : RkA T p sh wl sl rr R H) (h : Ev ta σ H (.ref p)) (n1 : ¬ m = "stripes") (n2 : ¬ m = "ways") (n3 : ¬ m = "rows") (n4 : ¬ m = "shape") (ha : EvA tt σ H vs)
    (k : ∀ H1, Ex H H1 → ∀ Q : VK, (∀ v H2, Ex H1 H2 → P v H2 → Q v H2) → sp (.ref p :: vs) H1 Q E) : EvX (tMeth T.c_Rack m sp [] E ta tt) σ H P := fun H0 u Q q =>
  h H0 u _ fun H1 e1 => by
    obtain ⟨dx, h1⟩ := A.ob
    refine ⟨p, dx, _, rfl, (u.trans e1) _ _ h1, rkF_no n1 n2 n3 n4, ha H1 (u.trans e1) _ fun H2 e2 => ?_⟩
    rw [List.append_nil]
    exact k H2 ((u.trans e1).trans e2) _ fun v H3 e3 pv => q v H3 ((e1.trans e2).trans e3) pv
def wayD (w : Nat) : PyData := .str (wayT w)
theorem gd_way {H : Hp} (w : Nat) : Gd K H 0 (wayV w) (wayD w) := gd_str (by
  match w with
  | 0 => decide +kernel
  | 1 => decide +kernel
  | w + 2 => show fine 0 (.str "lost") = true; decide +kernel)
theorem gdAll_ways {H : Hp} : ∀ ways : List Nat, GdAll K H 0 (ways.map wayV) (ways.map wayD)
  | [] => .nil
  | w :: ws => .cons (gd_way w) (gdAll_ways ws)
theorem cell_bd {ways : List Nat} {f : Nat → Nat → Ro} (fb : FBd f) {i j : Nat} : ∀ r, cellsOf ways f i j = some r → r.length ≤ 20 ∧ ∀ x ∈ r, x.natAbs < 2 ^ 64 := fun r h => by
  unfold cellsOf at h
  split at h
  · cases h
  · injection h with h
    rw [← h]
    exact fb i j
def sp_law_is_alike (T : Txt K mg) : Sp := fun vs H Q _ => ∃ p sh wl sl rr o cl st rr2 s n ways f, vs = [.ref p, .ref o] ∧ RkA T p sh wl sl rr ⟨s, n, ways, cellsOf ways f⟩ H ∧ OwA K o cl st rr2 n (s.c + s.n) ways f H ∧ FBd f ∧ RetV (.bl true) H Q
theorem len_law_is_alike (T : Txt K mg) {vs H Q E} (h : sp_law_is_alike T vs H Q E) : vs.length = 2 := by obtain ⟨_, _, _, _, _, _, _, _, _, _, _, _, _, rfl, _⟩ := h; rfl
def t_law_is_alike (T : Txt K mg) : TS := (tSeq (tAsg (tDGet (tVar 1) (tC (.str "states"))) (gName 2)) (tSeq (tIfS (tTest (tOp (rNeD K) (tMeth T.c_Rack "states" (sp_Rack_states T) [] E0 (tVar 0) tNil) (tCB (rTupOf K) (tCons (tVar 2) tNil)))) (tRet (tC (.bl false))) tNext) (tSeq (tFor (iRng1 (tCons (tCB (rLenV K) (tCons (tDGet (tVar 1) (tC (.str "cells"))) tNil)) tNil)) (gName 3) (tSeq (tAsg (tOp (rIxL K) (tDGet (tVar 1) (tC (.str "cells"))) (tVar 3)) (gName 4)) (tSeq (tAsg (tLc (iRng1 (tCons (tCB (rLenV K) (tCons (tVar 4) tNil)) tNil)) (gName 6) tYes (tMeth T.c_Rack "cell" (sp_Rack_cell T) [] E0 (tVar 0) (tCons (tVar 3) (tCons (tVar 6) tNil))) [6]) (gName 5)) (tSeq (tIfS (tTest (tOp rNe (tCB (rShow K) (tCons (tVar 5) tNil)) (tCB (rShow K) (tCons (tLc (iRng1 (tCons (tCB (rLenV K) (tCons (tVar 4) tNil)) tNil)) (gName 6) tYes (tIf (tTest (tOp rEq (tOp (rIxL K) (tVar 2) (tVar 6)) (tC (.str "lost")))) (tC .non) (tOp (rIxL K) (tVar 4) (tVar 6))) [6]) tNil)))) (tRet (tC (.bl false))) tNext) (tIfS (tTest (tOp rNe (tCB (rShow K) (tCons (tMeth T.c_Rack "left" (sp_Rack_left T) [] E0 (tVar 0) (tCons (tVar 3) tNil)) tNil)) (tCB (rShow K) (tCons (tCB (rTupOf K) (tCons (tLc (iRng1 (tCons (tCB (rLenV K) (tCons (tVar 4) tNil)) tNil)) (gName 6) tYes (tIf (tTest (tOp rEq (tOp (rIxL K) (tVar 2) (tVar 6)) (tC (.str "kept")))) (tOp (rIxL K) (tVar 4) (tVar 6)) (tC .non)) [6]) tNil)) tNil)))) (tRet (tC (.bl false))) tNext))))) (tRet (tC (.bl true))))))

theorem pure_law_is_alike (T : Txt K mg) {vs H Q} {E : XK} (h : sp_law_is_alike T vs H Q E) : t_law_is_alike T { nx := fun _ H' => Q .non H', rt := Q } (L2.start n_law_is_alike vs) H := by
  obtain ⟨p, sh, wl, sl, rr, o, cl, st, rr2, s, n, ways, f, rfl, A, W, fb, q⟩ := h
  have ok : s.Ok := A.ok
  have on := ok.n; have oc : s.c ≤ 8 := ok.c
  have r1 : 1 ≤ n ∧ n ≤ 16 := A.r1
  have wn : ways.length = s.c + s.n := W.wn
  have rn2 := W.rn
  refine q_asg (i := 2) (ow_states W (ev_var rfl)) fun H1 e1 => ?_
  have A1 := A.ex e1
  have W1 := W.ex e1
  have m1 : EvX (tMeth T.c_Rack "states" (sp_Rack_states T) [] E0 (tVar 0) tNil) [some (.ref p), some (.ref o), some (.ref st), none, none, none, none] H1 (PG K 1 (.tuple (ways.map wayD))) :=
    mx_meth A1 (ev_var rfl) (by decide +kernel) (by decide +kernel) (by decide +kernel) (by decide +kernel) ea_nil fun H2 e2 Q q => ⟨p, sh, wl, sl, rr, _, rfl, A1.ex e2, fun b H3 e3 hb => q _ H3 e3 (gd_tup hb (gdAll_ways ways) (by rw [List.length_map]; show ways.length ≤ 20; omega))⟩
  have m2 : EvX (tCB (rTupOf K) (tCons (tVar 2) tNil)) [some (.ref p), some (.ref o), some (.ref st), none, none, none, none] H1 (PG K 1 (.tuple (ways.map wayD))) :=
    ex_imp (ex_tupV (K := K) (ev_var rfl) W1.fS) fun v H2 ⟨b, ev, hb⟩ => by subst ev; exact gd_tup hb (gdAll_ways ways) (by rw [List.length_map]; omega)
  refine q_when (et_neSamD (K := K) m1 m2 (by decide) (by decide)) (fun c => by cases c) fun _ H2 e2 => ?_
  have A2 := A1.ex e2
  have W2 := W1.ex e2
  have lenC : Ev (tCB (rLenV K) (tCons (tDGet (tVar 1) (tC (.str "cells"))) tNil)) [some (.ref p), some (.ref o), some (.ref st), none, none, none, none] H2 (.int (n : Int)) := by
    have := ev_lenL (K := K) (σ := [some (.ref p), some (.ref o), some (.ref st), none, none, none, none]) (ta := tDGet (tVar 1) (tC (.str "cells"))) (ow_cells W2 (ev_var rfl)) (sq_of W2.fL)
    rw [List.length_map, rn2] at this
    exact this
  refine q_forR1 (j := 3) (ea_1 lenC) (by omega) (fun i σ' H' => ∃ u3 u4 u5, σ' = [some (.ref p), some (.ref o), some (.ref st), u3, u4, u5, none] ∧ Ex H2 H') (fun H3 e3 => ⟨_, _, _, rfl, e3⟩) ?_ ?_
  · rintro i σ' H3 hi ⟨u3, u4, u5, rfl, e3⟩
    have hi : i < n := by omega
    have W3 := W2.ex e3
    have hir : i < rr2.length := by rw [rn2]; exact hi
    have hb := List.getElem?_eq_getElem hir
    generalize rr2[i] = b at hb
    refine q_asg (i := 4) (ev_ixL (ow_cells W3 (ev_var rfl)) (ev_var (i := 3) rfl) (sq_of W3.fL) (atI_nat (refs_at hb))) fun H4 e4 => ?_
    have e24 := e3.trans e4
    have A4 := A2.ex e24
    have W4 := W2.ex e24
    obtain ⟨cv, hcv, hcl, hcc⟩ := W4.lo i b hb
    have lenR : ∀ {u5 : Option V} {H5 : Hp}, Ex H4 H5 → Ev (tCB (rLenV K) (tCons (tVar 4) tNil)) [some (.ref p), some (.ref o), some (.ref st), some (.int (i : Int)), some (.ref b), u5, none] H5 (.int ((s.c + s.n : Nat) : Int)) := fun {u5 H5} e5 => by
      have := ev_lenL (K := K) (σ := [some (.ref p), some (.ref o), some (.ref st), some (.int (i : Int)), some (.ref b), u5, none]) (ta := tVar 4) (ev_var rfl) (sq_of (e5 _ _ hcv))
      rwa [hcl] at this
    have gi : ∀ {H' : Hp} {k : Nat}, k ≤ 16 → Gd K H' 0 (.int (k : Int)) (.int (k : Int)) := fun h => gd_int (by rw [Int.natAbs_natCast]; omega)
    have at_ : ∀ {g : Nat → Option Ro} {j : Nat}, j < s.c + s.n → ((List.range (s.c + s.n)).map fun j => cellD (g j))[j]? = some (cellD (g j)) := fun hj => by rw [List.getElem?_map, List.getElem?_range hj]; rfl
    -- told
    refine q_asgN (i := 5) (en_lcRD (K := K) (k := 1) (es := (List.range (s.c + s.n)).map fun j => cellD (cellsOf ways f i j)) (n := s.c + s.n) (ea_1 (lenR (.refl H4))) (by omega) (by rw [List.length_map, List.length_range]) (fun x => rfl) (fun j H5 e5 hj =>
      mx_meth (A4.ex e5) (ev_var rfl) (by decide +kernel) (by decide +kernel) (by decide +kernel) (by decide +kernel) (ea_2 (ev_var (i := 3) rfl) (ev_var (i := 6) rfl)) fun H6 e6 Q q => ⟨p, sh, wl, sl, rr, _, 0, 0, _, _, _, _, rfl, A4.ex (e5.trans e6), gi (k := i) (by omega), gi (k := j) (by omega), fun i' j' ei ej hi' hj' v H7 e7 cv7 => ?_, fun c => ?_, fun _ c => ?_⟩)) fun tl H5 nl e5 ld5 => ?_
    · injection ei with ei
      injection ej with ej
      have ei : i = i' := by omega
      have ej : j = j' := by omega
      subst ei ej
      exact q v H7 e7 ⟨_, at_ hj, gd_cell cv7 (cell_bd fb)⟩
    · have : within (.int (i : Int)) 0 ((n : Int) - 1) = true := by simp [within]; omega
      rw [this] at c; cases c
    · have : within (.int (j : Int)) 0 ((s.c + s.n : Int) - 1) = true := by simp [within]; omega
      rw [this] at c; cases c
    have hcv5 := e5 _ _ hcv
    have W5 := W4.ex e5
    have A5 := A4.ex e5
    -- what stands in the own row
    have own : ∀ {u5 : Option V} {H6 : Hp} {j : Nat}, Ex H5 H6 → j < s.c + s.n → Ev (tOp (rIxL K) (tVar 4) (tVar 6)) [some (.ref p), some (.ref o), some (.ref st), some (.int (i : Int)), some (.ref b), u5, some (.int (j : Int))] H6 (cv.getD j .non) := fun {u5 H6 j} e6 hj =>
      ev_ixL (ev_var rfl) (ev_var rfl) (sq_of (e6 _ _ hcv5)) (atI_nat (by rw [getD_lt (by omega), List.getElem?_eq_getElem (by omega)]))
    have wayE : ∀ {u5 : Option V} {H6 : Hp} {j : Nat}, Ex H5 H6 → j < s.c + s.n → Ev (tOp (rIxL K) (tVar 2) (tVar 6)) [some (.ref p), some (.ref o), some (.ref st), some (.int (i : Int)), some (.ref b), u5, some (.int (j : Int))] H6 (wayV (ways.getD j 0)) := fun {u5 H6 j} e6 hj =>
      ev_ixL (ev_var rfl) (ev_var rfl) (sq_of (e6 _ _ W5.fS)) (atI_nat (by rw [List.getElem?_map, List.getElem?_eq_getElem (by omega), getD_lt (by omega)]; rfl))
    have cellO : ∀ {H6 : Hp} {j : Nat}, Ex H5 H6 → j < s.c + s.n → CellV K H6 (cv.getD j .non) (some (f i j)) := fun {H6 j} e6 hj => by
      have := hcc j (cv.getD j .non) (by rw [getD_lt (by omega), List.getElem?_eq_getElem (by omega)])
      exact this.kp (.ex (e5.trans e6))
    refine q_when (et_neSame (ev_showLV (K := K) (ev_var (i := 5) rfl) ld5 (by decide) (by rw [List.length_map, List.length_range]; omega)) (ev_showLD (K := K) (en_lcRD (K := K) (k := 1) (n := s.c + s.n) (ea_1 (lenR e5)) (by omega) (by rw [List.length_map, List.length_range]) (fun x => rfl) fun j H6 e6 hj => ?_) (by decide) (by rw [List.length_map, List.length_range]; omega))) (fun c => by cases c) fun _ H6 e6 => ?_
    · have tst := et_test (ev_op (z := .bl (decide (wayV (ways.getD j 0) = V.str "lost"))) (wayE (u5 := some (.ref tl)) e6 hj) (ev_c (v := .str "lost")) (rv_eq rfl))
      rw [way_lost] at tst
      have ev : Ev (tIf (tTest (tOp rEq (tOp (rIxL K) (tVar 2) (tVar 6)) (tC (.str "lost")))) (tC .non) (tOp (rIxL K) (tVar 4) (tVar 6))) [some (.ref p), some (.ref o), some (.ref st), some (.int (i : Int)), some (.ref b), some (.ref tl), some (.int (j : Int))] H6 (if 2 ≤ ways.getD j 0 then .non else cv.getD j .non) := by
        refine ev_if tst (fun h => ?_) (fun h => ?_)
        · rw [if_pos (of_decide_eq_true h)]; exact ev_c
        · rw [if_neg (of_decide_eq_false h)]; exact own e6 hj
      refine fun H7 e7 Q q => ev H7 e7 Q fun H8 e8 => q _ H8 e8 ⟨_, at_ (g := cellsOf ways f i) hj, gd_cell ?_ (cell_bd fb)⟩
      unfold cellsOf
      by_cases z : 2 ≤ ways.getD j 0
      · rw [if_pos z, if_pos z]; exact rfl
      · rw [if_neg z, if_neg z]; exact cellO ((e6.trans e7).trans e8) hj
    have A6 := A5.ex e6
    have lb : ∀ j, ∀ r, leftC ⟨s, n, ways, cellsOf ways f⟩ i j = some r → r.length ≤ 20 ∧ ∀ x ∈ r, x.natAbs < 2 ^ 64 := fun j r h => by
      have h : (if ways.getD j 0 = 0 then cellsOf ways f i j else none) = some r := h
      split at h
      · exact cell_bd fb r h
      · cases h
    refine s_when (et_neSame (s := (PyData.tuple ((List.range (s.c + s.n)).map fun j => cellD (leftC ⟨s, n, ways, cellsOf ways f⟩ i j))).shown) (ev_showX (K := K) (k := 2) (P := PG K 2 (PyData.tuple ((List.range (s.c + s.n)).map fun j => cellD (leftC ⟨s, n, ways, cellsOf ways f⟩ i j)))) (mx_meth A6 (ev_var rfl) (by decide +kernel) (by decide +kernel) (by decide +kernel) (by decide +kernel) (ea_1 (ev_var (i := 3) rfl)) fun H7 e7 Q q => ⟨p, sh, wl, sl, rr, _, 0, _, _, rfl, A6.ex e7, gi (k := i) (by omega), fun i' ei hi' b' H8 e8 tO => ?_, fun c => ?_⟩) (fun v H' _ p => p) (by decide))
      (ev_showX (K := K) (k := 2) (ex_tupND (K := K) (k := 1) (en_lcRD (K := K) (k := 1) (n := s.c + s.n) (ea_1 (lenR (e5.trans e6))) (by omega) (by rw [List.length_map, List.length_range]) (fun x => rfl) fun j H7 e7 hj => ?_) (by rw [List.length_map, List.length_range]; omega)) (fun v H' _ p => p) (by decide))) (fun c => by cases c) fun _ H7 e7 => ⟨_, _, _, rfl, ((e24.trans e5).trans e6).trans e7⟩
    · injection ei with ei
      have ei : i = i' := by omega
      subst ei
      exact q _ H8 e8 (gd_cells tO (by show s.c + s.n ≤ 20; omega) fun j _ => lb j)
    · have : within (.int (i : Int)) 0 ((n : Int) - 1) = true := by simp [within]; omega
      rw [this] at c; cases c
    · have e57 := e6.trans e7
      have tst := et_test (ev_op (z := .bl (decide (wayV (ways.getD j 0) = V.str "kept"))) (wayE (u5 := some (.ref tl)) e57 hj) (ev_c (v := .str "kept")) (rv_eq rfl))
      rw [way_kept] at tst
      have ev : Ev (tIf (tTest (tOp rEq (tOp (rIxL K) (tVar 2) (tVar 6)) (tC (.str "kept")))) (tOp (rIxL K) (tVar 4) (tVar 6)) (tC .non)) [some (.ref p), some (.ref o), some (.ref st), some (.int (i : Int)), some (.ref b), some (.ref tl), some (.int (j : Int))] H7 (if ways.getD j 0 = 0 then cv.getD j .non else .non) := by
        refine ev_if tst (fun h => ?_) (fun h => ?_)
        · rw [if_pos (of_decide_eq_true h)]; exact own e57 hj
        · rw [if_neg (of_decide_eq_false h)]; exact ev_c
      refine fun H8 e8 Q q => ev H8 e8 Q fun H9 e9 => q _ H9 e9 ⟨_, at_ (g := leftC ⟨s, n, ways, cellsOf ways f⟩ i) hj, gd_cell ?_ (lb j)⟩
      show CellV K H9 _ (if ways.getD j 0 = 0 then cellsOf ways f i j else none)
      by_cases z : ways.getD j 0 = 0
      · rw [if_pos z, if_pos z]
        unfold cellsOf
        rw [if_neg (by omega)]
        exact cellO ((e57.trans e8).trans e9) hj
      · rw [if_neg z, if_neg z]; exact rfl
  · rintro σ' H3 ⟨u3, u4, u5, rfl, e3⟩
    exact s_ret (ev_c (v := .bl true)) fun H4 e4 => q H4 (((e1.trans e2).trans e3).trans e4)
theorem ok_law_is_alike (T : Txt K mg) : FnG P w K mg base CX0 5 T.f_law_is_alike T.fd_law_is_alike ["_law_rack", "_law_own"] (sp_law_is_alike T) :=
  fnG_ok T.d_law_is_alike.F sc_law_is_alike (fun vs H Q E h => len_law_is_alike T h) fun cdv A outer s H vs Q E hg hr h => ⟨t_law_is_alike T, by
    exact (pss_cons (ps_set (i := 2) sc_law_is_alike.nd rfl (Or.inr rfl) (pe_dget hr.units1 (pv 1) pe_str (fun _ _ => rfl))) (pss_cons (ps_if (pt_cmpR (op_neD hr.units) (pe_meth0 (pv 0) T.cl_Rack T.d_Rack_states.m (ok_Rack_states T) (hr.mono (by decide)) T.d_Rack_states.b .nil pass0) (pe_callTy call_tuple_of (by rfl) T.m_tuple (by decide +kernel) (pa_cons (pv 2) pa_nil)) (nomark _)) (pss_one (ps_ret pe_bl)) pss_nil) (pss_cons (ps_for PassesOwn.never rfl (pi_range1 (by rfl) T.m_range (pa_cons (pe_callB call_len (by rfl) T.m_len (by decide +kernel) (pa_cons (pe_dget hr.units1 (pv 1) pe_str (fun _ _ => rfl)) pa_nil)) pa_nil)) (pg_name (i := 3) sc_law_is_alike.nd rfl (Or.inr rfl)) (pss_cons (ps_set (i := 4) sc_law_is_alike.nd rfl (Or.inr rfl) (pe_ix ix_list (pe_dget hr.units1 (pv 1) pe_str (fun _ _ => rfl)) (pv 3) (fun _ _ => rfl))) (pss_cons (ps_setLc (i := 5) (own := [("_law_s", 6)]) (g := (gName 6)) (tt := tYes) (te := (tMeth T.c_Rack "cell" (sp_Rack_cell T) [] E0 (tVar 0) (tCons (tVar 3) (tCons (tVar 6) tNil)))) rfl sc_law_is_alike.nd rfl rfl (sw_true rfl rfl rfl (by decide +kernel)) (pi_range1 (by rfl) T.m_range (pa_cons (pe_callB call_len (by rfl) T.m_len (by decide +kernel) (pa_cons (pv 4) pa_nil)) pa_nil)) (blkOk_by (own := [("_law_s", 6)]) (N := n_law_is_alike) (sc := defScope s_law_is_alike) (by decide +kernel)) (fun _ _ _ _ _ => (pg_name (i := 6) sc_law_is_alike.nd rfl (Or.inl rfl))) (fun _ _ _ _ _ => pts_nil) (fun _ _ _ _ _ => (pe_meth (pv 0) T.cl_Rack T.d_Rack_cell.m (ok_Rack_cell T) (hr.mono (by decide)) T.d_Rack_cell.b .nil passL (pa_cons (pv 3) (pa_cons (pv 6) pa_nil))))) (pss_cons (ps_if (pt_cmpR op_ne (pe_callB (call_show hg hr.units) (by rfl) T.m_repr (by decide +kernel) (pa_cons (pv 5) pa_nil)) (pe_callB (call_show hg hr.units) (by rfl) T.m_repr (by decide +kernel) (pa_cons (pe_lc (own := [("_law_s", 6)]) (g := (gName 6)) (tt := tYes) (te := (tIf (tTest (tOp rEq (tOp (rIxL K) (tVar 2) (tVar 6)) (tC (.str "lost")))) (tC .non) (tOp (rIxL K) (tVar 4) (tVar 6)))) rfl sc_law_is_alike.nd (pi_range1 (by rfl) T.m_range (pa_cons (pe_callB call_len (by rfl) T.m_len (by decide +kernel) (pa_cons (pv 4) pa_nil)) pa_nil)) (blkOk_by (own := [("_law_s", 6)]) (N := n_law_is_alike) (sc := defScope s_law_is_alike) (by decide +kernel)) (fun _ _ _ _ _ => (pg_name (i := 6) sc_law_is_alike.nd rfl (Or.inl rfl))) (fun _ _ _ _ _ => pts_nil) (fun _ _ _ _ _ => (pe_ifExp (pt_cmpR op_eq (pe_ix ix_list (pv 2) (pv 6) (fun _ _ => rfl)) pe_str (nomark _)) pe_non (pe_ix ix_list (pv 4) (pv 6) (fun _ _ => rfl))))) pa_nil)) (nomark _)) (pss_one (ps_ret pe_bl)) pss_nil) (pss_one (ps_if (pt_cmpR op_ne (pe_callB (call_show hg hr.units) (by rfl) T.m_repr (by decide +kernel) (pa_cons (pe_meth (pv 0) T.cl_Rack T.d_Rack_left.m (ok_Rack_left T) (hr.mono (by decide)) T.d_Rack_left.b .nil passL (pa_cons (pv 3) pa_nil)) pa_nil)) (pe_callB (call_show hg hr.units) (by rfl) T.m_repr (by decide +kernel) (pa_cons (pe_callTy call_tuple_of (by rfl) T.m_tuple (by decide +kernel) (pa_cons (pe_lc (own := [("_law_s", 6)]) (g := (gName 6)) (tt := tYes) (te := (tIf (tTest (tOp rEq (tOp (rIxL K) (tVar 2) (tVar 6)) (tC (.str "kept")))) (tOp (rIxL K) (tVar 4) (tVar 6)) (tC .non))) rfl sc_law_is_alike.nd (pi_range1 (by rfl) T.m_range (pa_cons (pe_callB call_len (by rfl) T.m_len (by decide +kernel) (pa_cons (pv 4) pa_nil)) pa_nil)) (blkOk_by (own := [("_law_s", 6)]) (N := n_law_is_alike) (sc := defScope s_law_is_alike) (by decide +kernel)) (fun _ _ _ _ _ => (pg_name (i := 6) sc_law_is_alike.nd rfl (Or.inl rfl))) (fun _ _ _ _ _ => pts_nil) (fun _ _ _ _ _ => (pe_ifExp (pt_cmpR op_eq (pe_ix ix_list (pv 2) (pv 6) (fun _ _ => rfl)) pe_str (nomark _)) (pe_ix ix_list (pv 4) (pv 6) (fun _ _ => rfl)) pe_non))) pa_nil)) pa_nil)) (nomark _)) (pss_one (ps_ret pe_bl)) pss_nil)))))) (pss_one (ps_ret pe_bl))))), pure_law_is_alike T h⟩

end
end My


set_option maxHeartbeats 2000000
namespace Own
open PySem PySem.Spec PyProof.Rows L2 LamX
open Evl
/-! ### heaps whose tables of code objects may grow (for any law) -/
/-- all but the source's list and the tables stays -/
structure UpT (a : Addr) (H H' : Hp) : Prop where
  keep : ∀ b o, b ≠ a → H b = some o → (∀ ps, o ≠ .tbl ps) → H' b = some o
  src : Src H' a
section
variable {a : Addr} {H H1 H2 : Hp}
theorem UpT.of (u : Up a H H1) : UpT a H H1 := ⟨fun b o nb h _ => u.keep b o nb h, u.src⟩
theorem UpT.trans (u : UpT a H H1) (v : UpT a H1 H2) : UpT a H H2 := ⟨fun b o nb h n => v.keep b o nb (u.keep b o nb h n) n, v.src⟩
theorem src_extN (s : Src H a) (e : ExtN H H1) : Src H1 a := let ⟨x, y, h, r⟩ := s; ⟨x, y, e _ _ h (fun _ z => by cases z), r⟩
theorem UpT.extN (s : Src H a) (e : ExtN H H1) : UpT a H H1 := ⟨fun b o _ h n => e b o h n, src_extN s e⟩
theorem UpT.ex (s : Src H a) (e : Ex H H1) : UpT a H H1 := UpT.of (.ex e s)
theorem UpT.kp (u : UpT a H H1) (s : Src H a) : Kp H H1 := fun b o h n => u.keep b o (s.at h n.l) h n.t
theorem UpT.lst (u : UpT a H H1) {l : Addr} {xs : List V} (nl : l ≠ a) (h : H l = some (.lst xs)) : H1 l = some (.lst xs) := u.keep l _ nl h fun _ z => by cases z
theorem kp_extN (e : ExtN H H1) : Kp H H1 := fun b o h n => e b o h n.t
theorem tabs_up {T : List (Addr × Str)} (t : Tabs T H) (u : Up a H H1) (s : Src H a) : Tabs T H1 := fun p hp => by
  obtain ⟨ps, h1, h2, h3⟩ := t p hp
  refine ⟨ps, u.keep _ _ (s.at h1 fun _ z => by cases z) h1, h2, fun pos cv hc => ?_⟩
  obtain ⟨c, e1, e2⟩ := h3 pos cv hc
  exact ⟨c, e1, u.keep _ _ (s.at e2 fun _ z => by unfold CodeO at z; cases z) e2⟩
theorem codeO_fx {c : Addr} {q : Str} : Fx (CodeO c q) := ⟨(fun xs z => by unfold CodeO at z; cases z), (fun ps z => by unfold CodeO at z; cases z)⟩
theorem ext_fx {φ : Heap → Prop} : Fx (.ext φ) := ⟨(fun xs z => by cases z), (fun ps z => by cases z)⟩
theorem takes_len {X : Cx} {W : WX} (tk : Takes X W) : Takes X (fun cls d σ H => σ.length = X.N.length → W cls d σ H) :=
  fun u s' ⟨a, B, sI, pins, σ, H, cls, d, e, I, nb, up, sky, na, os, ag, w⟩ => tk u s' ⟨a, B, sI, pins, σ, H, cls, d, e, I, nb, up, sky, na, os, ag, w I.len⟩
theorem two_st {σ : L2.St} (h : σ.length = 2) : ∃ x y, σ = [x, y] := by
  match σ, h with
  | [x, y], _ => exact ⟨x, y, rfl⟩
end
end Own


set_option maxHeartbeats 1000000
namespace My
open PySem PySem.Spec PyProof.Rows L2 Own LamX
open Evl (Ex RetV)
section
variable {P : Program} {w : World} {K : PySem.W.Frag} {mg : Str → Option Value} {base : Heap}

open Evl
/-! ### what a call's refusal is heard as -/
def hC (T : Txt K mg) : Nat → Addr
  | 0 => T.c_BadNumber
  | 1 => T.c_BadShelf
  | _ => T.c_BadCell
/-- what the wish is of an error that leaves the lambda -/
def EHeard (T : Txt K mg) (Q : VK) : XK := fun cls dd H' => ∃ (c : Nat) (d0 : Addr) (x : V), c < 3 ∧ cls = .ref (hC T c) ∧ dd = some d0 ∧ Wh H' d0 x ∧
  ∀ l t H'', H' l = none → H' t = none → Ex H' H'' → H'' l = some (.lst [.bl (decide (c = 0)), .bl (decide (c = 1)), .bl (decide (c = 2))]) → H'' t = some (.tup [.ref l, x]) → Q (.ref t) H''
def THeard (T : Txt K mg) : (XK → Hp → VK → Prop) → Hp → VK → Prop := fun tl H Q => tl (EHeard T Q) H fun _ H' => Q .non H'
def suite0 (T : Txt K mg) (a : Addr) (cls : Value) (d : Option Addr) : TS := (tRet (tTup (tCons (tLst (tCons (tCB (rIsD K T.c_BadNumber a cls d) (tCons (tVar 1) (tCons (tC (.ref T.c_BadNumber)) tNil))) (tCons (tCB (rIsD K T.c_BadNumber a cls d) (tCons (tVar 1) (tCons (tC (.ref T.c_BadShelf)) tNil))) (tCons (tCB (rIsD K T.c_BadNumber a cls d) (tCons (tVar 1) (tCons (tC (.ref T.c_BadCell)) tNil))) tNil)))) (tCons (tXf a cls d T.c_BadNumber "what" (tVar 1)) tNil))))
def suite1 (T : Txt K mg) (a : Addr) (cls : Value) (d : Option Addr) : TS := (tRet (tTup (tCons (tLst (tCons (tCB (rIsD K T.c_BadShelf a cls d) (tCons (tVar 1) (tCons (tC (.ref T.c_BadNumber)) tNil))) (tCons (tCB (rIsD K T.c_BadShelf a cls d) (tCons (tVar 1) (tCons (tC (.ref T.c_BadShelf)) tNil))) (tCons (tCB (rIsD K T.c_BadShelf a cls d) (tCons (tVar 1) (tCons (tC (.ref T.c_BadCell)) tNil))) tNil)))) (tCons (tXf a cls d T.c_BadShelf "what" (tVar 1)) tNil))))
def suite2 (T : Txt K mg) (a : Addr) (cls : Value) (d : Option Addr) : TS := (tRet (tTup (tCons (tLst (tCons (tCB (rIsD K T.c_BadCell a cls d) (tCons (tVar 1) (tCons (tC (.ref T.c_BadNumber)) tNil))) (tCons (tCB (rIsD K T.c_BadCell a cls d) (tCons (tVar 1) (tCons (tC (.ref T.c_BadShelf)) tNil))) (tCons (tCB (rIsD K T.c_BadCell a cls d) (tCons (tVar 1) (tCons (tC (.ref T.c_BadCell)) tNil))) tNil)))) (tCons (tXf a cls d T.c_BadCell "what" (tVar 1)) tNil))))
theorem s_lstTup {σ : L2.St} {H : Hp} {D : Ends} {ta : TA} {tb : TE} {vs : List V} {x : V} (h : EvA ta σ H vs) (hl : vs.length ≤ 100) (hx : Ev tb σ H x) (k : ∀ l t H', H l = none → H t = none → Ex H H' → H' l = some (.lst vs) → H' t = some (.tup [.ref l, x]) → D.rt (.ref t) H') :
    tRet (tTup (tCons (tLst ta) (tCons tb tNil))) D σ H := by
  show tLst ta σ H fun x H1 => tb σ H1 fun y H2 => [x, y].length ≤ sizeLine ∧ ∀ p, H2 p = none → D.rt (.ref p) (upd H2 p (.tup [x, y]))
  exact el_lst h (by omega) H (.refl H) _ fun l H1 nl e1 hl1 => hx H1 e1 _ fun H2 e2 => ⟨by show 2 ≤ sizeLine; decide, fun t nt => k l t _ nl (fresh_back (e1.trans e2) nt) ((e1.trans e2).trans (Ex.new nt)) (Ex.new nt _ _ (e2 _ _ hl1)) upd_same⟩
theorem suite0_heard (T : Txt K mg) {Q : VK} {d0 : Addr} {x : V} {H : Hp} {b : Addr} {u : Option V} {D : Ends} (hd : Wh H d0 x) (q : ∀ l t H'', H l = none → H t = none → Ex H H'' → H'' l = some (.lst [.bl true, .bl false, .bl false]) → H'' t = some (.tup [.ref l, x]) → Q (.ref t) H'') (hD : D.rt = Q) : suite0 T b (.ref T.c_BadNumber) (some d0) D [u, some (.ref b)] H := by
  subst hD
  have t0 : Ev (tCB (rIsD K T.c_BadNumber b (.ref T.c_BadNumber) (some d0)) (tCons (tVar 1) (tCons (tC (.ref T.c_BadNumber)) tNil))) [u, some (.ref b)] H (.bl true) := fun H5 e5 Qv qv => ⟨_, rfl, rfl, .ref T.c_BadNumber, .ref T.c_BadNumber, true, d0, _, rfl, .own _, T.ki_BadNumber_BadNumber, rfl, e5 d0 _ hd.choose_spec, qv H5 (Ex.refl H5)⟩
  have t1 : Ev (tCB (rIsD K T.c_BadNumber b (.ref T.c_BadNumber) (some d0)) (tCons (tVar 1) (tCons (tC (.ref T.c_BadShelf)) tNil))) [u, some (.ref b)] H (.bl false) := fun H5 e5 Qv qv => ⟨_, rfl, rfl, .ref T.c_BadShelf, .ref T.c_BadShelf, false, d0, _, rfl, .own _, T.ki_BadNumber_BadShelf, rfl, e5 d0 _ hd.choose_spec, qv H5 (Ex.refl H5)⟩
  have t2 : Ev (tCB (rIsD K T.c_BadNumber b (.ref T.c_BadNumber) (some d0)) (tCons (tVar 1) (tCons (tC (.ref T.c_BadCell)) tNil))) [u, some (.ref b)] H (.bl false) := fun H5 e5 Qv qv => ⟨_, rfl, rfl, .ref T.c_BadCell, .ref T.c_BadCell, false, d0, _, rfl, .own _, T.ki_BadNumber_BadCell, rfl, e5 d0 _ hd.choose_spec, qv H5 (Ex.refl H5)⟩
  have t4 : Ev (tXf b (.ref T.c_BadNumber) (some d0) T.c_BadNumber "what" (tVar 1)) [u, some (.ref b)] H x := fun H5 e5 Qv qv => ⟨_, rfl, rfl, rfl, d0, _, x, rfl, e5 d0 _ hd.choose_spec, by rfl, qv H5 (Ex.refl H5)⟩
  exact s_lstTup (ea_3 t0 t1 t2) (by show 3 ≤ 100; decide) t4 q
theorem suite1_heard (T : Txt K mg) {Q : VK} {d0 : Addr} {x : V} {H : Hp} {b : Addr} {u : Option V} {D : Ends} (hd : Wh H d0 x) (q : ∀ l t H'', H l = none → H t = none → Ex H H'' → H'' l = some (.lst [.bl false, .bl true, .bl false]) → H'' t = some (.tup [.ref l, x]) → Q (.ref t) H'') (hD : D.rt = Q) : suite1 T b (.ref T.c_BadShelf) (some d0) D [u, some (.ref b)] H := by
  subst hD
  have t0 : Ev (tCB (rIsD K T.c_BadShelf b (.ref T.c_BadShelf) (some d0)) (tCons (tVar 1) (tCons (tC (.ref T.c_BadNumber)) tNil))) [u, some (.ref b)] H (.bl false) := fun H5 e5 Qv qv => ⟨_, rfl, rfl, .ref T.c_BadNumber, .ref T.c_BadNumber, false, d0, _, rfl, .own _, T.ki_BadShelf_BadNumber, rfl, e5 d0 _ hd.choose_spec, qv H5 (Ex.refl H5)⟩
  have t1 : Ev (tCB (rIsD K T.c_BadShelf b (.ref T.c_BadShelf) (some d0)) (tCons (tVar 1) (tCons (tC (.ref T.c_BadShelf)) tNil))) [u, some (.ref b)] H (.bl true) := fun H5 e5 Qv qv => ⟨_, rfl, rfl, .ref T.c_BadShelf, .ref T.c_BadShelf, true, d0, _, rfl, .own _, T.ki_BadShelf_BadShelf, rfl, e5 d0 _ hd.choose_spec, qv H5 (Ex.refl H5)⟩
  have t2 : Ev (tCB (rIsD K T.c_BadShelf b (.ref T.c_BadShelf) (some d0)) (tCons (tVar 1) (tCons (tC (.ref T.c_BadCell)) tNil))) [u, some (.ref b)] H (.bl false) := fun H5 e5 Qv qv => ⟨_, rfl, rfl, .ref T.c_BadCell, .ref T.c_BadCell, false, d0, _, rfl, .own _, T.ki_BadShelf_BadCell, rfl, e5 d0 _ hd.choose_spec, qv H5 (Ex.refl H5)⟩
  have t4 : Ev (tXf b (.ref T.c_BadShelf) (some d0) T.c_BadShelf "what" (tVar 1)) [u, some (.ref b)] H x := fun H5 e5 Qv qv => ⟨_, rfl, rfl, rfl, d0, _, x, rfl, e5 d0 _ hd.choose_spec, by rfl, qv H5 (Ex.refl H5)⟩
  exact s_lstTup (ea_3 t0 t1 t2) (by show 3 ≤ 100; decide) t4 q
theorem suite2_heard (T : Txt K mg) {Q : VK} {d0 : Addr} {x : V} {H : Hp} {b : Addr} {u : Option V} {D : Ends} (hd : Wh H d0 x) (q : ∀ l t H'', H l = none → H t = none → Ex H H'' → H'' l = some (.lst [.bl false, .bl false, .bl true]) → H'' t = some (.tup [.ref l, x]) → Q (.ref t) H'') (hD : D.rt = Q) : suite2 T b (.ref T.c_BadCell) (some d0) D [u, some (.ref b)] H := by
  subst hD
  have t0 : Ev (tCB (rIsD K T.c_BadCell b (.ref T.c_BadCell) (some d0)) (tCons (tVar 1) (tCons (tC (.ref T.c_BadNumber)) tNil))) [u, some (.ref b)] H (.bl false) := fun H5 e5 Qv qv => ⟨_, rfl, rfl, .ref T.c_BadNumber, .ref T.c_BadNumber, false, d0, _, rfl, .own _, T.ki_BadCell_BadNumber, rfl, e5 d0 _ hd.choose_spec, qv H5 (Ex.refl H5)⟩
  have t1 : Ev (tCB (rIsD K T.c_BadCell b (.ref T.c_BadCell) (some d0)) (tCons (tVar 1) (tCons (tC (.ref T.c_BadShelf)) tNil))) [u, some (.ref b)] H (.bl false) := fun H5 e5 Qv qv => ⟨_, rfl, rfl, .ref T.c_BadShelf, .ref T.c_BadShelf, false, d0, _, rfl, .own _, T.ki_BadCell_BadShelf, rfl, e5 d0 _ hd.choose_spec, qv H5 (Ex.refl H5)⟩
  have t2 : Ev (tCB (rIsD K T.c_BadCell b (.ref T.c_BadCell) (some d0)) (tCons (tVar 1) (tCons (tC (.ref T.c_BadCell)) tNil))) [u, some (.ref b)] H (.bl true) := fun H5 e5 Qv qv => ⟨_, rfl, rfl, .ref T.c_BadCell, .ref T.c_BadCell, true, d0, _, rfl, .own _, T.ki_BadCell_BadCell, rfl, e5 d0 _ hd.choose_spec, qv H5 (Ex.refl H5)⟩
  have t4 : Ev (tXf b (.ref T.c_BadCell) (some d0) T.c_BadCell "what" (tVar 1)) [u, some (.ref b)] H x := fun H5 e5 Qv qv => ⟨_, rfl, rfl, rfl, d0, _, x, rfl, e5 d0 _ hd.choose_spec, by rfl, qv H5 (Ex.refl H5)⟩
  exact s_lstTup (ea_3 t0 t1 t2) (by show 3 ≤ 100; decide) t4 q
theorem suite_heard (T : Txt K mg) {Q : VK} {cls : Value} {dd : Option Addr} {H : Hp} {b : Addr} {u : Option V} {D : Ends} (h : EHeard T Q cls dd H) (hD : D.rt = Q) : suite0 T b cls dd D [u, some (.ref b)] H ∨ (suite1 T b cls dd D [u, some (.ref b)] H ∨ suite2 T b cls dd D [u, some (.ref b)] H) := by
  obtain ⟨c, d0, x, hc, rfl, rfl, hd, q⟩ := h
  match c, hc, q with
  | 0, _, q => exact .inl (suite0_heard T hd q hD)
  | 1, _, q => exact .inr (.inl (suite1_heard T hd q hD))
  | 2, _, q => exact .inr (.inr (suite2_heard T hd q hD))
theorem gives_law_heard {X : Cx} (T : Txt X.K X.mg) (cdg : Value) (q : Str) : GivesTo X n_law_heard "_law_heard" (defScope s_law_heard) T.f_law_heard cdg (defBody s_law_heard) "_law_call" q (THeard T) := by
  intro f c' s H Q tl act hc h
  refine ⟨_, pss_cons (ps_try_named (X := (cxOf C8.CX0 X.prog X.w X.K X.mg X.base n_law_heard "_law_heard" (defScope s_law_heard) T.f_law_heard cdg X.A X.stack s H C8.E0).nox) (n := "error") (i := 1)
    (tb := fun W D σ H => ∃ Ech : XK, (∀ cls d σ' H', Ech cls d H' → σ'.length = 2 → W cls d σ' H') ∧ σ[0]? = some (some (.ref f)) ∧ H c' = some (CodeO c' q) ∧ tl Ech H fun _ H' => D.nx σ H') (out := fun _ _ _ _ => False)
    (cs := [(.ref T.c_Refused, fun a cls d D σ H => suite0 T a cls d D σ H ∨ (suite1 T a cls d D σ H ∨ suite2 T a cls d D σ H))]) rfl rfl sc_law_heard.nd rfl rfl L2.takes0 (fun W pn xe tk xp => ?_)
    (.cons ⟨by rfl, by decide, Or.inl T.g_Refused⟩ (fun a oe cls d pn hz hf => pss_alt (t := suite0 T a cls d) (u := fun D σ H => suite1 T a cls d D σ H ∨ suite2 T a cls d D σ H) (pss_one (ps_ret (pe_tup (pa_cons (pe_lst (pa_cons (pe_callB (call_isD T.e_BadNumber hz hf) (by rfl) T.m_isinstance (by decide +kernel) (pa_cons (pv 1) (pa_cons (pe_glob (v := .ref T.c_BadNumber) (by rfl) T.g_BadNumber rfl) pa_nil))) (pa_cons (pe_callB (call_isD T.e_BadNumber hz hf) (by rfl) T.m_isinstance (by decide +kernel) (pa_cons (pv 1) (pa_cons (pe_glob (v := .ref T.c_BadShelf) (by rfl) T.g_BadShelf rfl) pa_nil))) (pa_cons (pe_callB (call_isD T.e_BadNumber hz hf) (by rfl) T.m_isinstance (by decide +kernel) (pa_cons (pv 1) (pa_cons (pe_glob (v := .ref T.c_BadCell) (by rfl) T.g_BadCell rfl) pa_nil))) pa_nil)))) (pa_cons (pe_xf T.x_BadNumber T.n_BadNumber_what.1 hz hf (pv 1)) pa_nil))))) (pss_alt (t := suite1 T a cls d) (u := suite2 T a cls d) (pss_one (ps_ret (pe_tup (pa_cons (pe_lst (pa_cons (pe_callB (call_isD T.e_BadShelf hz hf) (by rfl) T.m_isinstance (by decide +kernel) (pa_cons (pv 1) (pa_cons (pe_glob (v := .ref T.c_BadNumber) (by rfl) T.g_BadNumber rfl) pa_nil))) (pa_cons (pe_callB (call_isD T.e_BadShelf hz hf) (by rfl) T.m_isinstance (by decide +kernel) (pa_cons (pv 1) (pa_cons (pe_glob (v := .ref T.c_BadShelf) (by rfl) T.g_BadShelf rfl) pa_nil))) (pa_cons (pe_callB (call_isD T.e_BadShelf hz hf) (by rfl) T.m_isinstance (by decide +kernel) (pa_cons (pv 1) (pa_cons (pe_glob (v := .ref T.c_BadCell) (by rfl) T.g_BadCell rfl) pa_nil))) pa_nil)))) (pa_cons (pe_xf T.x_BadShelf T.n_BadShelf_what.1 hz hf (pv 1)) pa_nil))))) (pss_one (ps_ret (pe_tup (pa_cons (pe_lst (pa_cons (pe_callB (call_isD T.e_BadCell hz hf) (by rfl) T.m_isinstance (by decide +kernel) (pa_cons (pv 1) (pa_cons (pe_glob (v := .ref T.c_BadNumber) (by rfl) T.g_BadNumber rfl) pa_nil))) (pa_cons (pe_callB (call_isD T.e_BadCell hz hf) (by rfl) T.m_isinstance (by decide +kernel) (pa_cons (pv 1) (pa_cons (pe_glob (v := .ref T.c_BadShelf) (by rfl) T.g_BadShelf rfl) pa_nil))) (pa_cons (pe_callB (call_isD T.e_BadCell hz hf) (by rfl) T.m_isinstance (by decide +kernel) (pa_cons (pv 1) (pa_cons (pe_glob (v := .ref T.c_BadCell) (by rfl) T.g_BadCell rfl) pa_nil))) pa_nil)))) (pa_cons (pe_xf T.x_BadCell T.n_BadCell_what.1 hz hf (pv 1)) pa_nil))))))) .nil)) (pss_one (ps_ret pe_non)), ?_⟩
  · refine ⟨fun pins s' σ H' D I h' => ?_⟩
    obtain ⟨Ech, hW, h1, h2, h3⟩ := h'
    exact (pss_one (ps_expr (act _ pn xe Ech _ _ (takes_len tk) hW))).run pins s' σ H' D I ⟨h1, h2, h3⟩
  · refine ⟨EHeard T Q, fun cls d σ' H' hE hl => ?_, rfl, hc, h⟩
    obtain ⟨x, y, rfl⟩ := two_st hl
    obtain ⟨c, d0, fl, hc3, rfl, rd, hd, qq⟩ := id hE
    refine ⟨true, (by
      match c, hc3 with
      | 0, _ => exact T.te_BadNumber_Refused
      | 1, _ => exact T.te_BadShelf_Refused
      | 2, _ => exact T.te_BadCell_Refused), fun _ b nb => ?_, fun z => by cases z⟩
    exact suite_heard T hE rfl
/-! ### the rack and the law's own where tables grow -/
theorem LwA.upT {T : Txt K mg} {a p sh wl sl : Addr} {rr : List Addr} {o cl st : Addr} {rr2 : List Addr} {s : Shp} {n : Nat} {ways : List Nat} {f : Nat → Nat → Ro} {H H' : Hp} (h : LwA T a p sh wl sl rr o cl st rr2 s n ways f H) (u : UpT a H H') : LwA T a p sh wl sl rr o cl st rr2 s n ways f H' := by
  have sq := Kp.sqK (K := K) (u.kp h.src)
  have nd := h.nd
  rw [List.nodup_cons] at nd
  have na := nd.1
  obtain ⟨dx, h1⟩ := h.rk.ob
  obtain ⟨kvs, h2, _⟩ := h.ow.ob
  have pa : p ≠ a := h.src.at h1 (fun _ z => by cases z)
  have oa : o ≠ a := h.src.at h2 (fun _ z => by cases z)
  have fin : ∀ {b : Addr} {q q' : HO}, b ≠ a → H b = some q' → (∀ ps, q' ≠ .tbl ps) → H b = some q → H' b = some q := fun nb e n hq => u.keep _ _ nb hq (by rw [e] at hq; injection hq with hq; rw [← hq]; exact n)
  refine ⟨u.src, h.rk.keep sq fun b q hb hq => ?_, h.ow.keep sq fun b q hb hq => ?_, h.nd, h.fb⟩
  · rcases hb with e | e | e | e
    · subst e; exact fin pa h1 (fun _ z => by cases z) hq
    · subst e; exact fin (fun z => na (by rw [z]; simp)) h.rk.fW (fun _ z => by cases z) hq
    · subst e; exact fin (fun z => na (by rw [z]; simp)) h.rk.fL (fun _ z => by cases z) hq
    · obtain ⟨k, hk⟩ := List.mem_iff_getElem?.mp e
      obtain ⟨vs, hv, _⟩ := h.rk.lo k b hk
      exact fin (fun z => na (by rw [← z]; simp [e])) hv (fun _ z => by cases z) hq
  · rcases hb with e | e | e | e
    · subst e; exact fin oa h2 (fun _ z => by cases z) hq
    · subst e; exact fin (fun z => na (by rw [z]; simp)) h.ow.fL (fun _ z => by cases z) hq
    · subst e; exact fin (fun z => na (by rw [z]; simp)) h.ow.fS (fun _ z => by cases z) hq
    · obtain ⟨k, hk⟩ := List.mem_iff_getElem?.mp e
      obtain ⟨vs, hv, _⟩ := h.ow.lo k b hk
      exact fin (fun z => na (by rw [← z]; simp [e])) hv (fun _ z => by cases z) hq
end
end My


set_option maxHeartbeats 1000000
namespace My
open PySem PySem.Spec PyProof.Rows L2 Own LamX
open Evl (Ex RetV)
section
variable {P : Program} {w : World} {K : PySem.W.Frag} {mg : Str → Option Value} {base : Heap}

open Evl
/-! ### what is refused: what is heard beside what is due -/
def LB (c : Nat) : List V := [.bl (decide (c = 0)), .bl (decide (c = 1)), .bl (decide (c = 2))]
def lbD (c : Nat) : List PyData := [.bool (decide (c = 0)), .bool (decide (c = 1)), .bool (decide (c = 2))]
theorem lb_dp {H : Hp} (c : Nat) : DpAll K H (LB c) (lbD c) := .cons (.bl _) (.cons (.bl _) (.cons (.bl _) .nil))
theorem lb_fine (c : Nat) : ∀ d ∈ lbD c, fine 0 d = true := fun d hd => by
  simp only [lbD, List.mem_cons, List.not_mem_nil, or_false] at hd
  rcases hd with rfl | rfl | rfl <;> rfl
theorem neD_heard {H : Hp} {t l t1 l1 : Addr} {x : V} {dx : PyData} {c : Nat} (ht : H t = some (.tup [.ref l, x])) (hl : H l = some (.lst (LB c))) (ht1 : H t1 = some (.tup [.ref l1, x])) (hl1 : H l1 = some (.lst (LB c))) (g : Gd K H 0 x dx) {Q : VK} (q : Q (.bl false) H) : rNeD K (.ref t) (.ref t1) H Q := by
  have sh := showsAll _ _ (lb_fine c)
  have sx := shows _ _ g.fn
  have lay : PyData.canLay0 (.tuple [.list (lbD c), dx]) = true := by
    simp only [PyData.canLay0, PyData.canLayAll0, fine_layAll _ 0 (lb_fine c), fine_lay _ 0 g.fn, Bool.and_true]
  have shp : SeqAt.shaped (.tuple [.list (lbD c), dx]) = true := by
    unfold SeqAt.shaped
    rw [lay, decide_eq_true (show (PyData.tuple [.list (lbD c), dx]).depth ≤ 64 by
      have := sh.2.2; have := sx.2.2
      simp only [PyData.depth, PyData.depthAll]
      omega)]
    rfl
  refine ⟨.tuple [.list (lbD c), dx], .tuple [.list (lbD c), dx], .tup (st_of ht) (.cons (.lst (sq_of hl) (lb_dp c)) (.cons g.dp .nil)), .tup (st_of ht1) (.cons (.lst (sq_of hl1) (lb_dp c)) (.cons g.dp .nil)), shp, shp, ?_⟩
  rw [SeqAt.eqv_refl _ lay]
  exact q
theorem gd0_any {H H' : Hp} {v : V} {d : PyData} (g : Gd K H 0 v d) : Gd K H' 0 v d := by
  refine ⟨?_, g.fn⟩
  have h := g.dp
  have f := g.fn
  cases h with
  | non => exact .non
  | bl b => exact .bl b
  | int i => exact .int i
  | str x => exact .str x
  | lst _ _ => simp [fine] at f
  | tup _ _ => simp [fine] at f
theorem tabs_lst {T : List (Addr × Str)} {H : Hp} {l : Addr} {xs ys : List V} (t : Tabs T H) (h : H l = some (.lst xs)) : Tabs T (upd H l (.lst ys)) := fun p hp => by
  obtain ⟨ps, h1, h2, h3⟩ := t p hp
  refine ⟨ps, by rw [upd_ne (fun z => by rw [z, h] at h1; cases h1)]; exact h1, h2, fun pos cv hc => ?_⟩
  obtain ⟨c, e1, e2⟩ := h3 pos cv hc
  exact ⟨c, e1, by rw [upd_ne (fun z => by rw [z, h] at e2; exact absurd (Option.some.inj e2).symm (codeO_fx.l _))]; exact e2⟩
section
variable {σ : L2.St} {H : Hp} {a lc : Addr} {T : Txt K mg} {c : Nat} {x : V} {dx : PyData} {te td : TE}
/-- what is heard is what is due -/
theorem heard_core (src : Src H a) (na : lc ≠ a) (hl : H lc = some (.lst (LB c))) (gx : ∀ H', Gd K H' 0 x dx) (hh : ∀ Q' : VK, (∀ l t H', UpT a H H' → Tabs T.tabs H' → H' l = some (.lst (LB c)) → H' t = some (.tup [.ref l, x]) → Q' (.ref t) H') → te σ H Q')
    (hd : ∀ H1, UpT a H H1 → ∀ Q' : VK, (∀ t H2, Ex H1 H2 → H2 t = some (.tup [.ref lc, x]) → Q' (.ref t) H2) → td σ H1 Q') {Q : Bool → Hp → Prop} (q : ∀ H', UpT a H H' → Tabs T.tabs H' → Q false H') : tTest (tOp (rNeD K) te td) σ H Q := by
  refine hh _ fun l t H1 u1 T1 h1 h2 => hd H1 u1 _ fun t1 H2 e2 h3 => ?_
  exact neD_heard (e2 _ _ h2) (e2 _ _ h1) h3 (e2 _ _ (u1.lst na hl)) (gx H2) ⟨false, rfl, q H2 (u1.trans (.ex u1.src e2)) (T1.ext e2)⟩
theorem heard_lam {tb : XK → TE} (hT : Tabs T.tabs H) (src : Src H a) (hc : c < 3) (hb : ∀ H1, UpT a H H1 → ∀ (E : XK) (Qv : VK), (∀ dd H2, Ex H1 H2 → Wh H2 dd x → E (.ref (hC T c)) (some dd) H2) → tb E σ H1 Qv) :
    ∀ Q' : VK, (∀ l t H', UpT a H H' → Tabs T.tabs H' → H' l = some (.lst (LB c)) → H' t = some (.tup [.ref l, x]) → Q' (.ref t) H') → tLam T.tabs (THeard T) tb σ H Q' := fun Q' k =>
  ⟨hT, fun H1 eN T1 => hb H1 (.extN src eN) _ _ fun dd H2 e2 w => ⟨c, dd, x, hc, rfl, rfl, w, fun l t H3 nl nt e3 h1 h2 => k l t H3 ((UpT.extN src eN).trans (.ex (src_extN src eN) (e2.trans e3))) (T1.ext (e2.trans e3)) h1 h2⟩⟩
theorem heard_name {M : (XK → TE) → Addr → Addr → Heap → Prop} {q : Str} {i : Nat} {f d : Addr} {r : XK → TE} (hT : Tabs T.tabs H) (src : Src H a) (hc : c < 3) (hi : σ[i]? = some (some (.ref f))) (hf : H f = some (.ext (M r f d))) (hd : H d = some (CodeO d q))
    (hb : ∀ (E : XK) (Qv : VK), (∀ dd H2, Ex H H2 → Wh H2 dd x → E (.ref (hC T c)) (some dd) H2) → r E σ H Qv) :
    ∀ Q' : VK, (∀ l t H', UpT a H H' → Tabs T.tabs H' → H' l = some (.lst (LB c)) → H' t = some (.tup [.ref l, x]) → Q' (.ref t) H') → tLamN q (THeard T) M i σ H Q' := fun Q' k =>
  ⟨f, d, r, hi, hf, hd, hf, hb _ _ fun dd H2 e2 w => ⟨c, dd, x, hc, rfl, rfl, w, fun l t H3 nl nt e3 h1 h2 => k l t H3 (.ex src (e2.trans e3)) (hT.ext (e2.trans e3)) h1 h2⟩⟩
end
/-! ### what is due -/
structure SgP where
  a : Addr
  p : Addr
  o : Addr
  sh : Addr
  n : Nat
  N : Nat
  pp : Int
  cb : Addr
  x : V
  y : V
  z : V
  l1 : Addr
  l2 : Addr
  l3 : Addr
abbrev SgP.st (g : SgP) (u14 u15 u16 u17 : Option V) : L2.St := [some (.ref g.a), some (.ref g.p), some (.ref g.o), some (.ref g.sh), some (.int (g.n : Int)), some (.int (g.N : Int)), some (.int g.pp), some (.ref g.cb), some g.x, some g.y, some g.z, some (.ref g.l1), some (.ref g.l2), some (.ref g.l3), u14, u15, u16, u17]
def SgP.lc (g : SgP) : Nat → Addr
  | 0 => g.l1
  | 1 => g.l2
  | _ => g.l3
/-- whatever the frame holds by then, the lambda is refused by class c, of x -/
def OkR (T : Txt K mg) (g : SgP) (H0 : Hp) (r : XK → TE) (c : Nat) (x : V) : Prop := ∀ u14 u15 u16 u17 H', UpT g.a H0 H' → ∀ (E : XK) (Q : VK), (∀ dd H'', Ex H' H'' → Wh H'' dd x → E (.ref (hC T c)) (some dd) H'') → r E (g.st u14 u15 u16 u17) H' Q
abbrev qn : Str := ("_law_refused_right" ++ ".<locals>.") ++ "<lambda>"
def DueP (T : Txt K mg) (g : SgP) (M : (XK → TE) → Addr → Addr → Heap → Prop) (H0 : Hp) : VP := fun v H => ∃ t2 f d t1 r c x dx, v = .ref t2 ∧ H t2 = some (.tup [.ref f, .ref t1]) ∧ H t1 = some (.tup [.ref (g.lc c), x]) ∧ H f = some (.ext (M r f d)) ∧ H d = some (CodeO d qn) ∧ c < 3 ∧ OkR T g H0 r c x ∧ ∀ H', Gd K H' 0 x dx
theorem due_kp {T : Txt K mg} {g : SgP} {M : (XK → TE) → Addr → Addr → Heap → Prop} {H0 : Hp} : MonoK (DueP T g M H0) := fun v H H' e ⟨t2, f, d, t1, r, c, x, dx, e1, h1, h2, h3, h4, h5⟩ =>
  ⟨t2, f, d, t1, r, c, x, dx, e1, e _ _ h1 ⟨(fun _ z => by cases z), (fun _ z => by cases z)⟩, e _ _ h2 ⟨(fun _ z => by cases z), (fun _ z => by cases z)⟩, e _ _ h3 ext_fx, e _ _ h4 codeO_fx, h5⟩
section
variable {T : Txt K mg} {g : SgP} {M : (XK → TE) → Addr → Addr → Heap → Prop} {H0 H : Hp} {σ : L2.St} {tx : TE} {i c : Nat} {x : V} {dx : PyData} {r : XK → TE}
theorem due_new (hT : Tabs T.tabs H) (src : Src H g.a) (hl : σ[i]? = some (some (.ref (g.lc c)))) (hx : ∀ H1, Ev tx σ H1 x) (hc : c < 3) (ok : OkR T g H0 r c x) (gx : ∀ H', Gd K H' 0 x dx) {Q : VK} (k : ∀ v H', UpT g.a H H' → Tabs T.tabs H' → DueP T g M H0 v H' → Q v H') :
    (tTup (tCons (tLamV T.tabs qn M r) (tCons (tTup (tCons (tVar i) (tCons tx tNil))) tNil))) σ H Q := by
  refine ⟨hT, fun H1 f d eN T1 nf hf hd => ⟨_, hl, hx H1 H1 (.refl H1) _ fun H2 e2 => ⟨by show 2 ≤ sizeLine; decide, fun t1 n1 => ⟨by show 2 ≤ sizeLine; decide, fun t2 n2 => ?_⟩⟩⟩⟩
  have e3 := e2.trans ((Ex.new (o := .tup [.ref (g.lc c), x]) n1).trans (Ex.new (o := .tup [.ref f, .ref t1]) n2))
  exact k _ _ ((UpT.extN src eN).trans (UpT.ex (src_extN src eN) e3)) (T1.ext e3) ⟨t2, f, d, t1, r, c, x, dx, rfl, upd_same, Ex.new n2 _ _ upd_same, e3 _ _ hf, e3 _ _ hd, hc, ok, gx⟩
/-- the list of what is due -/
structure DL (T : Txt K mg) (g : SgP) (M : (XK → TE) → Addr → Addr → Heap → Prop) (H0 : Hp) (dl : Addr) (m : Nat) (H : Hp) : Prop where
  u : UpT g.a H0 H
  tb : Tabs T.tabs H
  nd : dl ≠ g.a
  nw : ∀ o, H0 dl = some o → ∃ ps, o = .tbl ps
  all : ∃ vs, H dl = some (.lst vs) ∧ vs.length ≤ m ∧ ∀ v ∈ vs, DueP T g M H0 v H
theorem DL.up {dl : Addr} {m : Nat} {H' : Hp} (L : DL T g M H0 dl m H) (u : UpT g.a H H') (t : Tabs T.tabs H') : DL T g M H0 dl m H' :=
  let ⟨vs, h1, h2, h3⟩ := L.all
  ⟨L.u.trans u, t, L.nd, L.nw, vs, u.lst L.nd h1, h2, fun v hv => due_kp v _ _ (u.kp L.u.src) (h3 v hv)⟩
theorem q_due {D : Ends} {tz : TS} {dl : Addr} {m : Nat} {u15 u16 u17 : Option V} (L : DL T g M H0 dl m H) (hm : m ≤ 1000) (hl : (g.st (some (.ref dl)) u15 u16 u17)[i]? = some (some (.ref (g.lc c)))) (hx : ∀ H1, Ev tx (g.st (some (.ref dl)) u15 u16 u17) H1 x) (hc : c < 3) (ok : OkR T g H0 r c x) (gx : ∀ H', Gd K H' 0 x dx)
    (k : ∀ H', DL T g M H0 dl (m + 1) H' → tz D (g.st (some (.ref dl)) u15 u16 u17) H') :
    tSeq (tDrop (tBM K "list" rAppend (tVar 14) (tCons (tTup (tCons (tLamV T.tabs qn M r) (tCons (tTup (tCons (tVar i) (tCons tx tNil))) tNil))) tNil))) tz D (g.st (some (.ref dl)) u15 u16 u17) H := by
  obtain ⟨vs, h1, h2, h3⟩ := L.all
  refine ⟨.ref dl, rfl, .inl ⟨rfl, vs, sq_of h1⟩, due_new (M := M) (H0 := H0) L.tb L.u.src hl hx hc ok gx fun v H' u t d => ⟨dl, vs, v, rfl, rfl, u.lst L.nd h1, sz_lt (by omega), k _ ?_⟩⟩
  have hd' := u.lst L.nd h1
  have kp : Kp H' (upd H' dl (.lst (vs ++ [v]))) := Kp.lst hd'
  have U := L.u.trans u
  refine ⟨⟨fun b o nb hb n => ?_, ?_⟩, tabs_lst t hd', L.nd, L.nw, vs ++ [v], upd_same, by rw [List.length_append]; show vs.length + 1 ≤ m + 1; omega, fun w hw => ?_⟩
  · rw [upd_ne (fun z => let ⟨ps, e⟩ := L.nw o (by rw [← z]; exact hb); n ps e)]
    exact U.keep b o nb hb n
  · obtain ⟨x, y, h, r⟩ := U.src
    exact ⟨x, y, by rw [upd_ne L.nd.symm]; exact h, r⟩
  · rcases List.mem_append.mp hw with z | z
    · exact due_kp w _ _ ((u.kp L.u.src).trans kp) (h3 w z)
    · rw [List.mem_singleton.mp z]
      exact due_kp v _ _ kp d
end
end
end My


set_option maxHeartbeats 1000000
namespace My
open PySem PySem.Spec PyProof.Rows L2 Own LamX
open Evl (Ex RetV)
section
variable {P : Program} {w : World} {K : PySem.W.Frag} {mg : Str → Option Value} {base : Heap}

open Evl
/-! ### the refusals of a rack -/
section
variable {T : Txt K mg} {g : SgP} {M : (XK → TE) → Addr → Addr → Heap → Prop} {H0 H : Hp} {σ : L2.St} {tx : TE} {i c : Nat} {x : V} {dx : PyData} {r : XK → TE} {D : Ends} {tz : TS}
theorem mm_meth {ta : TE} {p sh wl sl : Addr} {rr : List Addr} {R : Rk} {m : Str} {sp : Sp} {E : XK} {tt : TA} {vs : List V} {Q : VK} (A : RkA T p sh wl sl rr R H) (h : Ev ta σ H (.ref p)) (n1 : ¬ m = "stripes") (n2 : ¬ m = "ways") (n3 : ¬ m = "rows") (n4 : ¬ m = "shape") (ha : EvA tt σ H vs)
    (k : ∀ H1, Ex H H1 → sp (.ref p :: vs) H1 Q E) : tMeth T.c_Rack m sp [] E ta tt σ H Q :=
  h H (.refl H) _ fun H1 e1 => by
    obtain ⟨dx, h1⟩ := A.ob
    refine ⟨p, dx, _, rfl, e1 _ _ h1, rkF_no n1 n2 n3 n4, ha H1 e1 _ fun H2 e2 => ?_⟩
    rw [List.append_nil]
    exact k H2 (e1.trans e2)
theorem q_dueL (hT : Tabs T.tabs H0) (src : Src H0 g.a) (hl : (g.st none none none none)[i]? = some (some (.ref (g.lc c)))) (hx : ∀ H1, Ev tx (g.st none none none none) H1 x) (hc : c < 3) (ok : OkR T g H0 r c x) (gx : ∀ H', Gd K H' 0 x dx)
    (k : ∀ dl H', DL T g M H0 dl 1 H' → tz D (g.st (some (.ref dl)) none none none) H') :
    tSeq (tAsg (tLst (tCons (tTup (tCons (tLamV T.tabs qn M r) (tCons (tTup (tCons (tVar i) (tCons tx tNil))) tNil))) tNil)) (gName 14)) tz D (g.st none none none none) H0 := by
  show (tTup (tCons (tLamV T.tabs qn M r) (tCons (tTup (tCons (tVar i) (tCons tx tNil))) tNil))) (g.st none none none none) H0 fun v H1 => [v].length ≤ sizeLine ∧ ∀ p, H1 p = none → tz D ((g.st none none none none).set 14 (some (.ref p))) (upd H1 p (.lst [v]))
  refine due_new (M := M) (H0 := H0) hT src hl hx hc ok gx fun v H' u t d => ⟨by show 1 ≤ sizeLine; decide, fun dl ndl => k dl _ ⟨u.trans (UpT.ex u.src (Ex.new ndl)), t.ext (Ex.new ndl), u.src.new ndl, fun o ho => ?_, [v], upd_same, Nat.le_refl _, fun w hw => ?_⟩⟩
  · refine Classical.byContradiction fun n => ?_
    have := u.keep dl o (u.src.new ndl) ho fun ps z => n ⟨ps, z⟩
    rw [ndl] at this
    cases this
  · rw [List.mem_singleton.mp hw]
    exact due_kp v _ _ (.new ndl) d
theorem s_par3L {i j l : Nat} {ta tb tc : TE} {xs ys zs : List V} (h1 : EvL ta σ H xs) (h2 : EvL tb σ H ys) (h3 : EvL tc σ H zs) (k : ∀ p q r H', H p = none → H q = none → H r = none → Ex H H' → H' p = some (.lst xs) → H' q = some (.lst ys) → H' r = some (.lst zs) → D.nx (((σ.set i (some (.ref p))).set j (some (.ref q))).set l (some (.ref r))) H') :
    tPar3 i j l (tCons ta (tCons tb (tCons tc tNil))) D σ H := by
  show ta σ H fun x H1 => tb σ H1 fun y H2 => tc σ H2 fun z H3 => ∃ u v w, [x, y, z] = [u, v, w] ∧ D.nx (((σ.set i (some u)).set j (some v)).set l (some w)) H3
  exact h1 H (.refl H) _ fun p H1 np e1 hp => h2 H1 e1 _ fun q H2 nq e2 hq => h3 H2 (e1.trans e2) _ fun r H3 nr e3 hr => ⟨_, _, _, rfl, k p q r H3 np (fresh_back e1 nq) (fresh_back (e1.trans e2) nr) ((e1.trans e2).trans e3) ((e2.trans e3) _ _ hp) (e3 _ _ hq) hr⟩
end
section
variable {T : Txt K mg} {g : SgP} {H0 : Hp} {wl sl cl st : Addr} {rr rr2 : List Addr} {s : Shp} {n : Nat} {ways : List Nat} {f : Nat → Nat → Ro} {dx dy dz : PyData}
theorem w0n {n : Nat} (h : 1 ≤ n) : within (.int 0) 0 ((n : Int) - 1) = true := by simp [within]; omega
theorem w0s {s : Shp} (o : s.Ok) : within (.int 0) 0 ((s.c + s.n : Int) - 1) = true := by have := o.n; simp [within]; omega
theorem ok_put1 (W0 : LwA T g.a g.p g.sh wl sl rr g.o cl st rr2 s n ways f H0) (gx : ∀ H', Gd K H' 0 g.x dx) (gy : ∀ H', Gd K H' 0 g.y dy) (gz : Gd K H0 1 g.z dz) (bx : within dx 0 ((n : Int) - 1) = false) :
    OkR T g H0 (fun E => tMeth T.c_Rack "put" (sp_Rack_put T) [] E (tVar 1) (tCons (tVar 8) (tCons (tVar 9) (tCons (tVar 10) tNil)))) 0 g.x := fun u14 u15 u16 u17 H' u E Q hE =>
  mm_meth (W0.upT u).rk (ev_var rfl) (by decide +kernel) (by decide +kernel) (by decide +kernel) (by decide +kernel) (ea_3 (ev_var rfl) (ev_var rfl) (ev_var rfl)) fun H1 e1 => ⟨g.p, g.sh, wl, sl, rr, _, 0, 0, 1, _, _, _, _, _, _, rfl, (W0.upT u).rk.ex e1, gx H1, gy H1, gz.kp ((u.kp W0.src).trans (.ex e1)),
    fun i j r ed _ _ hi _ _ _ => (by subst ed; have : within (.int (i : Int)) 0 ((n : Int) - 1) = true := (by have hi : i < n := hi; simp [within]; omega); rw [this] at bx; cases bx),
    fun _ H2 dd e2 w => hE dd H2 (e1.trans e2) w, (fun c => by rw [show within dx 0 ((n : Int) - 1) = true from c] at bx; cases bx), fun c => by rw [show within dx 0 ((n : Int) - 1) = true from c] at bx; cases bx⟩
theorem ok_put2 (W0 : LwA T g.a g.p g.sh wl sl rr g.o cl st rr2 s n ways f H0) (gy : ∀ H', Gd K H' 0 g.y dy) (gz : Gd K H0 1 g.z dz) (by_ : within dy 0 ((s.c + s.n : Int) - 1) = false) :
    OkR T g H0 (fun E => tMeth T.c_Rack "put" (sp_Rack_put T) [] E (tVar 1) (tCons (tC (.int 0)) (tCons (tVar 9) (tCons (tVar 10) tNil)))) 1 g.y := fun u14 u15 u16 u17 H' u E Q hE =>
  mm_meth (W0.upT u).rk (ev_var rfl) (by decide +kernel) (by decide +kernel) (by decide +kernel) (by decide +kernel) (ea_3 ev_c (ev_var rfl) (ev_var rfl)) fun H1 e1 => ⟨g.p, g.sh, wl, sl, rr, _, 0, 0, 1, _, _, _, .int 0, _, _, rfl, (W0.upT u).rk.ex e1, gd_int (by decide), gy H1, gz.kp ((u.kp W0.src).trans (.ex e1)),
    fun i j r _ ed _ _ hj _ _ => (by subst ed; have : within (.int (j : Int)) 0 ((s.c + s.n : Int) - 1) = true := (by have hj : j < s.c + s.n := hj; simp [within]; omega); rw [this] at by_; cases by_),
    (fun c => by rw [show within (.int 0) 0 ((n : Int) - 1) = true from w0n W0.rk.r1.1] at c; cases c), fun _ _ H2 dd e2 w => hE dd H2 (e1.trans e2) w, fun _ c => by rw [show within dy 0 ((s.c + s.n : Int) - 1) = true from c] at by_; cases by_⟩
theorem ok_put3 (W0 : LwA T g.a g.p g.sh wl sl rr g.o cl st rr2 s n ways f H0) (gz : Gd K H0 1 g.z dz) (bz : rowD dz s.w s.p = false) :
    OkR T g H0 (fun E => tMeth T.c_Rack "put" (sp_Rack_put T) [] E (tVar 1) (tCons (tC (.int 0)) (tCons (tC (.int 0)) (tCons (tVar 10) tNil)))) 2 (.int 0) := fun u14 u15 u16 u17 H' u E Q hE =>
  mm_meth (W0.upT u).rk (ev_var rfl) (by decide +kernel) (by decide +kernel) (by decide +kernel) (by decide +kernel) (ea_3 ev_c ev_c (ev_var rfl)) fun H1 e1 => ⟨g.p, g.sh, wl, sl, rr, _, 0, 0, 1, _, _, _, .int 0, .int 0, _, rfl, (W0.upT u).rk.ex e1, gd_int (by decide), gd_int (by decide), gz.kp ((u.kp W0.src).trans (.ex e1)),
    fun i j r _ _ ed _ _ hl hb => (by
      subst ed
      have : rowD (intsD r) s.w s.p = true := by
        show (decide ((((r.map PyData.int).length : Nat) : Int) = (s.w : Int)) && (r.map PyData.int).all fun x => within x 0 (s.p - 1)) = true
        rw [Bool.and_eq_true]
        refine ⟨decide_eq_true (by rw [List.length_map]; have hl : r.length = s.w := hl; omega), List.all_eq_true.mpr fun x hx => ?_⟩
        obtain ⟨y, hy, rfl⟩ := List.mem_map.mp hx
        have : 0 ≤ y ∧ y < s.p := hb y hy
        simp [within]
        omega
      rw [this] at bz
      cases bz),
    (fun c => by rw [show within (.int 0) 0 ((n : Int) - 1) = true from w0n W0.rk.r1.1] at c; cases c), (fun _ c => by rw [show within (.int 0) 0 ((s.c + s.n : Int) - 1) = true from w0s W0.rk.ok] at c; cases c), fun _ _ _ H2 dd e2 w => hE dd H2 (e1.trans e2) w⟩
theorem ok_left (W0 : LwA T g.a g.p g.sh wl sl rr g.o cl st rr2 s n ways f H0) (gx : ∀ H', Gd K H' 0 g.x dx) (bx : within dx 0 ((n : Int) - 1) = false) :
    OkR T g H0 (fun E => tMeth T.c_Rack "left" (sp_Rack_left T) [] E (tVar 1) (tCons (tVar 8) tNil)) 0 g.x := fun u14 u15 u16 u17 H' u E Q hE =>
  mm_meth (W0.upT u).rk (ev_var rfl) (by decide +kernel) (by decide +kernel) (by decide +kernel) (by decide +kernel) (ea_1 (ev_var rfl)) fun H1 e1 => ⟨g.p, g.sh, wl, sl, rr, _, 0, _, _, rfl, (W0.upT u).rk.ex e1, gx H1,
    fun i ed hi => (by subst ed; have : within (.int (i : Int)) 0 ((n : Int) - 1) = true := (by have hi : i < n := hi; simp [within]; omega); rw [this] at bx; cases bx), fun _ H2 dd e2 w => hE dd H2 (e1.trans e2) w⟩
theorem ok_cell1 (W0 : LwA T g.a g.p g.sh wl sl rr g.o cl st rr2 s n ways f H0) (gx : ∀ H', Gd K H' 0 g.x dx) (gy : ∀ H', Gd K H' 0 g.y dy) (bx : within dx 0 ((n : Int) - 1) = false) :
    OkR T g H0 (fun E => tMeth T.c_Rack "cell" (sp_Rack_cell T) [] E (tVar 1) (tCons (tVar 8) (tCons (tVar 9) tNil))) 0 g.x := fun u14 u15 u16 u17 H' u E Q hE =>
  mm_meth (W0.upT u).rk (ev_var rfl) (by decide +kernel) (by decide +kernel) (by decide +kernel) (by decide +kernel) (ea_2 (ev_var rfl) (ev_var rfl)) fun H1 e1 => ⟨g.p, g.sh, wl, sl, rr, _, 0, 0, _, _, _, _, rfl, (W0.upT u).rk.ex e1, gx H1, gy H1,
    fun i j ed _ hi _ => (by subst ed; have : within (.int (i : Int)) 0 ((n : Int) - 1) = true := (by have hi : i < n := hi; simp [within]; omega); rw [this] at bx; cases bx), fun _ H2 dd e2 w => hE dd H2 (e1.trans e2) w,
    fun c => by rw [show within dx 0 ((n : Int) - 1) = true from c] at bx; cases bx⟩
theorem ok_cell2 (W0 : LwA T g.a g.p g.sh wl sl rr g.o cl st rr2 s n ways f H0) (gy : ∀ H', Gd K H' 0 g.y dy) (by_ : within dy 0 ((s.c + s.n : Int) - 1) = false) :
    OkR T g H0 (fun E => tMeth T.c_Rack "cell" (sp_Rack_cell T) [] E (tVar 1) (tCons (tC (.int 0)) (tCons (tVar 9) tNil))) 1 g.y := fun u14 u15 u16 u17 H' u E Q hE =>
  mm_meth (W0.upT u).rk (ev_var rfl) (by decide +kernel) (by decide +kernel) (by decide +kernel) (by decide +kernel) (ea_2 ev_c (ev_var rfl)) fun H1 e1 => ⟨g.p, g.sh, wl, sl, rr, _, 0, 0, _, _, .int 0, _, rfl, (W0.upT u).rk.ex e1, gd_int (by decide), gy H1,
    fun i j _ ed _ hj => (by subst ed; have : within (.int (j : Int)) 0 ((s.c + s.n : Int) - 1) = true := (by have hj : j < s.c + s.n := hj; simp [within]; omega); rw [this] at by_; cases by_),
    (fun c => by rw [show within (.int 0) 0 ((n : Int) - 1) = true from w0n W0.rk.r1.1] at c; cases c), fun _ _ H2 dd e2 w => hE dd H2 (e1.trans e2) w⟩
theorem ok_lose (W0 : LwA T g.a g.p g.sh wl sl rr g.o cl st rr2 s n ways f H0) (gy : ∀ H', Gd K H' 0 g.y dy) (by_ : within dy 0 ((s.c + s.n : Int) - 1) = false) :
    OkR T g H0 (fun E => tMeth T.c_Rack "lose" (sp_Rack_lose T) [] E (tVar 1) (tCons (tVar 9) tNil)) 1 g.y := fun u14 u15 u16 u17 H' u E Q hE =>
  mm_meth (W0.upT u).rk (ev_var rfl) (by decide +kernel) (by decide +kernel) (by decide +kernel) (by decide +kernel) (ea_1 (ev_var rfl)) fun H1 e1 => ⟨g.p, g.sh, wl, sl, rr, _, 0, _, _, rfl, (W0.upT u).rk.ex e1, gy H1,
    fun j ed hj => (by subst ed; have : within (.int (j : Int)) 0 ((s.c + s.n : Int) - 1) = true := (by have hj : j < s.c + s.n := hj; simp [within]; omega); rw [this] at by_; cases by_), fun _ H2 dd e2 w => hE dd H2 (e1.trans e2) w,
    fun j ed hj => by subst ed; have : within (.int (j : Int)) 0 ((s.c + s.n : Int) - 1) = true := (by have hj : j < s.c + s.n := hj; simp [within]; omega); rw [this] at by_; cases by_⟩
theorem ok_replace (W0 : LwA T g.a g.p g.sh wl sl rr g.o cl st rr2 s n ways f H0) (gy : ∀ H', Gd K H' 0 g.y dy) (by_ : within dy 0 ((s.c + s.n : Int) - 1) = false) :
    OkR T g H0 (fun E => tMeth T.c_Rack "replace" (sp_Rack_replace T) [] E (tVar 1) (tCons (tVar 9) tNil)) 1 g.y := fun u14 u15 u16 u17 H' u E Q hE =>
  mm_meth (W0.upT u).rk (ev_var rfl) (by decide +kernel) (by decide +kernel) (by decide +kernel) (by decide +kernel) (ea_1 (ev_var rfl)) fun H1 e1 => ⟨g.p, g.sh, wl, sl, rr, _, 0, _, _, rfl, (W0.upT u).rk.ex e1, gy H1,
    fun j ed hj => (by subst ed; have : within (.int (j : Int)) 0 ((s.c + s.n : Int) - 1) = true := (by have hj : j < s.c + s.n := hj; simp [within]; omega); rw [this] at by_; cases by_), fun _ H2 dd e2 w => hE dd H2 (e1.trans e2) w,
    fun j ed hj => by subst ed; have : within (.int (j : Int)) 0 ((s.c + s.n : Int) - 1) = true := (by have hj : j < s.c + s.n := hj; simp [within]; omega); rw [this] at by_; cases by_⟩
theorem ok_make {i : Nat} (W0 : LwA T g.a g.p g.sh wl sl rr g.o cl st rr2 s n ways f H0) {σ : L2.St} {H' : Hp} {x : V} (h3 : σ[3]? = some (some (.ref g.sh))) (hi : σ[i]? = some (some x)) (gx : ∀ H', Gd K H' 0 x dx) (bx : within dx 1 16 = false) (u : UpT g.a H0 H') {E : XK} {Q : VK} (hE : ∀ dd H'', Ex H' H'' → Wh H'' dd x → E (.ref (hC T 0)) (some dd) H'') :
    tMake T.c_Rack (sp_Rack_init T) [] E (tCons (tVar 3) (tCons (tVar i) tNil)) σ H' Q := by
  refine ⟨_, h3, _, hi, fun y d ny nd ne => ⟨y, d, g.sh, s, 0, x, dx, rfl, upd_same, ?_, W0.rk.ok, gx _, fun n' ed h1 h2 => ?_, fun _ H2 dd e2 w => hE dd H2 (Ex.trans ?_ e2) w⟩⟩
  · exact ((W0.upT u).rk.fS.ex (Ex.new nd)).ex (Ex.new (by rw [upd_ne ne.symm]; exact ny))
  · subst ed
    have : within (.int (n' : Int)) 1 16 = true := by simp [within]; omega
    rw [this] at bx
    cases bx
  · exact (Ex.new nd).trans (Ex.new (by rw [upd_ne ne.symm]; exact ny))
end
end
end My


set_option maxHeartbeats 1000000
namespace My
open PySem PySem.Spec PyProof.Rows L2 Own LamX
open Evl (Ex RetV)
section
variable {P : Program} {w : World} {K : PySem.W.Frag} {mg : Str → Option Value} {base : Heap}

open Evl
/-! ### refused right -/
def sp_law_refused_right (T : Txt K mg) : Sp := fun vs H Q _ => ∃ a p sh wl sl rr o cl st rr2 s n ways f, vs = [.ref a, .ref p, .ref o, .ref sh] ∧ LwA T a p sh wl sl rr o cl st rr2 s n ways f H ∧ Tabs T.tabs H ∧ ∀ H', UpT a H H' → Tabs T.tabs H' → Q (.bl true) H'
theorem len_law_refused_right (T : Txt K mg) {vs H Q E} (h : sp_law_refused_right T vs H Q E) : vs.length = 4 := by obtain ⟨_, _, _, _, _, _, _, _, _, _, _, _, _, _, rfl, _⟩ := h; rfl
theorem rowD_len {r : List PyData} {w : Nat} {p : Int} (h : r.length ≠ w) : rowD (.tuple r) w p = false := by
  have : decide ((r.length : Int) = (w : Int)) = false := decide_eq_false fun z => h (by omega)
  simp only [rowD, this, Bool.false_and]
theorem rowD_mem {r : List PyData} {w : Nat} {p : Int} (h : ∃ d ∈ r, within d 0 (p - 1) = false) : rowD (.tuple r) w p = false := by
  obtain ⟨d, hd, hb⟩ := h
  have : (r.all fun x => within x 0 (p - 1)) = false := by
    rw [List.all_eq_false]
    exact ⟨d, hd, by rw [hb]; simp⟩
  simp only [rowD, this, Bool.and_false]
theorem es_rest1 {a : Addr} {σ : L2.St} {H : Hp} {te : TE} {k : Nat} {ds : List PyData} (h : EvS a te σ H (PG K (k + 1) (.tuple ds))) (hm : 1 ≤ ds.length) : EvS a (tSl (rSlA K) te (tPart (tC (.int 1))) tNoPart) σ H (PG K (k + 1) (.tuple (ds.drop 1))) :=
  es_cutG (lo := some 1) (hi := none) h (fun H1 u Q q => ⟨1, rfl, q H1 (.refl u.src)⟩) (fun H1 u Q q => q H1 (.refl u.src)) (ds.drop 1) fun xs hx => ⟨1, ds.length, by rw [show (some (1 : Int)) = some ((1 : Nat) : Int) from rfl, cut_hi (by omega), List.take_of_length_le (by rw [List.length_drop]; omega)], by rw [List.take_of_length_le (by rw [List.length_drop]; omega)]⟩
def badNs : List V := [.int 0, .int 17, .int (-1), .non, .str "1"]
theorem badNs_at {H : Hp} {i : Nat} {x : V} (h : badNs[i]? = some x) : ∃ d, (∀ H', Gd K H' 0 x d) ∧ within d 1 16 = false := by
  match i, h with
  | 0, h => injection h with h; subst h; exact ⟨.int 0, fun _ => gd_int (by decide), by decide +kernel⟩
  | 1, h => injection h with h; subst h; exact ⟨.int 17, fun _ => gd_int (by decide), by decide +kernel⟩
  | 2, h => injection h with h; subst h; exact ⟨.int (-1), fun _ => gd_int (by decide), by decide +kernel⟩
  | 3, h => injection h with h; subst h; exact ⟨.none, fun _ => gd_non, by decide +kernel⟩
  | 4, h => injection h with h; subst h; exact ⟨.str "1", fun _ => gd_str (by decide +kernel), by decide +kernel⟩
  | i + 5, h => simp [badNs] at h
def t_law_refused_right (T : Txt K mg) (M : (XK → TE) → Addr → Addr → Heap → Prop) : TS := (tSeq (tPar3 4 5 6 (tCons (tCB (rLenV K) (tCons (tDGet (tVar 2) (tC (.str "cells"))) tNil)) (tCons (tCB (rLenV K) (tCons (tDGet (tVar 2) (tC (.str "states"))) tNil)) (tCons (tOp (rIxT K) (tVar 3) (tC (.int 0))) tNil)))) (tSeq (tAsg (tCall (sp_law_new_cell T) [] E0 (tCons (tVar 0) (tCons (tVar 3) tNil))) (gName 7)) (tSeq (tAsg (tTup (tCons (tCall (sp_law_one T) [] E0 (tCons (tVar 0) (tCons (tLst (tCons (tVar 4) (tCons (tUn rNegI (tC (.int 1))) (tCons (tC .non) (tCons (tC (.str "0")) tNil))))) tNil))) (tCons (tCall (sp_law_one T) [] E0 (tCons (tVar 0) (tCons (tLst (tCons (tVar 5) (tCons (tUn rNegI (tC (.int 1))) (tCons (tC .non) (tCons (tC (.str "0")) tNil))))) tNil))) tNil))) (gTup K 2 (gCons (gName 8) (gCons (gName 9) gNil)))) (tSeq (tAsg (tCall (sp_law_one T) [] E0 (tCons (tVar 0) (tCons (tLst (tCons (tC .non) (tCons (tC (.int 0)) (tCons (tSl (rSlA K) (tVar 7) (tPart (tC (.int 1))) tNoPart) (tCons (tOp (rCatA K) (tVar 7) (tTup (tCons (tC (.int 0)) tNil))) (tCons (tOp (rCatA K) (tTup (tCons (tVar 6) tNil)) (tSl (rSlA K) (tVar 7) (tPart (tC (.int 1))) tNoPart)) (tCons (tOp (rCatA K) (tTup (tCons (tUn rNegI (tC (.int 1))) tNil)) (tSl (rSlA K) (tVar 7) (tPart (tC (.int 1))) tNoPart)) (tCons (tOp (rCatA K) (tTup (tCons (tC .non) tNil)) (tSl (rSlA K) (tVar 7) (tPart (tC (.int 1))) tNoPart)) tNil)))))))) tNil))) (gName 10)) (tSeq (tPar3 11 12 13 (tCons (tLst (tCons (tC (.bl true)) (tCons (tC (.bl false)) (tCons (tC (.bl false)) tNil)))) (tCons (tLst (tCons (tC (.bl false)) (tCons (tC (.bl true)) (tCons (tC (.bl false)) tNil)))) (tCons (tLst (tCons (tC (.bl false)) (tCons (tC (.bl false)) (tCons (tC (.bl true)) tNil)))) tNil)))) (tSeq (tAsg (tLst (tCons (tTup (tCons (tLamV T.tabs (("_law_refused_right" ++ ".<locals>.") ++ "<lambda>") M (fun E => (tMeth T.c_Rack "put" (sp_Rack_put T) [] E (tVar 1) (tCons (tVar 8) (tCons (tVar 9) (tCons (tVar 10) tNil)))))) (tCons (tTup (tCons (tVar 11) (tCons (tVar 8) tNil))) tNil))) tNil)) (gName 14)) (tSeq (tDrop (tBM K "list" rAppend (tVar 14) (tCons (tTup (tCons (tLamV T.tabs (("_law_refused_right" ++ ".<locals>.") ++ "<lambda>") M (fun E => (tMeth T.c_Rack "put" (sp_Rack_put T) [] E (tVar 1) (tCons (tC (.int 0)) (tCons (tVar 9) (tCons (tVar 10) tNil)))))) (tCons (tTup (tCons (tVar 12) (tCons (tVar 9) tNil))) tNil))) tNil))) (tSeq (tDrop (tBM K "list" rAppend (tVar 14) (tCons (tTup (tCons (tLamV T.tabs (("_law_refused_right" ++ ".<locals>.") ++ "<lambda>") M (fun E => (tMeth T.c_Rack "put" (sp_Rack_put T) [] E (tVar 1) (tCons (tC (.int 0)) (tCons (tC (.int 0)) (tCons (tVar 10) tNil)))))) (tCons (tTup (tCons (tVar 13) (tCons (tC (.int 0)) tNil))) tNil))) tNil))) (tSeq (tDrop (tBM K "list" rAppend (tVar 14) (tCons (tTup (tCons (tLamV T.tabs (("_law_refused_right" ++ ".<locals>.") ++ "<lambda>") M (fun E => (tMeth T.c_Rack "left" (sp_Rack_left T) [] E (tVar 1) (tCons (tVar 8) tNil)))) (tCons (tTup (tCons (tVar 11) (tCons (tVar 8) tNil))) tNil))) tNil))) (tSeq (tDrop (tBM K "list" rAppend (tVar 14) (tCons (tTup (tCons (tLamV T.tabs (("_law_refused_right" ++ ".<locals>.") ++ "<lambda>") M (fun E => (tMeth T.c_Rack "cell" (sp_Rack_cell T) [] E (tVar 1) (tCons (tVar 8) (tCons (tVar 9) tNil))))) (tCons (tTup (tCons (tVar 11) (tCons (tVar 8) tNil))) tNil))) tNil))) (tSeq (tDrop (tBM K "list" rAppend (tVar 14) (tCons (tTup (tCons (tLamV T.tabs (("_law_refused_right" ++ ".<locals>.") ++ "<lambda>") M (fun E => (tMeth T.c_Rack "cell" (sp_Rack_cell T) [] E (tVar 1) (tCons (tC (.int 0)) (tCons (tVar 9) tNil))))) (tCons (tTup (tCons (tVar 12) (tCons (tVar 9) tNil))) tNil))) tNil))) (tSeq (tDrop (tBM K "list" rAppend (tVar 14) (tCons (tTup (tCons (tLamV T.tabs (("_law_refused_right" ++ ".<locals>.") ++ "<lambda>") M (fun E => (tMeth T.c_Rack "lose" (sp_Rack_lose T) [] E (tVar 1) (tCons (tVar 9) tNil)))) (tCons (tTup (tCons (tVar 12) (tCons (tVar 9) tNil))) tNil))) tNil))) (tSeq (tDrop (tBM K "list" rAppend (tVar 14) (tCons (tTup (tCons (tLamV T.tabs (("_law_refused_right" ++ ".<locals>.") ++ "<lambda>") M (fun E => (tMeth T.c_Rack "replace" (sp_Rack_replace T) [] E (tVar 1) (tCons (tVar 9) tNil)))) (tCons (tTup (tCons (tVar 12) (tCons (tVar 9) tNil))) tNil))) tNil))) (tSeq (tFor (iList K (tLst (tCons (tC (.int 0)) (tCons (tC (.int 17)) (tCons (tUn rNegI (tC (.int 1))) (tCons (tC .non) (tCons (tC (.str "1")) tNil))))))) (gName 15) (tIfS (tTest (tOp (rNeD K) (tLam T.tabs (THeard T) (fun E => (tMake T.c_Rack (sp_Rack_init T) [] E (tCons (tVar 3) (tCons (tVar 15) tNil))))) (tTup (tCons (tVar 11) (tCons (tVar 15) tNil))))) (tRet (tC (.bl false))) tNext)) (tSeq (tFor (iList K (tVar 14)) (gTup K 2 (gCons (gName 16) (gCons (gName 17) gNil))) (tIfS (tTest (tOp (rNeD K) (tLamN (("_law_refused_right" ++ ".<locals>.") ++ "<lambda>") (THeard T) M 16) (tVar 17))) (tRet (tC (.bl false))) tNext)) (tRet (tC (.bl true))))))))))))))))))

theorem pure_law_refused_right (T : Txt K mg) (M : (XK → TE) → Addr → Addr → Heap → Prop) {vs H Q} {E : XK} (h : sp_law_refused_right T vs H Q E) : t_law_refused_right T M { nx := fun _ H' => Q .non H', rt := Q } (L2.start n_law_refused_right vs) H := by
  obtain ⟨a, p, sh, wl, sl, rr, o, cl, st, rr2, s, n, ways, f, rfl, W, hT, q⟩ := h
  have r1 : 1 ≤ n ∧ n ≤ 16 := W.rk.r1
  have ok : s.Ok := W.rk.ok
  have on := ok.n; have oc : s.c ≤ 8 := ok.c; have ow := ok.w; have p0 := ok.p.1; have p1 := ok.p.2.1
  have rn2 := W.ow.rn
  have len1 : Ev (tCB (rLenV K) (tCons (tDGet (tVar 2) (tC (.str "cells"))) tNil)) (L2.start n_law_refused_right [.ref a, .ref p, .ref o, .ref sh]) H (.int (n : Int)) := by
    have := ev_lenL (K := K) (σ := L2.start n_law_refused_right [.ref a, .ref p, .ref o, .ref sh]) (ta := tDGet (tVar 2) (tC (.str "cells"))) (ow_cells W.ow (ev_var rfl)) (sq_of W.ow.fL)
    rw [List.length_map, rn2] at this
    exact this
  have len2 : Ev (tCB (rLenV K) (tCons (tDGet (tVar 2) (tC (.str "states"))) tNil)) (L2.start n_law_refused_right [.ref a, .ref p, .ref o, .ref sh]) H (.int ((s.c + s.n : Nat) : Int)) := by
    have := ev_lenL (K := K) (σ := L2.start n_law_refused_right [.ref a, .ref p, .ref o, .ref sh]) (ta := tDGet (tVar 2) (tC (.str "states"))) (ow_states W.ow (ev_var rfl)) (sq_of W.ow.fS)
    rw [List.length_map, W.ow.wn] at this
    exact this
  refine s_par3 (D := { nx := _, rt := _, bk := _, ct := _ }) (ea_3 len1 len2 (sh_p W.rk.fS (ev_var rfl))) fun H1 e1 => ?_
  have W1 := W.up (.ex e1 W.src)
  have T1 := hT.ext e1
  show tSeq _ _ _ [some (.ref a), some (.ref p), some (.ref o), some (.ref sh), some (.int (n : Int)), some (.int ((s.c + s.n : Nat) : Int)), some (.int s.p), none, none, none, none, none, none, none, none, none, none, none] H1
  -- the cell
  refine ⟨_, rfl, _, rfl, a, sh, s, rfl, W1.src, W1.rk.fS, ok, fun v H2 u2 ⟨cb, r, ev, hcb, hrl, hrb⟩ => ?_⟩
  subst ev
  have W2 := W1.up u2
  have T2 := tabs_up T1 u2 W1.src
  show tSeq _ _ _ [some (.ref a), some (.ref p), some (.ref o), some (.ref sh), some (.int (n : Int)), some (.int ((s.c + s.n : Nat) : Int)), some (.int s.p), some (.ref cb), none, none, none, none, none, none, none, none, none, none] H2
  have neg : ∀ {σ : L2.St} {H' : Hp}, EvS a (tUn rNegI (tC (.int 1))) σ H' (PG K 0 (.int (-1))) := es_evG (v := .int (-1)) (fun H1 u => ev_negI ev_c) fun H1 u => gd_int (by decide)
  have gN : ∀ {k : Nat} {H' : Hp}, k ≤ 16 → Gd K H' 0 (.int (k : Int)) (.int (k : Int)) := fun h => gd_int (by rw [Int.natAbs_natCast]; omega)
  have bN : ∀ k : Nat, within (.int (k : Int)) 0 ((k : Int) - 1) = false := fun k => by simp [within]; omega
  -- what is no row, no shelf
  refine ss_tupPQ (D := { nx := _, rt := _, bk := _, ct := _ }) (P := PBad K 0 fun d => within d 0 ((n : Int) - 1) = false) (R := PBad K 0 fun d => within d 0 ((s.c + s.n : Int) - 1) = false) W2.src
    (es_one (K := K) (s0 := 0) rfl (es_lst (n := 4) (ea_consS (es_bad (es_varG rfl (gN r1.2) W2.src) (bN n)) (ea_consS (es_bad neg (by simp [within])) (ea_consS (es_bad es_nonG rfl) (ea_consS (es_bad (es_strG (by decide +kernel)) rfl) ea_nilS monoK_bad.up) monoK_bad.up) monoK_bad.up) monoK_bad.up) (by decide) monoK_bad.up) (by decide) (by decide) monoK_bad.up)
    (es_one (K := K) (s0 := 0) rfl (es_lst (n := 4) (ea_consS (es_bad (es_varG rfl (gN (k := s.c + s.n) (by omega)) W2.src) (by simp [within]; omega)) (ea_consS (es_bad neg (by simp [within])) (ea_consS (es_bad es_nonG rfl) (ea_consS (es_bad (es_strG (by decide +kernel)) rfl) ea_nilS monoK_bad.up) monoK_bad.up) monoK_bad.up) monoK_bad.up) (by decide) monoK_bad.up) (by decide) (by decide) monoK_bad.up)
    monoK_bad.up fun x y H3 H4 u3 e4 ⟨dx, gx0, bx⟩ ⟨dy, gy0, by_⟩ => ?_
  have u24 := u3.trans (.ex e4 u3.src)
  have W4 := W2.up u24
  have T4 := tabs_up T2 u24 W2.src
  have gx : ∀ H', Gd K H' 0 x dx := fun H' => gd0_any gx0
  have gy : ∀ H', Gd K H' 0 y dy := fun H' => gd0_any gy0
  show tSeq _ _ _ [some (.ref a), some (.ref p), some (.ref o), some (.ref sh), some (.int (n : Int)), some (.int ((s.c + s.n : Nat) : Int)), some (.int s.p), some (.ref cb), some x, some y, none, none, none, none, none, none, none, none] H4
  -- what is no cell
  have gr : Gd K H4 1 (.ref cb) (.tuple (r.map PyData.int)) := gd_ints (u24.sqT W2.src hcb) (by omega) fun x hx => by have := hrb x hx; omega
  have dl : (r.map PyData.int).length = s.w := by rw [List.length_map, hrl]
  have lr : ((r.map PyData.int).drop 1).length = s.w - 1 := by rw [List.length_drop, dl]
  have bd : ∀ {k : Nat} {d : PyData} {te : TE} {σ : L2.St} {H' : Hp}, EvS a te σ H' (PG K k d) → k ≤ 1 → rowD d s.w s.p = false → EvS a te σ H' (PBad K 1 fun d => rowD d s.w s.p = false) := fun h hk h1 => es_bad (es_upG h hk) h1
  have vC : ∀ {σ : L2.St}, σ[7]? = some (some (.ref cb)) → EvS a (tVar 7) σ H4 (PG K 1 (.tuple (r.map PyData.int))) := fun e => es_varG e gr W4.src
  have vR : ∀ {σ : L2.St}, σ[7]? = some (some (.ref cb)) → EvS a (tSl (rSlA K) (tVar 7) (tPart (tC (.int 1))) tNoPart) σ H4 (PG K 1 (.tuple ((r.map PyData.int).drop 1))) := fun e => es_rest1 (vC e) (by omega)
  have mk : Mono a (PBad K 1 fun d => rowD d s.w s.p = false) := monoK_bad.up
  refine ss_asg (i := 10) W4.src (es_one (K := K) (s0 := 0) (P := PBad K 1 fun d => rowD d s.w s.p = false) rfl (es_lst (n := 7)
    (ea_consS (bd es_nonG (by decide) rfl)
    (ea_consS (bd (es_intG (by decide)) (by decide) rfl)
    (ea_consS (bd (vR rfl) (by decide) (rowD_len (by omega)))
    (ea_consS (bd (es_catG (vC rfl) (es_tup1G (es_intG (by decide))) (by rw [dl]; show s.w + 1 ≤ 20; omega)) (by decide) (rowD_len (by rw [List.length_append, dl]; show s.w + 1 ≠ s.w; omega)))
    (ea_consS (bd (es_catG (es_tup1G (es_varG (v := .int s.p) (d := .int s.p) rfl (gd_int (by omega)) W4.src)) (vR rfl) (by rw [lr]; show 1 + _ ≤ 20; omega)) (by decide) (rowD_mem ⟨.int s.p, List.mem_append.mpr (.inl List.mem_cons_self), by simp [within]; omega⟩))
    (ea_consS (bd (es_catG (es_tup1G neg) (vR rfl) (by rw [lr]; show 1 + _ ≤ 20; omega)) (by decide) (rowD_mem ⟨.int (-1), List.mem_append.mpr (.inl List.mem_cons_self), by simp [within]⟩))
    (ea_consS (bd (es_catG (es_tup1G es_nonG) (vR rfl) (by rw [lr]; show 1 + _ ≤ 20; omega)) (by decide) (rowD_mem ⟨.none, List.mem_append.mpr (.inl List.mem_cons_self), rfl⟩))
    ea_nilS mk) mk) mk) mk) mk) mk) mk) (by decide) mk) (by decide) (by decide) mk) fun z H5 u5 ⟨dz, gz5, bz⟩ => ?_
  have W5 := W4.up u5
  have T5 := tabs_up T4 u5 W4.src
  show tSeq _ _ _ [some (.ref a), some (.ref p), some (.ref o), some (.ref sh), some (.int (n : Int)), some (.int ((s.c + s.n : Nat) : Int)), some (.int s.p), some (.ref cb), some x, some y, some z, none, none, none, none, none, none, none] H5
  -- the classes
  refine s_par3L (D := { nx := _, rt := _, bk := _, ct := _ }) (el_lst (vs := LB 0) (ea_3 ev_c ev_c ev_c) (by show 3 ≤ 100000; decide)) (el_lst (vs := LB 1) (ea_3 ev_c ev_c ev_c) (by show 3 ≤ 100000; decide)) (el_lst (vs := LB 2) (ea_3 ev_c ev_c ev_c) (by show 3 ≤ 100000; decide)) fun l1 l2 l3 H6 n1 n2 n3 e6 h1 h2 h3 => ?_
  have W6 := W5.up (.ex e6 W5.src)
  have T6 := T5.ext e6
  have gz6 : Gd K H6 1 z dz := gz5.ex e6
  have uH : UpT a H H6 := (UpT.ex W.src e1).trans ((UpT.of u2).trans ((UpT.of u24).trans ((UpT.of u5).trans (UpT.ex u5.src e6))))
  have na : ∀ c, (SgP.lc ⟨a, p, o, sh, n, s.c + s.n, s.p, cb, x, y, z, l1, l2, l3⟩ c) ≠ a := fun c => by
    match c with
    | 0 => exact W5.src.new n1
    | 1 => exact W5.src.new n2
    | c + 2 => exact W5.src.new n3
  have hlb : ∀ c, c < 3 → H6 (SgP.lc ⟨a, p, o, sh, n, s.c + s.n, s.p, cb, x, y, z, l1, l2, l3⟩ c) = some (.lst (LB c)) := fun c hc => by
    match c, hc with
    | 0, _ => exact h1
    | 1, _ => exact h2
    | 2, _ => exact h3
  obtain ⟨g, hg⟩ : ∃ g : SgP, g = ⟨a, p, o, sh, n, s.c + s.n, s.p, cb, x, y, z, l1, l2, l3⟩ := ⟨_, rfl⟩
  rw [← hg] at na hlb
  have W0 : LwA T g.a g.p g.sh wl sl rr g.o cl st rr2 s n ways f H6 := by rw [hg]; exact W6
  have gx' : ∀ H', Gd K H' 0 g.x dx := by rw [hg]; exact gx
  have gy' : ∀ H', Gd K H' 0 g.y dy := by rw [hg]; exact gy
  have gz' : Gd K H6 1 g.z dz := by rw [hg]; exact gz6
  have by' : within dy 0 ((s.c + s.n : Int) - 1) = false := by_
  have ea : a = g.a := by rw [hg]
  have hσ : (((([some (.ref a), some (.ref p), some (.ref o), some (.ref sh), some (.int (n : Int)), some (.int ((s.c + s.n : Nat) : Int)), some (.int s.p), some (.ref cb), some x, some y, some z, none, none, none, none, none, none, none] : L2.St).set 11 (some (.ref l1))).set 12 (some (.ref l2))).set 13 (some (.ref l3))) = SgP.st ⟨a, p, o, sh, n, s.c + s.n, s.p, cb, x, y, z, l1, l2, l3⟩ none none none none := rfl
  dsimp only
  rw [hσ]
  rw [← hg]
  rw [ea] at na uH
  refine q_dueL (M := M) (c := 0) T6 W0.src rfl (fun H1 => ev_var rfl) (by decide) (ok_put1 W0 gx' gy' gz' bx) gx' fun dl7 H7 L7 => ?_
  refine q_due (c := 1) L7 (by decide) rfl (fun H1 => ev_var rfl) (by decide) (ok_put2 W0 gy' gz' by') gy' fun H8 L8 => ?_
  refine q_due (c := 2) L8 (by decide) rfl (fun H1 => ev_c) (by decide) (ok_put3 W0 gz' bz) (fun H' => gd_int (by decide)) fun H9 L9 => ?_
  refine q_due (c := 0) L9 (by decide) rfl (fun H1 => ev_var rfl) (by decide) (ok_left W0 gx' bx) gx' fun H10 L10 => ?_
  refine q_due (c := 0) L10 (by decide) rfl (fun H1 => ev_var rfl) (by decide) (ok_cell1 W0 gx' gy' bx) gx' fun H11 L11 => ?_
  refine q_due (c := 1) L11 (by decide) rfl (fun H1 => ev_var rfl) (by decide) (ok_cell2 W0 gy' by') gy' fun H12 L12 => ?_
  refine q_due (c := 1) L12 (by decide) rfl (fun H1 => ev_var rfl) (by decide) (ok_lose W0 gy' by') gy' fun H13 L13 => ?_
  refine q_due (c := 1) L13 (by decide) rfl (fun H1 => ev_var rfl) (by decide) (ok_replace W0 gy' by') gy' fun H14 L14 => ?_
  -- numbers of rows that are none
  refine q_forNLn (K := K) (xs := badNs) (el_lst (ea_cons ev_c (ea_cons ev_c (ea_cons (ev_negI ev_c) (ea_cons ev_c (ea_cons ev_c ea_nil))))) (by show 5 ≤ 100000; decide))
    (fun lp i σ' H' => ∃ u15, σ' = g.st (some (.ref dl7)) u15 none none ∧ DL T g M H6 dl7 8 H' ∧ H' lp = some (.lst badNs) ∧ lp ≠ g.a)
    (fun lp H15 np e15 hp => ⟨_, rfl, L14.up (UpT.ex L14.u.src e15) (L14.tb.ext e15), hp, L14.u.src.new np⟩) (fun lp i σ' H' _ ⟨_, _, _, h, _⟩ => sq_of h) ?_ ?_
  · rintro lp i x' σ' H' hx ⟨u15, rfl, L, hp, np⟩
    obtain ⟨d', gd', bd'⟩ := badNs_at (K := K) (H := H') hx
    exact heard_core (T := T) (c := 0) (x := x') (lc := g.lc 0) (dx := d') L.u.src (na 0) (L.u.lst (na 0) (hlb 0 (by decide))) gd' (heard_lam L.tb L.u.src (by decide) fun H1 u1 E Qv hE => ok_make W0 rfl rfl gd' bd' (L.u.trans u1) hE)
      (fun H1 u1 Q' q' => ⟨_, rfl, _, rfl, by show 2 ≤ sizeLine; decide, fun t nt => q' t _ (Ex.new nt) upd_same⟩) fun H1 u1 t1 => ⟨_, rfl, L.up u1 t1, u1.lst np hp, np⟩
  rintro lp σ' H15 ⟨u15, rfl, L15, _, _⟩
  -- each that is due
  obtain ⟨vs, hvs, _, hdue⟩ := L15.all
  refine q_forL (K := K) (xs := vs) (ev_var (i := 14) rfl) (sq_of hvs) (fun i σ' H' => ∃ u16 u17, σ' = g.st (some (.ref dl7)) u15 u16 u17 ∧ UpT g.a H15 H' ∧ Tabs T.tabs H') (fun H16 e16 => ⟨_, _, rfl, UpT.ex L15.u.src e16, L15.tb.ext e16⟩) (fun i σ' H' _ ⟨_, _, _, u, _⟩ => sq_of (u.lst L15.nd hvs)) ?_ ?_
  · rintro i v σ' H' hv ⟨u16, u17, rfl, u, t⟩
    obtain ⟨t2, f', d', t1, r', c, x', dx', rfl, k1, k2, k3, k4, hc, okr, gd'⟩ := due_kp v _ _ (u.kp L15.u.src) (hdue v (List.mem_of_getElem? hv))
    refine ⟨t2, _, rfl, st_of k1, rfl, _, _, rfl, _, _, rfl, rfl, ?_⟩
    have U := L15.u.trans u
    exact heard_core (T := T) (c := c) (x := x') (lc := g.lc c) (dx := dx') u.src (na c) (U.lst (na c) (hlb c hc)) gd' (heard_name (M := M) (i := 16) (f := f') (d := d') (r := r') t u.src hc rfl k3 k4 fun E Qv hE => okr _ _ _ _ H' U E Qv hE)
      (fun H1 u1 Q' q' => ⟨_, rfl, q' t1 H1 (.refl H1) (u1.keep t1 _ (u.src.at k2 fun _ z => by cases z) k2 fun _ z => by cases z)⟩) fun H1 u1 t1 => ⟨_, _, rfl, u.trans u1, t1⟩
  · rintro σ' H16 ⟨u16, u17, rfl, u, t⟩
    exact s_ret (ev_c (v := .bl true)) fun H17 e17 => q H17 (by rw [ea]; exact uH.trans (L15.u.trans (u.trans (UpT.ex u.src e17)))) (t.ext e17)
theorem ok_law_refused_right (T : Txt K mg) (B : Bt T base) : FnG P w K mg base CX0 10 T.f_law_refused_right T.fd_law_refused_right ["_law_source", "_law_rack", "_law_own", "_law_shape"] (sp_law_refused_right T) :=
  fnG_okC T.FC_law_refused_right sc_law_refused_right (fun vs H Q E h => len_law_refused_right T h) fun A outer s H vs Q E hg hr h => ⟨t_law_refused_right T (LamM (cxOf CX0 P w K mg base n_law_refused_right "_law_refused_right" (defScope s_law_refused_right) T.f_law_refused_right (.ref T.cc_law_refused_right) A outer s H E).nox 7), by
    exact (pss_cons (ps_par3 (i := 4) (j := 5) (l := 6) rfl sc_law_refused_right.nd rfl rfl rfl (by decide) (by decide) (by decide) rfl rfl rfl (pa_cons (pe_callB call_len (by rfl) T.m_len (by decide +kernel) (pa_cons (pe_dget hr.units1 (pv 2) pe_str (fun _ _ => rfl)) pa_nil)) (pa_cons (pe_callB call_len (by rfl) T.m_len (by decide +kernel) (pa_cons (pe_dget hr.units1 (pv 2) pe_str (fun _ _ => rfl)) pa_nil)) (pa_cons (pe_ix ix_tup (pv 3) pe_int (fun _ _ => rfl)) pa_nil))) (by rfl)) (pss_cons (ps_set (i := 7) sc_law_refused_right.nd rfl (Or.inl rfl) (pe_call (ok_law_new_cell T) (hr.mono (by decide)) (by rfl) T.d_law_new_cell.g T.d_law_new_cell.F.kp T.d_law_new_cell.b .nil pass0 (pa_cons (pv 0) (pa_cons (pv 3) pa_nil)))) (pss_cons (ps_asg (pe_tup (pa_cons (pe_call (ok_law_one T) (hr.mono (by decide)) (by rfl) T.d_law_one.g T.d_law_one.F.kp T.d_law_one.b .nil pass0 (pa_cons (pv 0) (pa_cons (pe_lst (pa_cons (pv 4) (pa_cons (pe_un un_neg pe_int) (pa_cons pe_non (pa_cons pe_str pa_nil))))) pa_nil))) (pa_cons (pe_call (ok_law_one T) (hr.mono (by decide)) (by rfl) T.d_law_one.g T.d_law_one.F.kp T.d_law_one.b .nil pass0 (pa_cons (pv 0) (pa_cons (pe_lst (pa_cons (pv 5) (pa_cons (pe_un un_neg pe_int) (pa_cons pe_non (pa_cons pe_str pa_nil))))) pa_nil))) pa_nil))) (pg_tup rfl (pgs_cons (pg_name (i := 8) sc_law_refused_right.nd rfl (Or.inr rfl)) (pgs_cons (pg_name (i := 9) sc_law_refused_right.nd rfl (Or.inr rfl)) pgs_nil)))) (pss_cons (ps_set (i := 10) sc_law_refused_right.nd rfl (Or.inr rfl) (pe_call (ok_law_one T) (hr.mono (by decide)) (by rfl) T.d_law_one.g T.d_law_one.F.kp T.d_law_one.b .nil pass0 (pa_cons (pv 0) (pa_cons (pe_lst (pa_cons pe_non (pa_cons pe_int (pa_cons (pe_slice sl_tupA (pv 7) (po_some pe_int) po_none) (pa_cons (pe_op op_catA (pv 7) (pe_tup (pa_cons pe_int pa_nil))) (pa_cons (pe_op op_catA (pe_tup (pa_cons (pv 6) pa_nil)) (pe_slice sl_tupA (pv 7) (po_some pe_int) po_none)) (pa_cons (pe_op op_catA (pe_tup (pa_cons (pe_un un_neg pe_int) pa_nil)) (pe_slice sl_tupA (pv 7) (po_some pe_int) po_none)) (pa_cons (pe_op op_catA (pe_tup (pa_cons pe_non pa_nil)) (pe_slice sl_tupA (pv 7) (po_some pe_int) po_none)) pa_nil)))))))) pa_nil)))) (pss_cons (ps_par3 (i := 11) (j := 12) (l := 13) rfl sc_law_refused_right.nd rfl rfl rfl (by decide) (by decide) (by decide) rfl rfl rfl (pa_cons (pe_lst (pa_cons pe_bl (pa_cons pe_bl (pa_cons pe_bl pa_nil)))) (pa_cons (pe_lst (pa_cons pe_bl (pa_cons pe_bl (pa_cons pe_bl pa_nil)))) (pa_cons (pe_lst (pa_cons pe_bl (pa_cons pe_bl (pa_cons pe_bl pa_nil)))) pa_nil))) (by rfl)) (pss_cons (ps_set (i := 14) sc_law_refused_right.nd rfl (Or.inl rfl) (pe_lst (pa_cons (pe_tup (pa_cons (pe_lamV (k := 7) (T := T.tabs) (r := fun E => (tMeth T.c_Rack "put" (sp_Rack_put T) [] E (tVar 1) (tCons (tVar 8) (tCons (tVar 9) (tCons (tVar 10) tNil))))) B.tb_law_refused_right rfl T.mem_law_refused_right T.one_law_refused_right (lamS_by (sc := defScope s_law_refused_right) (by decide +kernel)) rfl (fun _ _ _ _ _ => rfl) (fun A outer s H E f c' hrl => (pe_meth (pv 1) T.cl_Rack T.d_Rack_put.m (ok_Rack_put T) (hrl.mono (by decide)) T.d_Rack_put.b .nil (passes_call (takes_of rfl rfl rfl rfl) fun _ _ _ _ h => h) (pa_cons (pv 8) (pa_cons (pv 9) (pa_cons (pv 10) pa_nil)))))) (pa_cons (pe_tup (pa_cons (pv 11) (pa_cons (pv 8) pa_nil))) pa_nil))) pa_nil))) (pss_cons (ps_expr (pe_bm PySem.F.plainAttrs_list PySem.F.slot_list_append PySem.F.type_list_append mt_append (pv 14) (pa_cons (pe_tup (pa_cons (pe_lamV (k := 7) (T := T.tabs) (r := fun E => (tMeth T.c_Rack "put" (sp_Rack_put T) [] E (tVar 1) (tCons (tC (.int 0)) (tCons (tVar 9) (tCons (tVar 10) tNil))))) B.tb_law_refused_right rfl T.mem_law_refused_right T.one_law_refused_right (lamS_by (sc := defScope s_law_refused_right) (by decide +kernel)) rfl (fun _ _ _ _ _ => rfl) (fun A outer s H E f c' hrl => (pe_meth (pv 1) T.cl_Rack T.d_Rack_put.m (ok_Rack_put T) (hrl.mono (by decide)) T.d_Rack_put.b .nil (passes_call (takes_of rfl rfl rfl rfl) fun _ _ _ _ h => h) (pa_cons pe_int (pa_cons (pv 9) (pa_cons (pv 10) pa_nil)))))) (pa_cons (pe_tup (pa_cons (pv 12) (pa_cons (pv 9) pa_nil))) pa_nil))) pa_nil))) (pss_cons (ps_expr (pe_bm PySem.F.plainAttrs_list PySem.F.slot_list_append PySem.F.type_list_append mt_append (pv 14) (pa_cons (pe_tup (pa_cons (pe_lamV (k := 7) (T := T.tabs) (r := fun E => (tMeth T.c_Rack "put" (sp_Rack_put T) [] E (tVar 1) (tCons (tC (.int 0)) (tCons (tC (.int 0)) (tCons (tVar 10) tNil))))) B.tb_law_refused_right rfl T.mem_law_refused_right T.one_law_refused_right (lamS_by (sc := defScope s_law_refused_right) (by decide +kernel)) rfl (fun _ _ _ _ _ => rfl) (fun A outer s H E f c' hrl => (pe_meth (pv 1) T.cl_Rack T.d_Rack_put.m (ok_Rack_put T) (hrl.mono (by decide)) T.d_Rack_put.b .nil (passes_call (takes_of rfl rfl rfl rfl) fun _ _ _ _ h => h) (pa_cons pe_int (pa_cons pe_int (pa_cons (pv 10) pa_nil)))))) (pa_cons (pe_tup (pa_cons (pv 13) (pa_cons pe_int pa_nil))) pa_nil))) pa_nil))) (pss_cons (ps_expr (pe_bm PySem.F.plainAttrs_list PySem.F.slot_list_append PySem.F.type_list_append mt_append (pv 14) (pa_cons (pe_tup (pa_cons (pe_lamV (k := 7) (T := T.tabs) (r := fun E => (tMeth T.c_Rack "left" (sp_Rack_left T) [] E (tVar 1) (tCons (tVar 8) tNil))) B.tb_law_refused_right rfl T.mem_law_refused_right T.one_law_refused_right (lamS_by (sc := defScope s_law_refused_right) (by decide +kernel)) rfl (fun _ _ _ _ _ => rfl) (fun A outer s H E f c' hrl => (pe_meth (pv 1) T.cl_Rack T.d_Rack_left.m (ok_Rack_left T) (hrl.mono (by decide)) T.d_Rack_left.b .nil (passes_call (takes_of rfl rfl rfl rfl) fun _ _ _ _ h => h) (pa_cons (pv 8) pa_nil)))) (pa_cons (pe_tup (pa_cons (pv 11) (pa_cons (pv 8) pa_nil))) pa_nil))) pa_nil))) (pss_cons (ps_expr (pe_bm PySem.F.plainAttrs_list PySem.F.slot_list_append PySem.F.type_list_append mt_append (pv 14) (pa_cons (pe_tup (pa_cons (pe_lamV (k := 7) (T := T.tabs) (r := fun E => (tMeth T.c_Rack "cell" (sp_Rack_cell T) [] E (tVar 1) (tCons (tVar 8) (tCons (tVar 9) tNil)))) B.tb_law_refused_right rfl T.mem_law_refused_right T.one_law_refused_right (lamS_by (sc := defScope s_law_refused_right) (by decide +kernel)) rfl (fun _ _ _ _ _ => rfl) (fun A outer s H E f c' hrl => (pe_meth (pv 1) T.cl_Rack T.d_Rack_cell.m (ok_Rack_cell T) (hrl.mono (by decide)) T.d_Rack_cell.b .nil (passes_call (takes_of rfl rfl rfl rfl) fun _ _ _ _ h => h) (pa_cons (pv 8) (pa_cons (pv 9) pa_nil))))) (pa_cons (pe_tup (pa_cons (pv 11) (pa_cons (pv 8) pa_nil))) pa_nil))) pa_nil))) (pss_cons (ps_expr (pe_bm PySem.F.plainAttrs_list PySem.F.slot_list_append PySem.F.type_list_append mt_append (pv 14) (pa_cons (pe_tup (pa_cons (pe_lamV (k := 7) (T := T.tabs) (r := fun E => (tMeth T.c_Rack "cell" (sp_Rack_cell T) [] E (tVar 1) (tCons (tC (.int 0)) (tCons (tVar 9) tNil)))) B.tb_law_refused_right rfl T.mem_law_refused_right T.one_law_refused_right (lamS_by (sc := defScope s_law_refused_right) (by decide +kernel)) rfl (fun _ _ _ _ _ => rfl) (fun A outer s H E f c' hrl => (pe_meth (pv 1) T.cl_Rack T.d_Rack_cell.m (ok_Rack_cell T) (hrl.mono (by decide)) T.d_Rack_cell.b .nil (passes_call (takes_of rfl rfl rfl rfl) fun _ _ _ _ h => h) (pa_cons pe_int (pa_cons (pv 9) pa_nil))))) (pa_cons (pe_tup (pa_cons (pv 12) (pa_cons (pv 9) pa_nil))) pa_nil))) pa_nil))) (pss_cons (ps_expr (pe_bm PySem.F.plainAttrs_list PySem.F.slot_list_append PySem.F.type_list_append mt_append (pv 14) (pa_cons (pe_tup (pa_cons (pe_lamV (k := 7) (T := T.tabs) (r := fun E => (tMeth T.c_Rack "lose" (sp_Rack_lose T) [] E (tVar 1) (tCons (tVar 9) tNil))) B.tb_law_refused_right rfl T.mem_law_refused_right T.one_law_refused_right (lamS_by (sc := defScope s_law_refused_right) (by decide +kernel)) rfl (fun _ _ _ _ _ => rfl) (fun A outer s H E f c' hrl => (pe_meth (pv 1) T.cl_Rack T.d_Rack_lose.m (ok_Rack_lose T) (hrl.mono (by decide)) T.d_Rack_lose.b .nil (passes_call (takes_of rfl rfl rfl rfl) fun _ _ _ _ h => h) (pa_cons (pv 9) pa_nil)))) (pa_cons (pe_tup (pa_cons (pv 12) (pa_cons (pv 9) pa_nil))) pa_nil))) pa_nil))) (pss_cons (ps_expr (pe_bm PySem.F.plainAttrs_list PySem.F.slot_list_append PySem.F.type_list_append mt_append (pv 14) (pa_cons (pe_tup (pa_cons (pe_lamV (k := 7) (T := T.tabs) (r := fun E => (tMeth T.c_Rack "replace" (sp_Rack_replace T) [] E (tVar 1) (tCons (tVar 9) tNil))) B.tb_law_refused_right rfl T.mem_law_refused_right T.one_law_refused_right (lamS_by (sc := defScope s_law_refused_right) (by decide +kernel)) rfl (fun _ _ _ _ _ => rfl) (fun A outer s H E f c' hrl => (pe_meth (pv 1) T.cl_Rack T.d_Rack_replace.m (ok_Rack_replace T) (hrl.mono (by decide)) T.d_Rack_replace.b .nil (passes_call (takes_of rfl rfl rfl rfl) fun _ _ _ _ h => h) (pa_cons (pv 9) pa_nil)))) (pa_cons (pe_tup (pa_cons (pv 12) (pa_cons (pv 9) pa_nil))) pa_nil))) pa_nil))) (pss_cons (ps_for PassesOwn.never rfl (pi_list (pe_lst (pa_cons pe_int (pa_cons pe_int (pa_cons (pe_un un_neg pe_int) (pa_cons pe_non (pa_cons pe_str pa_nil))))))) (pg_name (i := 15) sc_law_refused_right.nd rfl (Or.inr rfl)) (pss_one (ps_if (pt_cmpR (op_neD hr.units) (pe_lamF (k := 7) (T := T.tabs) (TT := THeard T) (t := fun E => (tMake T.c_Rack (sp_Rack_init T) [] E (tCons (tVar 3) (tCons (tVar 15) tNil)))) T.d_law_heard.F (by rfl) T.d_law_heard.g T.d_law_heard.b sc_law_heard rfl (Or.inl rfl) (fun cdg => gives_law_heard (X := (cxOf CX0 P w K mg base n_law_refused_right "_law_refused_right" (defScope s_law_refused_right) T.f_law_refused_right (.ref T.cc_law_refused_right) A outer s H E).nox) T cdg _) B.tb_law_refused_right rfl T.mem_law_refused_right T.one_law_refused_right (hr.mono (by decide)) (lamS_by (sc := defScope s_law_refused_right) (by decide +kernel)) rfl (fun _ _ _ _ _ => rfl) (fun A outer s H E f c' hrl => (pe_make T.mk_Rack (ok_Rack_init T) (hrl.mono (by decide)) (by rfl) T.g_Rack T.d_Rack_init.b .nil (passes_call (takes_of rfl rfl rfl rfl) fun _ _ _ _ h => h) (pa_cons (pv 3) (pa_cons (pv 15) pa_nil))))) (pe_tup (pa_cons (pv 11) (pa_cons (pv 15) pa_nil))) (nomark _)) (pss_one (ps_ret pe_bl)) pss_nil))) (pss_cons (ps_for PassesOwn.never rfl (pi_list (pv 14)) (pg_tup rfl (pgs_cons (pg_name (i := 16) sc_law_refused_right.nd rfl (Or.inl rfl)) (pgs_cons (pg_name (i := 17) sc_law_refused_right.nd rfl (Or.inl rfl)) pgs_nil))) (pss_one (ps_if (pt_cmpR (op_neD hr.units) (pe_lamN (k := 7) (i := 16) (TT := THeard T) T.d_law_heard.F (by rfl) T.d_law_heard.g T.d_law_heard.b sc_law_heard rfl (Or.inl rfl) (fun cdg => gives_law_heard (X := (cxOf CX0 P w K mg base n_law_refused_right "_law_refused_right" (defScope s_law_refused_right) T.f_law_refused_right (.ref T.cc_law_refused_right) A outer s H E).nox) T cdg _) (hr.mono (by decide)) (pa_cons (pv 16) pa_nil)) (pv 17) (nomark _)) (pss_one (ps_ret pe_bl)) pss_nil))) (pss_one (ps_ret pe_bl))))))))))))))))), pure_law_refused_right T _ h⟩

end
end My


set_option maxHeartbeats 1000000
namespace My
open PySem PySem.Spec PyProof.Rows L2 Own LamX
open Evl (Ex RetV)
section
variable {P : Program} {w : World} {K : PySem.W.Frag} {mg : Str → Option Value} {base : Heap}

open Evl
/-! ### the law -/
theorem ex_ofG {σ : L2.St} {H : Hp} {te : TE} {v : V} {k : Nat} {d : PyData} (h : Ev te σ H v) (g : Gd K H k v d) : EvX te σ H (PD K k d) := fun H1 e Q q => h H1 e _ fun H2 e2 => q v H2 e2 (g.ex (e.trans e2))
theorem v_is_alike {T : Txt K mg} {p sh wl sl : Addr} {rr : List Addr} {o cl st : Addr} {rr2 : List Addr} {s : Shp} {n : Nat} {ways : List Nat} {f : Nat → Nat → Ro} {H : Hp} {σ : L2.St} {i j : Nat} (A : RkA T p sh wl sl rr ⟨s, n, ways, cellsOf ways f⟩ H) (W : OwA K o cl st rr2 n (s.c + s.n) ways f H) (fb : FBd f) (hi : σ[i]? = some (some (.ref p))) (hj : σ[j]? = some (some (.ref o))) :
    Ev (tGo (sp_law_is_alike T) (tCons (tVar i) (tCons (tVar j) tNil))) σ H (.bl true) := fun H1 e Q q => ⟨_, hi, _, hj, p, sh, wl, sl, rr, o, cl, st, rr2, s, n, ways, f, rfl, A.ex e, W.ex e, fb, fun H2 e2 => q H2 e2⟩
section
variable {σ : L2.St} {H : Hp} {D : Ends} {t u : TT} {A B : TS} {a : Addr}
theorem s_ifST (s : Src H a) (h1 : EvST a t σ H) (kf : ∀ H1, Up a H H1 → B D σ H1) (kt : ∀ H1, Up a H H1 → u σ H1 fun c H2 => if c = true then A D σ H2 else B D σ H2) : tIfS (tAnd t u) A B D σ H := h1 H (.refl s) _ fun b H1 u1 => by
  cases b with
  | false => exact kf H1 u1
  | true => exact kt H1 u1
theorem s_ifOrF (h1 : EvT t σ H false) (k : ∀ H1, Ex H H1 → u σ H1 fun c H2 => if c = true then A D σ H2 else B D σ H2) : tIfS (tOr t u) A B D σ H := h1 H (.refl H) _ fun H1 e => k H1 e
end
theorem tb0_tabs {T : Txt K mg} {H : Hp} (t : Tb0 T H) : Tabs T.tabs H := fun p hp => TabS.nil (t p.1 (by
  unfold Txt.tabs at hp
  unfold Txt.Ps
  simp only [List.mem_cons, List.not_mem_nil, or_false] at hp ⊢
  rw [hp]))
def t_law (T : Txt K mg) : TS := (tSeq (tAsg (tCall (sp_law_pool T) [] E0 (tCons (tVar 0) (tCons (tC (.int 0)) tNil))) (gName 1)) (tSeq (tPar 2 3 (tCons (tCall (sp_law_any_shape T) [] E0 (tCons (tVar 1) tNil)) (tCons (tOp rAddI (tC (.int 1)) (tCall (sp_law_take T) [] E0 (tCons (tVar 1) (tCons (tC (.int 5)) tNil)))) tNil))) (tSeq (tPar 4 5 (tCons (tMake T.c_Rack (sp_Rack_init T) [] E0 (tCons (tVar 2) (tCons (tVar 3) tNil))) (tCons (tCall (sp_law_own_rack T) [] E0 (tCons (tVar 2) (tCons (tVar 3) tNil))) tNil))) (tSeq (tIfS (tOr (tTest (tOp rNe (tCB (rShow K) (tCons (tTup (tCons (tFld K (tVar 4) "shape") (tCons (tFld K (tVar 4) "rows") tNil))) tNil)) (tCB (rShow K) (tCons (tTup (tCons (tVar 2) (tCons (tVar 3) tNil))) tNil)))) (tNot (tB (tGo (sp_law_is_alike T) (tCons (tVar 4) (tCons (tVar 5) tNil)))))) (tRet (tC (.bl false))) tNext) (tSeq (tFor (iRng1 (tCons (tCall (sp_law_take T) [] E0 (tCons (tVar 1) (tCons (tC (.int 17)) tNil))) tNil)) (gName 6) (tSeq (tIfS (tNot (tB (tCall (sp_law_put_right T) [] E0 (tCons (tVar 1) (tCons (tVar 4) (tCons (tVar 5) (tCons (tVar 2) tNil))))))) (tRet (tC (.bl false))) tNext) (tIfS (tAnd (tTest (tOp rEq (tCall (sp_law_take T) [] E0 (tCons (tVar 1) (tCons (tC (.int 4)) tNil))) (tC (.int 0)))) (tNot (tB (tCall (sp_law_loss_right T) [] E0 (tCons (tVar 1) (tCons (tVar 4) (tCons (tVar 5) (tCons (tVar 2) tNil)))))))) (tRet (tC (.bl false))) tNext))) (tSeq (tIfS (tOr (tNot (tB (tGo (sp_law_is_alike T) (tCons (tVar 4) (tCons (tVar 5) tNil))))) (tNot (tB (tGo (sp_law_refused_right T) (tCons (tVar 1) (tCons (tVar 4) (tCons (tVar 5) (tCons (tVar 2) tNil)))))))) (tRet (tC (.bl false))) tNext) (tRet (tGo (sp_law_is_alike T) (tCons (tVar 4) (tCons (tVar 5) tNil))))))))))

theorem len_law (T : Txt K mg) {vs H Q E} (h : sp_law T.Ps K vs H Q E) : vs.length = 1 := by obtain ⟨_, _, rfl, _⟩ := h; rfl
theorem pure_law (T : Txt K mg) {vs H Q} {E : XK} (h : sp_law T.Ps K vs H Q E) : t_law T { nx := fun _ H' => Q .non H', rt := Q } (L2.start n_law vs) H := by
  obtain ⟨b, ns, rfl, hs, hl63, nolst, htab, q⟩ := h
  have tb0 : Tb0 T H := htab
  -- the source
  refine ⟨_, rfl, b, ns, 0, rfl, hs, hl63, by decide, by decide, fun a H1 na e1 src1 => ?_⟩
  have tb1 := tb0.ex e1
  dsimp only
  refine ss_parPQ (D := { nx := _, rt := _, bk := _, ct := _ }) (P := fun v H' => ∃ sh s, v = .ref sh ∧ Sh K sh s H' ∧ s.Ok) (R := PInt 1 5) src1 (fun H2 u2 Q' q' => ⟨_, rfl, a, rfl, u2.src, fun sh s H3 u3 S o => q' _ H3 u3 ⟨sh, s, rfl, S, o⟩⟩)
    (es_wide (es_add (l1 := 1) (h1 := 1) (l2 := 0) (h2 := 4) (es_int (by decide) (by decide)) (es_take (s0 := 1) (a := a) (lo := 5) (hi := 5) rfl (es_int (by decide) (by decide)) (by decide) (by decide))) (by decide) (by decide))
    (fun v H2 H3 s u ⟨sh, sp, ev, S, o⟩ => ⟨sh, sp, ev, S.kp (u.kp s), o⟩) fun x y H2 u2 ⟨sh, s, ex, S, ok⟩ ⟨ni, ey, n1, n5⟩ => ?_
  subst ex ey
  obtain ⟨n, rfl⟩ : ∃ n : Nat, ni = (n : Int) := ⟨ni.toNat, by omega⟩
  have tb2 := tb1.up src1 u2
  have ow := ok.w
  have hn : 1 ≤ n ∧ n ≤ 16 := by omega
  dsimp only
  -- the rack
  refine ⟨_, rfl, _, rfl, fun p dx np ndx ne => ⟨p, dx, sh, s, 0, .int (n : Int), .int (n : Int), rfl, upd_same, ?_, ok, gd_int (by rw [Int.natAbs_natCast]; omega), fun n' en h1 h16 wl sl rr H3 A fr nwl nsl nrr => ⟨rfl, ?_⟩, fun c => ?_⟩⟩
  · exact (S.ex (Ex.new ndx)).ex (Ex.new (by rw [upd_ne ne.symm]; exact np))
  · injection en with en
    have en : n = n' := by omega
    subst en
    have E2 : Ex H2 (upd (upd H2 dx (.own p)) p (.ins T.c_Rack dx [])) := (Ex.new ndx).trans (Ex.new (by rw [upd_ne ne.symm]; exact np))
    have kp23 : ∀ b o, b ≠ p → H2 b = some o → H3 b = some o := fun b o nb h => fr b o nb (E2 _ _ h)
    have pn : ∀ {b : Addr} {o : HO}, H2 b = some o → b ≠ p := fun h z => by rw [z, np] at h; cases h
    have e23 : Ex H2 H3 := fun b o h => kp23 b o (pn h) h
    have tb3 := tb2.ex e23
    have src3 : Src H3 a := u2.src.ex e23
    refine ⟨_, rfl, _, rfl, sh, s, n, rfl, S.ex e23, ok, hn.2, fun o cl st rr2 H4 no ncl nst nrr2 e34 W => ?_⟩
    have src4 := src3.ex e34
    have tb4 := tb3.ex e34
    have A4 := A.ex e34
    obtain ⟨bg, mx, ha2, _⟩ := id u2.src
    have aH : ∀ {b : Addr}, (upd (upd H2 dx (.own p)) p (.ins T.c_Rack dx [])) b = none → a ≠ b := fun h z => by rw [← z, E2 _ _ ha2] at h; cases h
    obtain ⟨bg3, mx3, ha3, _⟩ := id src3
    have rr3 : ∀ b ∈ rr, H3 b ≠ none := fun b hb z => by
      obtain ⟨k, hk⟩ := List.mem_iff_getElem?.mp hb
      obtain ⟨ws, h, _⟩ := A.lo k b hk
      rw [z] at h
      cases h
    have nd : (a :: wl :: sl :: cl :: st :: (rr ++ rr2)).Nodup := by
      simp only [List.nodup_cons, List.mem_cons, List.mem_append, not_or, List.nodup_append]
      refine ⟨⟨aH nwl, aH nsl, fun z => ?_, fun z => ?_, fun z => ?_, fun z => ?_⟩, ⟨A.ne.1, fun z => ?_, fun z => ?_, A.ne.2.1, fun z => ?_⟩, ⟨fun z => ?_, fun z => ?_, A.ne.2.2, fun z => ?_⟩, ⟨W.ne.1, fun z => ?_, W.ne.2.1⟩, ⟨fun z => ?_, W.ne.2.2⟩, A.nd, W.nd, fun b hb c hc z => ?_⟩
      · rw [← z, ha3] at ncl; cases ncl
      · rw [← z, ha3] at nst; cases nst
      · exact aH (nrr a z) rfl
      · rw [nrr2 a z] at ha3; cases ha3
      · rw [← z, A.fW] at ncl; cases ncl
      · rw [← z, A.fW] at nst; cases nst
      · have := nrr2 wl z; rw [A.fW] at this; cases this
      · rw [← z, A.fL] at ncl; cases ncl
      · rw [← z, A.fL] at nst; cases nst
      · have := nrr2 sl z; rw [A.fL] at this; cases this
      · exact rr3 cl z ncl
      · exact rr3 st z nst
      · exact rr3 b hb (z ▸ nrr2 c hc)
    have W4 : LwA T a p sh wl sl rr o cl st rr2 s n (List.replicate (s.c + s.n) 0) (fun _ _ => List.replicate s.w 0) H4 := by
      refine ⟨src4, A4.cellEq fun i j _ => ?_, W, nd, fun i j => ⟨by rw [List.length_replicate]; omega, fun y hy => by rw [List.eq_of_mem_replicate hy]; decide⟩⟩
      show some (zeroC s) = if 2 ≤ (List.replicate (s.c + s.n) 0).getD j 0 then none else some (List.replicate s.w 0)
      have z : (List.replicate (s.c + s.n) 0).getD j 0 = 0 := by
        rw [List.getD_eq_getElem?_getD, List.getElem?_replicate]
        split <;> rfl
      rw [z, if_neg (by decide), zeroC_rep ow.1]
    refine ⟨_, _, rfl, ?_⟩
    show tSeq _ _ _ [some (.ref b), some (.ref a), some (.ref sh), some (.int (n : Int)), some (.ref p), some (.ref o), none] H4
    have S4 : Sh K sh s H4 := W4.rk.fS
    have gS := S4.gd ok
    have gn : Gd K H4 0 (.int (n : Int)) (.int (n : Int)) := gd_int (by rw [Int.natAbs_natCast]; omega)
    have x1 : EvX (tTup (tCons (tFld K (tVar 4) "shape") (tCons (tFld K (tVar 4) "rows") tNil))) [some (.ref b), some (.ref a), some (.ref sh), some (.int (n : Int)), some (.ref p), some (.ref o), none] H4 (PD K 4 (.tuple [shD s, .int (n : Int)])) :=
      ex_xd (xd_cons (ex_ofG (rk_shape W4.rk (ev_var rfl)) gS) (by decide) (xd_cons (ex_ofG (rk_rows W4.rk (ev_var rfl)) gn) (by decide) xd_nil)) (by show 2 ≤ 20; decide)
    have x2 : EvX (tTup (tCons (tVar 2) (tCons (tVar 3) tNil))) [some (.ref b), some (.ref a), some (.ref sh), some (.int (n : Int)), some (.ref p), some (.ref o), none] H4 (PD K 4 (.tuple [shD s, .int (n : Int)])) :=
      ex_xd (xd_cons (ex_ofG (ev_var rfl) gS) (by decide) (xd_cons (ex_ofG (ev_var rfl) gn) (by decide) xd_nil)) (by show 2 ≤ 20; decide)
    refine q_when (et_or (et_neSame (s := (PyData.tuple [shD s, .int (n : Int)]).shown) (ev_showX (K := K) (k := 4) x1 (fun v H' _ p => p) (by decide)) (ev_showX (K := K) (k := 4) x2 (fun v H' _ p => p) (by decide))) fun _ => et_not (et_B (v_is_alike W4.rk W4.ow W4.fb rfl rfl))) (fun c => by cases c) fun _ H5 e5 => ?_
    have W5 := W4.up (.ex e5 W4.src)
    have tb5 := tb4.ex e5
    -- the turns
    refine ss_forR (j := 6) (lo := 0) (hi := 16) W5.src (es_take (s0 := 1) (a := a) (lo := 17) (hi := 17) rfl (es_int (by decide) (by decide)) (by decide) (by decide)) (by decide) (by decide) (fun c i σ' H' => ∃ u6 ways f, σ' = [some (.ref b), some (.ref a), some (.ref sh), some (.int (n : Int)), some (.ref p), some (.ref o), u6] ∧ LwA T a p sh wl sl rr o cl st rr2 s n ways f H' ∧ Tb0 T H')
      (fun c H6 _ _ u6 => ⟨_, _, _, rfl, W5.up u6, tb5.up W5.src u6⟩) ?_ ?_
    · rintro c i σ' H6 hi ⟨u6, ways, f, rfl, W6, tb6⟩
      refine ⟨_, rfl, _, rfl, _, rfl, _, rfl, a, p, sh, wl, sl, rr, o, cl, st, rr2, s, n, ways, f, rfl, W6, tb6, fun f' H7 W7 tb7 => ⟨true, rfl, ?_⟩⟩
      dsimp only
      rw [if_neg (by simp)]
      dsimp only [tNext]
      refine s_ifST W7.src (est_cmpEq (lo := 0) (hi := 3) (es_take (s0 := 1) (a := a) (lo := 4) (hi := 4) rfl (es_int (by decide) (by decide)) (by decide) (by decide))) (fun H8 u8 => ⟨_, ways, f', rfl, W7.up u8, tb7.up W7.src u8⟩) fun H8 u8 => ?_
      exact ⟨_, rfl, _, rfl, _, rfl, _, rfl, a, p, sh, wl, sl, rr, o, cl, st, rr2, s, n, ways, f', rfl, W7.up u8, tb7.up W7.src u8, fun ways' f'' H9 W9 tb9 => ⟨true, rfl, ⟨_, ways', f'', rfl, W9, tb9⟩⟩⟩
    · rintro c σ' H6 ⟨u6, ways, f, rfl, W6, tb6⟩
      refine s_ifOrF (D := { nx := _, rt := _, bk := _, ct := _ }) (et_is (et_not (et_B (v_is_alike W6.rk W6.ow W6.fb rfl rfl))) rfl) fun H7 e7 => ?_
      have W7 := W6.up (.ex e7 W6.src)
      refine ⟨_, rfl, _, rfl, _, rfl, _, rfl, a, p, sh, wl, sl, rr, o, cl, st, rr2, s, n, ways, f, rfl, W7, tb0_tabs (tb6.ex e7), fun H8 V8 T8 => ⟨true, rfl, ?_⟩⟩
      have W8 := W7.upT V8
      dsimp only
      rw [if_neg (by simp)]
      exact s_ret (v_is_alike W8.rk W8.ow W8.fb rfl rfl) fun H9 e9 => q H9
  · have : within (.int (n : Int)) 1 16 = true := by simp [within]; omega
    rw [this] at c; cases c
theorem ok_law (T : Txt K mg) (B : Bt T base) : FnG P w K mg base CX0 11 T.f_law T.fd_law ["_law_script"] (sp_law T.Ps K) :=
  fnG_ok T.d_law.F sc_law (fun vs H Q E h => len_law T h) fun cdv A outer s H vs Q E hg hr h => ⟨t_law T, by
    exact (pss_cons (ps_set (i := 1) sc_law.nd rfl (Or.inl rfl) (pe_call (ok_law_pool T) (hr.mono (by decide)) (by rfl) T.d_law_pool.g T.d_law_pool.F.kp T.d_law_pool.b .nil pass0 (pa_cons (pv 0) (pa_cons pe_int pa_nil)))) (pss_cons (ps_par (i := 2) (j := 3) rfl sc_law.nd rfl rfl (by decide) rfl rfl (pa_cons (pe_call (ok_law_any_shape T) (hr.mono (by decide)) (by rfl) T.d_law_any_shape.g T.d_law_any_shape.F.kp T.d_law_any_shape.b .nil pass0 (pa_cons (pv 1) pa_nil)) (pa_cons (pe_op op_add pe_int (pe_call (ok_law_take T) (hr.mono (by decide)) (by rfl) T.d_law_take.g T.d_law_take.F.kp T.d_law_take.b .nil pass0 (pa_cons (pv 1) (pa_cons pe_int pa_nil)))) pa_nil)) (by rfl)) (pss_cons (ps_par (i := 4) (j := 5) rfl sc_law.nd rfl rfl (by decide) rfl rfl (pa_cons (pe_make T.mk_Rack (ok_Rack_init T) (hr.mono (by decide)) (by rfl) T.g_Rack T.d_Rack_init.b .nil passL (pa_cons (pv 2) (pa_cons (pv 3) pa_nil))) (pa_cons (pe_call (ok_law_own_rack T) (hr.mono (by decide)) (by rfl) T.d_law_own_rack.g T.d_law_own_rack.F.kp T.d_law_own_rack.b .nil pass0 (pa_cons (pv 2) (pa_cons (pv 3) pa_nil))) pa_nil)) (by rfl)) (pss_cons (ps_if (PW.pt (pw_or (pt_cmpR op_ne (pe_callB (call_show hg hr.units) (by rfl) T.m_repr (by decide +kernel) (pa_cons (pe_tup (pa_cons (pe_fld (pv 4) rfl) (pa_cons (pe_fld (pv 4) rfl) pa_nil))) pa_nil)) (pe_callB (call_show hg hr.units) (by rfl) T.m_repr (by decide +kernel) (pa_cons (pe_tup (pa_cons (pv 2) (pa_cons (pv 3) pa_nil))) pa_nil)) (nomark _)) (pw_or1 (pt_not (pt_val (pe_callG (ok_law_is_alike T) hg (hr.mono (by decide)) (by rfl) T.d_law_is_alike.g T.d_law_is_alike.F.kp T.d_law_is_alike.b pass0 (pa_cons (pv 4) (pa_cons (pv 5) pa_nil)))))))) (pss_one (ps_ret pe_bl)) pss_nil) (pss_cons (ps_for PassesOwn.never rfl (pi_range1 (by rfl) T.m_range (pa_cons (pe_call (ok_law_take T) (hr.mono (by decide)) (by rfl) T.d_law_take.g T.d_law_take.F.kp T.d_law_take.b .nil pass0 (pa_cons (pv 1) (pa_cons pe_int pa_nil))) pa_nil)) (pg_name (i := 6) sc_law.nd rfl (Or.inl rfl)) (pss_cons (ps_if (pt_not (pt_val (pe_call (ok_law_put_right T) (hr.mono (by decide)) (by rfl) T.d_law_put_right.g T.d_law_put_right.F.kp T.d_law_put_right.b .nil pass0 (pa_cons (pv 1) (pa_cons (pv 4) (pa_cons (pv 5) (pa_cons (pv 2) pa_nil))))))) (pss_one (ps_ret pe_bl)) pss_nil) (pss_one (ps_if (PW.pt (pw_and (pt_cmpR op_eq (pe_call (ok_law_take T) (hr.mono (by decide)) (by rfl) T.d_law_take.g T.d_law_take.F.kp T.d_law_take.b .nil pass0 (pa_cons (pv 1) (pa_cons pe_int pa_nil))) pe_int (nomark _)) (pw_and1 (pt_not (pt_val (pe_call (ok_law_loss_right T) (hr.mono (by decide)) (by rfl) T.d_law_loss_right.g T.d_law_loss_right.F.kp T.d_law_loss_right.b .nil pass0 (pa_cons (pv 1) (pa_cons (pv 4) (pa_cons (pv 5) (pa_cons (pv 2) pa_nil)))))))))) (pss_one (ps_ret pe_bl)) pss_nil)))) (pss_cons (ps_if (PW.pt (pw_or (pt_not (pt_val (pe_callG (ok_law_is_alike T) hg (hr.mono (by decide)) (by rfl) T.d_law_is_alike.g T.d_law_is_alike.F.kp T.d_law_is_alike.b pass0 (pa_cons (pv 4) (pa_cons (pv 5) pa_nil))))) (pw_or1 (pt_not (pt_val (pe_callG (ok_law_refused_right T B) hg (hr.mono (by decide)) (by rfl) T.d_law_refused_right.g T.d_law_refused_right.F.kp T.d_law_refused_right.b pass0 (pa_cons (pv 1) (pa_cons (pv 4) (pa_cons (pv 5) (pa_cons (pv 2) pa_nil)))))))))) (pss_one (ps_ret pe_bl)) pss_nil) (pss_one (ps_ret (pe_callG (ok_law_is_alike T) hg (hr.mono (by decide)) (by rfl) T.d_law_is_alike.g T.d_law_is_alike.F.kp T.d_law_is_alike.b pass0 (pa_cons (pv 4) (pa_cons (pv 5) pa_nil))))))))))), pure_law T h⟩

end
end My


namespace My
open PySem PySem.Spec PyProof.Rows L2 Own LamX
theorem all_mk {P : Program} {w : World} {K : PySem.W.Frag} {h : Heap} {mg : Str → Option Value} {fa : Addr} (ts : List Addr) (X : K.In h) (G : h.Ns mainGlobals mg) (hfa : mg "law" = some (.ref fa))
    {C_Refused : Addr} (ac_Refused : PySem.W.nsIn K mainGlobals "Refused" = some (some (.ref C_Refused)))
    {C_BadShape : Addr} (ac_BadShape : PySem.W.nsIn K mainGlobals "BadShape" = some (some (.ref C_BadShape)))
    {C_BadShelf : Addr} (ac_BadShelf : PySem.W.nsIn K mainGlobals "BadShelf" = some (some (.ref C_BadShelf)))
    {C_BadNumber : Addr} (ac_BadNumber : PySem.W.nsIn K mainGlobals "BadNumber" = some (some (.ref C_BadNumber)))
    {C_BadCell : Addr} (ac_BadCell : PySem.W.nsIn K mainGlobals "BadCell" = some (some (.ref C_BadCell)))
    {C_NotLost : Addr} (ac_NotLost : PySem.W.nsIn K mainGlobals "NotLost" = some (some (.ref C_NotLost)))
    {C_TooMany : Addr} (ac_TooMany : PySem.W.nsIn K mainGlobals "TooMany" = some (some (.ref C_TooMany)))
    {C_Rack : Addr} (ac_Rack : PySem.W.nsIn K mainGlobals "Rack" = some (some (.ref C_Rack)))
    {f0 : Addr} {od0 an0 : Option Addr} {sl0 : Array (Option Value)} {oc0 kV0 dc0 pm0 ct0 : Value} {cd0 : Value}
    (a0 : PySem.W.nsIn K mainGlobals "number_within" = some (some (.ref f0))) (l0 : K.lookup f0 = some ⟨oc0, od0, .func (PySem.W.fnOf "number_within" "number_within" (defArgs s_number_within) (defBody s_number_within) (defScope s_number_within) .none kV0 dc0 pm0 an0 cd0 ct0), sl0⟩) (c0 : PySem.W.codeIn K cd0 "number_within" = true) (k0 : PySem.W.keepIn K (.ref f0) = true)
    {f1 : Addr} {od1 an1 : Option Addr} {sl1 : Array (Option Value)} {oc1 kV1 dc1 pm1 ct1 : Value} {cd1 : Value}
    (a1 : PySem.W.nsIn K mainGlobals "tuple_of" = some (some (.ref f1))) (l1 : K.lookup f1 = some ⟨oc1, od1, .func (PySem.W.fnOf "tuple_of" "tuple_of" (defArgs s_tuple_of) (defBody s_tuple_of) (defScope s_tuple_of) .none kV1 dc1 pm1 an1 cd1 ct1), sl1⟩) (c1 : PySem.W.codeIn K cd1 "tuple_of" = true) (k1 : PySem.W.keepIn K (.ref f1) = true)
    {f2 : Addr} {od2 an2 : Option Addr} {sl2 : Array (Option Value)} {oc2 kV2 dc2 pm2 ct2 : Value} {cd2 : Value}
    (a2 : PySem.W.nsIn K mainGlobals "is_prime" = some (some (.ref f2))) (l2 : K.lookup f2 = some ⟨oc2, od2, .func (PySem.W.fnOf "is_prime" "is_prime" (defArgs s_is_prime) (defBody s_is_prime) (defScope s_is_prime) .none kV2 dc2 pm2 an2 cd2 ct2), sl2⟩) (c2 : PySem.W.codeIn K cd2 "is_prime" = true) (k2 : PySem.W.keepIn K (.ref f2) = true)
    {f3 : Addr} {od3 an3 : Option Addr} {sl3 : Array (Option Value)} {oc3 kV3 dc3 pm3 ct3 : Value} {cd3 : Value}
    (a3 : PySem.W.nsIn K mainGlobals "made_shape" = some (some (.ref f3))) (l3 : K.lookup f3 = some ⟨oc3, od3, .func (PySem.W.fnOf "made_shape" "made_shape" (defArgs s_made_shape) (defBody s_made_shape) (defScope s_made_shape) .none kV3 dc3 pm3 an3 cd3 ct3), sl3⟩) (c3 : PySem.W.codeIn K cd3 "made_shape" = true) (k3 : PySem.W.keepIn K (.ref f3) = true)
    {f4 : Addr} {od4 an4 : Option Addr} {sl4 : Array (Option Value)} {oc4 kV4 dc4 pm4 ct4 : Value} {cd4 : Value}
    (a4 : PySem.W.nsIn K mainGlobals "shape_fault" = some (some (.ref f4))) (l4 : K.lookup f4 = some ⟨oc4, od4, .func (PySem.W.fnOf "shape_fault" "shape_fault" (defArgs s_shape_fault) (defBody s_shape_fault) (defScope s_shape_fault) .none kV4 dc4 pm4 an4 cd4 ct4), sl4⟩) (c4 : PySem.W.codeIn K cd4 "shape_fault" = true) (k4 : PySem.W.keepIn K (.ref f4) = true)
    {f5 : Addr} {od5 an5 : Option Addr} {sl5 : Array (Option Value)} {oc5 kV5 dc5 pm5 ct5 : Value} {cd5 : Value}
    (a5 : PySem.W.nsIn K mainGlobals "table_fits" = some (some (.ref f5))) (l5 : K.lookup f5 = some ⟨oc5, od5, .func (PySem.W.fnOf "table_fits" "table_fits" (defArgs s_table_fits) (defBody s_table_fits) (defScope s_table_fits) .none kV5 dc5 pm5 an5 cd5 ct5), sl5⟩) (c5 : PySem.W.codeIn K cd5 "table_fits" = true) (k5 : PySem.W.keepIn K (.ref f5) = true)
    {f6 : Addr} {od6 an6 : Option Addr} {sl6 : Array (Option Value)} {oc6 kV6 dc6 pm6 ct6 : Value} {cd6 : Value}
    (a6 : PySem.W.nsIn K mainGlobals "numbers_fit" = some (some (.ref f6))) (l6 : K.lookup f6 = some ⟨oc6, od6, .func (PySem.W.fnOf "numbers_fit" "numbers_fit" (defArgs s_numbers_fit) (defBody s_numbers_fit) (defScope s_numbers_fit) .none kV6 dc6 pm6 an6 cd6 ct6), sl6⟩) (c6 : PySem.W.codeIn K cd6 "numbers_fit" = true) (k6 : PySem.W.keepIn K (.ref f6) = true)
    {f7 : Addr} {od7 an7 : Option Addr} {sl7 : Array (Option Value)} {oc7 kV7 dc7 pm7 ct7 : Value} {cd7 : Value}
    (a7 : PySem.W.nsIn K mainGlobals "cell_fits" = some (some (.ref f7))) (l7 : K.lookup f7 = some ⟨oc7, od7, .func (PySem.W.fnOf "cell_fits" "cell_fits" (defArgs s_cell_fits) (defBody s_cell_fits) (defScope s_cell_fits) .none kV7 dc7 pm7 an7 cd7 ct7), sl7⟩) (c7 : PySem.W.codeIn K cd7 "cell_fits" = true) (k7 : PySem.W.keepIn K (.ref f7) = true)
    {f8 : Addr} {od8 an8 : Option Addr} {sl8 : Array (Option Value)} {oc8 kV8 dc8 pm8 ct8 : Value} {cd8 : Value}
    (a8 : PySem.W.nsIn K mainGlobals "as_cell" = some (some (.ref f8))) (l8 : K.lookup f8 = some ⟨oc8, od8, .func (PySem.W.fnOf "as_cell" "as_cell" (defArgs s_as_cell) (defBody s_as_cell) (defScope s_as_cell) .none kV8 dc8 pm8 an8 cd8 ct8), sl8⟩) (c8 : PySem.W.codeIn K cd8 "as_cell" = true) (k8 : PySem.W.keepIn K (.ref f8) = true)
    {f9 : Addr} {od9 an9 : Option Addr} {sl9 : Array (Option Value)} {oc9 kV9 dc9 pm9 ct9 : Value} {cd9 : Value}
    (a9 : PySem.W.nsIn K mainGlobals "shelves_of" = some (some (.ref f9))) (l9 : K.lookup f9 = some ⟨oc9, od9, .func (PySem.W.fnOf "shelves_of" "shelves_of" (defArgs s_shelves_of) (defBody s_shelves_of) (defScope s_shelves_of) .none kV9 dc9 pm9 an9 cd9 ct9), sl9⟩) (c9 : PySem.W.codeIn K cd9 "shelves_of" = true) (k9 : PySem.W.keepIn K (.ref f9) = true)
    {f10 : Addr} {od10 an10 : Option Addr} {sl10 : Array (Option Value)} {oc10 kV10 dc10 pm10 ct10 : Value} {cd10 : Value}
    (a10 : PySem.W.nsIn K mainGlobals "_law_pool" = some (some (.ref f10))) (l10 : K.lookup f10 = some ⟨oc10, od10, .func (PySem.W.fnOf "_law_pool" "_law_pool" (defArgs s_law_pool) (defBody s_law_pool) (defScope s_law_pool) .none kV10 dc10 pm10 an10 cd10 ct10), sl10⟩) (c10 : PySem.W.codeIn K cd10 "_law_pool" = true) (k10 : PySem.W.keepIn K (.ref f10) = true)
    {f11 : Addr} {od11 an11 : Option Addr} {sl11 : Array (Option Value)} {oc11 kV11 dc11 pm11 ct11 : Value} {cd11 : Value}
    (a11 : PySem.W.nsIn K mainGlobals "_law_take" = some (some (.ref f11))) (l11 : K.lookup f11 = some ⟨oc11, od11, .func (PySem.W.fnOf "_law_take" "_law_take" (defArgs s_law_take) (defBody s_law_take) (defScope s_law_take) .none kV11 dc11 pm11 an11 cd11 ct11), sl11⟩) (c11 : PySem.W.codeIn K cd11 "_law_take" = true) (k11 : PySem.W.keepIn K (.ref f11) = true)
    {f12 : Addr} {od12 an12 : Option Addr} {sl12 : Array (Option Value)} {oc12 kV12 dc12 pm12 ct12 : Value} {cd12 : Value}
    (a12 : PySem.W.nsIn K mainGlobals "_law_one" = some (some (.ref f12))) (l12 : K.lookup f12 = some ⟨oc12, od12, .func (PySem.W.fnOf "_law_one" "_law_one" (defArgs s_law_one) (defBody s_law_one) (defScope s_law_one) .none kV12 dc12 pm12 an12 cd12 ct12), sl12⟩) (c12 : PySem.W.codeIn K cd12 "_law_one" = true) (k12 : PySem.W.keepIn K (.ref f12) = true)
    {f13 : Addr} {od13 an13 : Option Addr} {sl13 : Array (Option Value)} {oc13 kV13 dc13 pm13 ct13 : Value} {cd13 : Value}
    (a13 : PySem.W.nsIn K mainGlobals "_law_any_shape" = some (some (.ref f13))) (l13 : K.lookup f13 = some ⟨oc13, od13, .func (PySem.W.fnOf "_law_any_shape" "_law_any_shape" (defArgs s_law_any_shape) (defBody s_law_any_shape) (defScope s_law_any_shape) .none kV13 dc13 pm13 an13 cd13 ct13), sl13⟩) (c13 : PySem.W.codeIn K cd13 "_law_any_shape" = true) (k13 : PySem.W.keepIn K (.ref f13) = true)
    {f14 : Addr} {od14 an14 : Option Addr} {sl14 : Array (Option Value)} {oc14 kV14 dc14 pm14 ct14 : Value} {cd14 : Value}
    (a14 : PySem.W.nsIn K mainGlobals "_law_new_cell" = some (some (.ref f14))) (l14 : K.lookup f14 = some ⟨oc14, od14, .func (PySem.W.fnOf "_law_new_cell" "_law_new_cell" (defArgs s_law_new_cell) (defBody s_law_new_cell) (defScope s_law_new_cell) .none kV14 dc14 pm14 an14 cd14 ct14), sl14⟩) (c14 : PySem.W.codeIn K cd14 "_law_new_cell" = true) (k14 : PySem.W.keepIn K (.ref f14) = true)
    {f15 : Addr} {od15 an15 : Option Addr} {sl15 : Array (Option Value)} {oc15 kV15 dc15 pm15 ct15 : Value} {cd15 : Value}
    (a15 : PySem.W.nsIn K mainGlobals "_law_own_rack" = some (some (.ref f15))) (l15 : K.lookup f15 = some ⟨oc15, od15, .func (PySem.W.fnOf "_law_own_rack" "_law_own_rack" (defArgs s_law_own_rack) (defBody s_law_own_rack) (defScope s_law_own_rack) .none kV15 dc15 pm15 an15 cd15 ct15), sl15⟩) (c15 : PySem.W.codeIn K cd15 "_law_own_rack" = true) (k15 : PySem.W.keepIn K (.ref f15) = true)
    {f16 : Addr} {od16 an16 : Option Addr} {sl16 : Array (Option Value)} {oc16 kV16 dc16 pm16 ct16 : Value} {cd16 : Value}
    (a16 : PySem.W.nsIn K mainGlobals "_law_is_alike" = some (some (.ref f16))) (l16 : K.lookup f16 = some ⟨oc16, od16, .func (PySem.W.fnOf "_law_is_alike" "_law_is_alike" (defArgs s_law_is_alike) (defBody s_law_is_alike) (defScope s_law_is_alike) .none kV16 dc16 pm16 an16 cd16 ct16), sl16⟩) (c16 : PySem.W.codeIn K cd16 "_law_is_alike" = true) (k16 : PySem.W.keepIn K (.ref f16) = true)
    {f17 : Addr} {od17 an17 : Option Addr} {sl17 : Array (Option Value)} {oc17 kV17 dc17 pm17 ct17 : Value} {cd17 : Value}
    (a17 : PySem.W.nsIn K mainGlobals "_law_put_right" = some (some (.ref f17))) (l17 : K.lookup f17 = some ⟨oc17, od17, .func (PySem.W.fnOf "_law_put_right" "_law_put_right" (defArgs s_law_put_right) (defBody s_law_put_right) (defScope s_law_put_right) .none kV17 dc17 pm17 an17 cd17 ct17), sl17⟩) (c17 : PySem.W.codeIn K cd17 "_law_put_right" = true) (k17 : PySem.W.keepIn K (.ref f17) = true)
    {f18 : Addr} {od18 an18 : Option Addr} {sl18 : Array (Option Value)} {oc18 kV18 dc18 pm18 ct18 : Value} {cd18 : Value}
    (a18 : PySem.W.nsIn K mainGlobals "_law_loss_right" = some (some (.ref f18))) (l18 : K.lookup f18 = some ⟨oc18, od18, .func (PySem.W.fnOf "_law_loss_right" "_law_loss_right" (defArgs s_law_loss_right) (defBody s_law_loss_right) (defScope s_law_loss_right) .none kV18 dc18 pm18 an18 cd18 ct18), sl18⟩) (c18 : PySem.W.codeIn K cd18 "_law_loss_right" = true) (k18 : PySem.W.keepIn K (.ref f18) = true)
    {f19 : Addr} {od19 an19 : Option Addr} {sl19 : Array (Option Value)} {oc19 kV19 dc19 pm19 ct19 : Value} {cd19 : Value}
    (a19 : PySem.W.nsIn K mainGlobals "_law_heard" = some (some (.ref f19))) (l19 : K.lookup f19 = some ⟨oc19, od19, .func (PySem.W.fnOf "_law_heard" "_law_heard" (defArgs s_law_heard) (defBody s_law_heard) (defScope s_law_heard) .none kV19 dc19 pm19 an19 cd19 ct19), sl19⟩) (c19 : PySem.W.codeIn K cd19 "_law_heard" = true) (k19 : PySem.W.keepIn K (.ref f19) = true)
    {f20 : Addr} {od20 an20 : Option Addr} {sl20 : Array (Option Value)} {oc20 kV20 dc20 pm20 ct20 : Value}
    {cc20 P20 : Addr} {ty20 : Value} {odc20 : Option Addr} {vs20 : Array Value} {slc20 : Array (Option Value)}
    (a20 : PySem.W.nsIn K mainGlobals "_law_refused_right" = some (some (.ref f20))) (l20 : K.lookup f20 = some ⟨oc20, od20, .func (PySem.W.fnOf "_law_refused_right" "_law_refused_right" (defArgs s_law_refused_right) (defBody s_law_refused_right) (defScope s_law_refused_right) .none kV20 dc20 pm20 an20 (.ref cc20) ct20), sl20⟩) (c20 : PySem.W.codeIn K (.ref cc20) "_law_refused_right" = true) (k20 : PySem.W.keepIn K (.ref f20) = true)
    (lc20 : K.lookup cc20 = some ⟨ty20, odc20, .fields vs20, slc20⟩) (vp20 : (vs20[11]? : Option Value) = some (.ref P20)) (hd20 : PySem.W.codeHdIn K cc20 P20 = true) (np20 : K.lookup P20 = none) (pt20 : P20 ∈ ts)
    {f21 : Addr} {od21 an21 : Option Addr} {sl21 : Array (Option Value)} {oc21 kV21 dc21 pm21 ct21 : Value} {cd21 : Value}
    (a21 : PySem.W.nsIn K mainGlobals "law" = some (some (.ref f21))) (l21 : K.lookup f21 = some ⟨oc21, od21, .func (PySem.W.fnOf "law" "law" (defArgs s_law) (defBody s_law) (defScope s_law) .none kV21 dc21 pm21 an21 cd21 ct21), sl21⟩) (c21 : PySem.W.codeIn K cd21 "law" = true) (k21 : PySem.W.keepIn K (.ref f21) = true)
    {f22 : Addr} {od22 an22 : Option Addr} {sl22 : Array (Option Value)} {oc22 kV22 dc22 pm22 ct22 cd22 : Value}
    (a22 : PySem.W.findIn K (.ref C_Rack) "__init__" = some (some (.ref f22))) (i22 : PySem.W.isFn K (.ref f22) = true) (l22 : K.lookup f22 = some ⟨oc22, od22, .func (PySem.W.fnOf "__init__" "Rack.__init__" (defArgs s_Rack_init) (defBody s_Rack_init) (defScope s_Rack_init) .none kV22 dc22 pm22 an22 cd22 ct22), sl22⟩) (c22 : PySem.W.codeIn K cd22 "Rack.__init__" = true) (k22 : PySem.W.keepIn K (.ref f22) = true)
    {f23 : Addr} {od23 an23 : Option Addr} {sl23 : Array (Option Value)} {oc23 kV23 dc23 pm23 ct23 cd23 : Value}
    (a23 : PySem.W.findIn K (.ref C_Rack) "states" = some (some (.ref f23))) (i23 : PySem.W.isFn K (.ref f23) = true) (l23 : K.lookup f23 = some ⟨oc23, od23, .func (PySem.W.fnOf "states" "Rack.states" (defArgs s_Rack_states) (defBody s_Rack_states) (defScope s_Rack_states) .none kV23 dc23 pm23 an23 cd23 ct23), sl23⟩) (c23 : PySem.W.codeIn K cd23 "Rack.states" = true) (k23 : PySem.W.keepIn K (.ref f23) = true)
    {f24 : Addr} {od24 an24 : Option Addr} {sl24 : Array (Option Value)} {oc24 kV24 dc24 pm24 ct24 cd24 : Value}
    (a24 : PySem.W.findIn K (.ref C_Rack) "cell" = some (some (.ref f24))) (i24 : PySem.W.isFn K (.ref f24) = true) (l24 : K.lookup f24 = some ⟨oc24, od24, .func (PySem.W.fnOf "cell" "Rack.cell" (defArgs s_Rack_cell) (defBody s_Rack_cell) (defScope s_Rack_cell) .none kV24 dc24 pm24 an24 cd24 ct24), sl24⟩) (c24 : PySem.W.codeIn K cd24 "Rack.cell" = true) (k24 : PySem.W.keepIn K (.ref f24) = true)
    {f25 : Addr} {od25 an25 : Option Addr} {sl25 : Array (Option Value)} {oc25 kV25 dc25 pm25 ct25 cd25 : Value}
    (a25 : PySem.W.findIn K (.ref C_Rack) "left" = some (some (.ref f25))) (i25 : PySem.W.isFn K (.ref f25) = true) (l25 : K.lookup f25 = some ⟨oc25, od25, .func (PySem.W.fnOf "left" "Rack.left" (defArgs s_Rack_left) (defBody s_Rack_left) (defScope s_Rack_left) .none kV25 dc25 pm25 an25 cd25 ct25), sl25⟩) (c25 : PySem.W.codeIn K cd25 "Rack.left" = true) (k25 : PySem.W.keepIn K (.ref f25) = true)
    {f26 : Addr} {od26 an26 : Option Addr} {sl26 : Array (Option Value)} {oc26 kV26 dc26 pm26 ct26 cd26 : Value}
    (a26 : PySem.W.findIn K (.ref C_Rack) "put" = some (some (.ref f26))) (i26 : PySem.W.isFn K (.ref f26) = true) (l26 : K.lookup f26 = some ⟨oc26, od26, .func (PySem.W.fnOf "put" "Rack.put" (defArgs s_Rack_put) (defBody s_Rack_put) (defScope s_Rack_put) .none kV26 dc26 pm26 an26 cd26 ct26), sl26⟩) (c26 : PySem.W.codeIn K cd26 "Rack.put" = true) (k26 : PySem.W.keepIn K (.ref f26) = true)
    {f27 : Addr} {od27 an27 : Option Addr} {sl27 : Array (Option Value)} {oc27 kV27 dc27 pm27 ct27 cd27 : Value}
    (a27 : PySem.W.findIn K (.ref C_Rack) "lose" = some (some (.ref f27))) (i27 : PySem.W.isFn K (.ref f27) = true) (l27 : K.lookup f27 = some ⟨oc27, od27, .func (PySem.W.fnOf "lose" "Rack.lose" (defArgs s_Rack_lose) (defBody s_Rack_lose) (defScope s_Rack_lose) .none kV27 dc27 pm27 an27 cd27 ct27), sl27⟩) (c27 : PySem.W.codeIn K cd27 "Rack.lose" = true) (k27 : PySem.W.keepIn K (.ref f27) = true)
    {f28 : Addr} {od28 an28 : Option Addr} {sl28 : Array (Option Value)} {oc28 kV28 dc28 pm28 ct28 cd28 : Value}
    (a28 : PySem.W.findIn K (.ref C_Rack) "replace" = some (some (.ref f28))) (i28 : PySem.W.isFn K (.ref f28) = true) (l28 : K.lookup f28 = some ⟨oc28, od28, .func (PySem.W.fnOf "replace" "Rack.replace" (defArgs s_Rack_replace) (defBody s_Rack_replace) (defScope s_Rack_replace) .none kV28 dc28 pm28 an28 cd28 ct28), sl28⟩) (c28 : PySem.W.codeIn K cd28 "Rack.replace" = true) (k28 : PySem.W.keepIn K (.ref f28) = true)
    {f29 : Addr} {od29 an29 : Option Addr} {sl29 : Array (Option Value)} {oc29 kV29 dc29 pm29 ct29 cd29 : Value}
    (a29 : PySem.W.findIn K (.ref C_Rack) "fill" = some (some (.ref f29))) (i29 : PySem.W.isFn K (.ref f29) = true) (l29 : K.lookup f29 = some ⟨oc29, od29, .func (PySem.W.fnOf "fill" "Rack.fill" (defArgs s_Rack_fill) (defBody s_Rack_fill) (defScope s_Rack_fill) .none kV29 dc29 pm29 an29 cd29 ct29), sl29⟩) (c29 : PySem.W.codeIn K cd29 "Rack.fill" = true) (k29 : PySem.W.keepIn K (.ref f29) = true)
    {f30 : Addr} {od30 an30 : Option Addr} {sl30 : Array (Option Value)} {oc30 kV30 dc30 pm30 ct30 cd30 : Value}
    (a30 : PySem.W.findIn K (.ref C_Rack) "check_row" = some (some (.ref f30))) (i30 : PySem.W.isFn K (.ref f30) = true) (l30 : K.lookup f30 = some ⟨oc30, od30, .func (PySem.W.fnOf "check_row" "Rack.check_row" (defArgs s_Rack_check_row) (defBody s_Rack_check_row) (defScope s_Rack_check_row) .none kV30 dc30 pm30 an30 cd30 ct30), sl30⟩) (c30 : PySem.W.codeIn K cd30 "Rack.check_row" = true) (k30 : PySem.W.keepIn K (.ref f30) = true)
    {f31 : Addr} {od31 an31 : Option Addr} {sl31 : Array (Option Value)} {oc31 kV31 dc31 pm31 ct31 cd31 : Value}
    (a31 : PySem.W.findIn K (.ref C_Rack) "check_shelf" = some (some (.ref f31))) (i31 : PySem.W.isFn K (.ref f31) = true) (l31 : K.lookup f31 = some ⟨oc31, od31, .func (PySem.W.fnOf "check_shelf" "Rack.check_shelf" (defArgs s_Rack_check_shelf) (defBody s_Rack_check_shelf) (defScope s_Rack_check_shelf) .none kV31 dc31 pm31 an31 cd31 ct31), sl31⟩) (c31 : PySem.W.codeIn K cd31 "Rack.check_shelf" = true) (k31 : PySem.W.keepIn K (.ref f31) = true)
    (pg_Rack : PySem.W.plainGet K C_Rack Str.empty = true) (hd_Rack : PySem.W.hasDictIn K C_Rack = true) (po_Rack : PySem.W.plainOver K C_Rack = true) (sa_Rack : PySem.W.findIn K (.ref C_Rack) "__setattr__" = some (some (.builtin "object.__setattr__"))) (mk_Rack : PySem.W.makesIn K C_Rack = true) (kc_Rack : PySem.W.keepIn K (.ref C_Rack) = true)
    (na_Rack_shape : PySem.W.findIn K (.ref C_Rack) "shape" = some none)
    (na_Rack_rows : PySem.W.findIn K (.ref C_Rack) "rows" = some none)
    (na_Rack_ways : PySem.W.findIn K (.ref C_Rack) "ways" = some none)
    (na_Rack_stripes : PySem.W.findIn K (.ref C_Rack) "stripes" = some none)
    {fI : Addr} {odI anI : Option Addr} {slI : Array (Option Value)} {ocI kVI dcI pmI cdI ctI : Value}
    (aI : PySem.W.findIn K (.ref C_Refused) "__init__" = some (some (.ref fI))) (lI : K.lookup fI = some ⟨ocI, odI, .func (PySem.W.fnOf "__init__" "Refused.__init__" (defArgs s_init) (defBody s_init) (defScope s_init) .none kVI dcI pmI anI cdI ctI), slI⟩) (cI : PySem.W.codeIn K cdI "Refused.__init__" = true) (kI : PySem.W.keepIn K (.ref fI) = true) (tI : PySem.W.typeIn K (.ref fI) = some (.type "function"))
    (eH_Refused : PySem.W.subIn K (.ref C_Refused) (.type "BaseException") = some true) (tH_Refused : PySem.W.typeIn K (.ref C_Refused) = some (.type "type")) (hH_Refused : PySem.W.hasDictIn K C_Refused = true)
    {nm_BadShape q_BadShape : Str} {N_BadShape : Addr} {bs_BadShape bm_BadShape : List Value} {sn_BadShape : List Str} {sub_BadShape : List Value} {ab_BadShape : Bool} {col_BadShape : Option Bool} {dd_BadShape : Option Addr} {x0_BadShape x1_BadShape x3_BadShape x5_BadShape : Option Value} {nmx_BadShape : Str} {tkx_BadShape : Tok}
    (xL_BadShape : K.lookup C_BadShape = some (excClassObj nm_BadShape q_BadShape C_BadShape N_BadShape bs_BadShape bm_BadShape true sn_BadShape sub_BadShape ab_BadShape col_BadShape dd_BadShape x0_BadShape x1_BadShape (some (.str nmx_BadShape tkx_BadShape)) x3_BadShape x5_BadShape "ValueError.__new__"))
    (xm_BadShape : PySem.HandSPX.refsVE bm_BadShape = true)
    (sa_BadShape : PySem.W.findIn K (.ref C_BadShape) "__setattr__" = some (some (.builtin "object.__setattr__"))) (ga_BadShape : PySem.W.findIn K (.ref C_BadShape) "__getattribute__" = some (some (.builtin "BaseException.__getattribute__"))) (gg_BadShape : PySem.W.findIn K (.ref C_BadShape) "__getattr__" = some none) (nw_BadShape : PySem.W.findIn K (.ref C_BadShape) "what" = some none) (in_BadShape : PySem.W.findIn K (.ref C_BadShape) "__init__" = some (some (.ref fI)))
    (kC_BadShape : PySem.W.keepIn K (.ref C_BadShape) = true) (eC_BadShape : PySem.W.subIn K (.ref C_BadShape) (.type "BaseException") = some true) (tC_BadShape : PySem.W.typeIn K (.ref C_BadShape) = some (.type "type")) (hC_BadShape : PySem.W.hasDictIn K C_BadShape = true)
    (ca_BadShape : PySem.W.findIn K (.ref C_BadShape) "__class__" = some (some (.builtin "object.__class__"))) (mo_BadShape : PySem.W.mroIn K C_BadShape (.type "object") = some true)
    (rd_BadShape : PySem.W.readsIn K C_BadShape (.type "type") = true) (fc_BadShape : PySem.W.findCls K (.ref C_BadShape) (.type "type") "__name__" = some (.get (.builtin "getset_descriptor.__get__") (.builtin "type.__name__") (.ref C_BadShape) (.type "type"))) (nn_BadShape : PySem.W.findIn K (.ref C_BadShape) "name" = some none)
    {nm_BadShelf q_BadShelf : Str} {N_BadShelf : Addr} {bs_BadShelf bm_BadShelf : List Value} {sn_BadShelf : List Str} {sub_BadShelf : List Value} {ab_BadShelf : Bool} {col_BadShelf : Option Bool} {dd_BadShelf : Option Addr} {x0_BadShelf x1_BadShelf x3_BadShelf x5_BadShelf : Option Value} {nmx_BadShelf : Str} {tkx_BadShelf : Tok}
    (xL_BadShelf : K.lookup C_BadShelf = some (excClassObj nm_BadShelf q_BadShelf C_BadShelf N_BadShelf bs_BadShelf bm_BadShelf true sn_BadShelf sub_BadShelf ab_BadShelf col_BadShelf dd_BadShelf x0_BadShelf x1_BadShelf (some (.str nmx_BadShelf tkx_BadShelf)) x3_BadShelf x5_BadShelf "ValueError.__new__"))
    (xm_BadShelf : PySem.HandSPX.refsVE bm_BadShelf = true)
    (sa_BadShelf : PySem.W.findIn K (.ref C_BadShelf) "__setattr__" = some (some (.builtin "object.__setattr__"))) (ga_BadShelf : PySem.W.findIn K (.ref C_BadShelf) "__getattribute__" = some (some (.builtin "BaseException.__getattribute__"))) (gg_BadShelf : PySem.W.findIn K (.ref C_BadShelf) "__getattr__" = some none) (nw_BadShelf : PySem.W.findIn K (.ref C_BadShelf) "what" = some none) (in_BadShelf : PySem.W.findIn K (.ref C_BadShelf) "__init__" = some (some (.ref fI)))
    (kC_BadShelf : PySem.W.keepIn K (.ref C_BadShelf) = true) (eC_BadShelf : PySem.W.subIn K (.ref C_BadShelf) (.type "BaseException") = some true) (tC_BadShelf : PySem.W.typeIn K (.ref C_BadShelf) = some (.type "type")) (hC_BadShelf : PySem.W.hasDictIn K C_BadShelf = true)
    (ca_BadShelf : PySem.W.findIn K (.ref C_BadShelf) "__class__" = some (some (.builtin "object.__class__"))) (mo_BadShelf : PySem.W.mroIn K C_BadShelf (.type "object") = some true)
    (rd_BadShelf : PySem.W.readsIn K C_BadShelf (.type "type") = true) (fc_BadShelf : PySem.W.findCls K (.ref C_BadShelf) (.type "type") "__name__" = some (.get (.builtin "getset_descriptor.__get__") (.builtin "type.__name__") (.ref C_BadShelf) (.type "type"))) (nn_BadShelf : PySem.W.findIn K (.ref C_BadShelf) "name" = some none)
    (sH_BadShelf_Refused : PySem.W.subIn K (.ref C_BadShelf) (.ref C_Refused) = some true)
    (ki_BadShelf_BadNumber : PySem.W.kitOne K (.ref C_BadShelf) (.ref C_BadNumber) = some false)
    (ki_BadShelf_BadCell : PySem.W.kitOne K (.ref C_BadShelf) (.ref C_BadCell) = some false)
    {nm_BadNumber q_BadNumber : Str} {N_BadNumber : Addr} {bs_BadNumber bm_BadNumber : List Value} {sn_BadNumber : List Str} {sub_BadNumber : List Value} {ab_BadNumber : Bool} {col_BadNumber : Option Bool} {dd_BadNumber : Option Addr} {x0_BadNumber x1_BadNumber x3_BadNumber x5_BadNumber : Option Value} {nmx_BadNumber : Str} {tkx_BadNumber : Tok}
    (xL_BadNumber : K.lookup C_BadNumber = some (excClassObj nm_BadNumber q_BadNumber C_BadNumber N_BadNumber bs_BadNumber bm_BadNumber true sn_BadNumber sub_BadNumber ab_BadNumber col_BadNumber dd_BadNumber x0_BadNumber x1_BadNumber (some (.str nmx_BadNumber tkx_BadNumber)) x3_BadNumber x5_BadNumber "ValueError.__new__"))
    (xm_BadNumber : PySem.HandSPX.refsVE bm_BadNumber = true)
    (sa_BadNumber : PySem.W.findIn K (.ref C_BadNumber) "__setattr__" = some (some (.builtin "object.__setattr__"))) (ga_BadNumber : PySem.W.findIn K (.ref C_BadNumber) "__getattribute__" = some (some (.builtin "BaseException.__getattribute__"))) (gg_BadNumber : PySem.W.findIn K (.ref C_BadNumber) "__getattr__" = some none) (nw_BadNumber : PySem.W.findIn K (.ref C_BadNumber) "what" = some none) (in_BadNumber : PySem.W.findIn K (.ref C_BadNumber) "__init__" = some (some (.ref fI)))
    (kC_BadNumber : PySem.W.keepIn K (.ref C_BadNumber) = true) (eC_BadNumber : PySem.W.subIn K (.ref C_BadNumber) (.type "BaseException") = some true) (tC_BadNumber : PySem.W.typeIn K (.ref C_BadNumber) = some (.type "type")) (hC_BadNumber : PySem.W.hasDictIn K C_BadNumber = true)
    (ca_BadNumber : PySem.W.findIn K (.ref C_BadNumber) "__class__" = some (some (.builtin "object.__class__"))) (mo_BadNumber : PySem.W.mroIn K C_BadNumber (.type "object") = some true)
    (rd_BadNumber : PySem.W.readsIn K C_BadNumber (.type "type") = true) (fc_BadNumber : PySem.W.findCls K (.ref C_BadNumber) (.type "type") "__name__" = some (.get (.builtin "getset_descriptor.__get__") (.builtin "type.__name__") (.ref C_BadNumber) (.type "type"))) (nn_BadNumber : PySem.W.findIn K (.ref C_BadNumber) "name" = some none)
    (sH_BadNumber_Refused : PySem.W.subIn K (.ref C_BadNumber) (.ref C_Refused) = some true)
    (ki_BadNumber_BadShelf : PySem.W.kitOne K (.ref C_BadNumber) (.ref C_BadShelf) = some false)
    (ki_BadNumber_BadCell : PySem.W.kitOne K (.ref C_BadNumber) (.ref C_BadCell) = some false)
    {nm_BadCell q_BadCell : Str} {N_BadCell : Addr} {bs_BadCell bm_BadCell : List Value} {sn_BadCell : List Str} {sub_BadCell : List Value} {ab_BadCell : Bool} {col_BadCell : Option Bool} {dd_BadCell : Option Addr} {x0_BadCell x1_BadCell x3_BadCell x5_BadCell : Option Value} {nmx_BadCell : Str} {tkx_BadCell : Tok}
    (xL_BadCell : K.lookup C_BadCell = some (excClassObj nm_BadCell q_BadCell C_BadCell N_BadCell bs_BadCell bm_BadCell true sn_BadCell sub_BadCell ab_BadCell col_BadCell dd_BadCell x0_BadCell x1_BadCell (some (.str nmx_BadCell tkx_BadCell)) x3_BadCell x5_BadCell "ValueError.__new__"))
    (xm_BadCell : PySem.HandSPX.refsVE bm_BadCell = true)
    (sa_BadCell : PySem.W.findIn K (.ref C_BadCell) "__setattr__" = some (some (.builtin "object.__setattr__"))) (ga_BadCell : PySem.W.findIn K (.ref C_BadCell) "__getattribute__" = some (some (.builtin "BaseException.__getattribute__"))) (gg_BadCell : PySem.W.findIn K (.ref C_BadCell) "__getattr__" = some none) (nw_BadCell : PySem.W.findIn K (.ref C_BadCell) "what" = some none) (in_BadCell : PySem.W.findIn K (.ref C_BadCell) "__init__" = some (some (.ref fI)))
    (kC_BadCell : PySem.W.keepIn K (.ref C_BadCell) = true) (eC_BadCell : PySem.W.subIn K (.ref C_BadCell) (.type "BaseException") = some true) (tC_BadCell : PySem.W.typeIn K (.ref C_BadCell) = some (.type "type")) (hC_BadCell : PySem.W.hasDictIn K C_BadCell = true)
    (ca_BadCell : PySem.W.findIn K (.ref C_BadCell) "__class__" = some (some (.builtin "object.__class__"))) (mo_BadCell : PySem.W.mroIn K C_BadCell (.type "object") = some true)
    (rd_BadCell : PySem.W.readsIn K C_BadCell (.type "type") = true) (fc_BadCell : PySem.W.findCls K (.ref C_BadCell) (.type "type") "__name__" = some (.get (.builtin "getset_descriptor.__get__") (.builtin "type.__name__") (.ref C_BadCell) (.type "type"))) (nn_BadCell : PySem.W.findIn K (.ref C_BadCell) "name" = some none)
    (sH_BadCell_Refused : PySem.W.subIn K (.ref C_BadCell) (.ref C_Refused) = some true)
    (ki_BadCell_BadShelf : PySem.W.kitOne K (.ref C_BadCell) (.ref C_BadShelf) = some false)
    (ki_BadCell_BadNumber : PySem.W.kitOne K (.ref C_BadCell) (.ref C_BadNumber) = some false)
    {nm_NotLost q_NotLost : Str} {N_NotLost : Addr} {bs_NotLost bm_NotLost : List Value} {sn_NotLost : List Str} {sub_NotLost : List Value} {ab_NotLost : Bool} {col_NotLost : Option Bool} {dd_NotLost : Option Addr} {x0_NotLost x1_NotLost x3_NotLost x5_NotLost : Option Value} {nmx_NotLost : Str} {tkx_NotLost : Tok}
    (xL_NotLost : K.lookup C_NotLost = some (excClassObj nm_NotLost q_NotLost C_NotLost N_NotLost bs_NotLost bm_NotLost true sn_NotLost sub_NotLost ab_NotLost col_NotLost dd_NotLost x0_NotLost x1_NotLost (some (.str nmx_NotLost tkx_NotLost)) x3_NotLost x5_NotLost "ValueError.__new__"))
    (xm_NotLost : PySem.HandSPX.refsVE bm_NotLost = true)
    (sa_NotLost : PySem.W.findIn K (.ref C_NotLost) "__setattr__" = some (some (.builtin "object.__setattr__"))) (ga_NotLost : PySem.W.findIn K (.ref C_NotLost) "__getattribute__" = some (some (.builtin "BaseException.__getattribute__"))) (gg_NotLost : PySem.W.findIn K (.ref C_NotLost) "__getattr__" = some none) (nw_NotLost : PySem.W.findIn K (.ref C_NotLost) "what" = some none) (in_NotLost : PySem.W.findIn K (.ref C_NotLost) "__init__" = some (some (.ref fI)))
    (kC_NotLost : PySem.W.keepIn K (.ref C_NotLost) = true) (eC_NotLost : PySem.W.subIn K (.ref C_NotLost) (.type "BaseException") = some true) (tC_NotLost : PySem.W.typeIn K (.ref C_NotLost) = some (.type "type")) (hC_NotLost : PySem.W.hasDictIn K C_NotLost = true)
    (ca_NotLost : PySem.W.findIn K (.ref C_NotLost) "__class__" = some (some (.builtin "object.__class__"))) (mo_NotLost : PySem.W.mroIn K C_NotLost (.type "object") = some true)
    (rd_NotLost : PySem.W.readsIn K C_NotLost (.type "type") = true) (fc_NotLost : PySem.W.findCls K (.ref C_NotLost) (.type "type") "__name__" = some (.get (.builtin "getset_descriptor.__get__") (.builtin "type.__name__") (.ref C_NotLost) (.type "type"))) (nn_NotLost : PySem.W.findIn K (.ref C_NotLost) "name" = some none)
    {nm_TooMany q_TooMany : Str} {N_TooMany : Addr} {bs_TooMany bm_TooMany : List Value} {sn_TooMany : List Str} {sub_TooMany : List Value} {ab_TooMany : Bool} {col_TooMany : Option Bool} {dd_TooMany : Option Addr} {x0_TooMany x1_TooMany x3_TooMany x5_TooMany : Option Value} {nmx_TooMany : Str} {tkx_TooMany : Tok}
    (xL_TooMany : K.lookup C_TooMany = some (excClassObj nm_TooMany q_TooMany C_TooMany N_TooMany bs_TooMany bm_TooMany true sn_TooMany sub_TooMany ab_TooMany col_TooMany dd_TooMany x0_TooMany x1_TooMany (some (.str nmx_TooMany tkx_TooMany)) x3_TooMany x5_TooMany "ValueError.__new__"))
    (xm_TooMany : PySem.HandSPX.refsVE bm_TooMany = true)
    (sa_TooMany : PySem.W.findIn K (.ref C_TooMany) "__setattr__" = some (some (.builtin "object.__setattr__"))) (ga_TooMany : PySem.W.findIn K (.ref C_TooMany) "__getattribute__" = some (some (.builtin "BaseException.__getattribute__"))) (gg_TooMany : PySem.W.findIn K (.ref C_TooMany) "__getattr__" = some none) (nw_TooMany : PySem.W.findIn K (.ref C_TooMany) "what" = some none) (in_TooMany : PySem.W.findIn K (.ref C_TooMany) "__init__" = some (some (.ref fI)))
    (kC_TooMany : PySem.W.keepIn K (.ref C_TooMany) = true) (eC_TooMany : PySem.W.subIn K (.ref C_TooMany) (.type "BaseException") = some true) (tC_TooMany : PySem.W.typeIn K (.ref C_TooMany) = some (.type "type")) (hC_TooMany : PySem.W.hasDictIn K C_TooMany = true)
    (ca_TooMany : PySem.W.findIn K (.ref C_TooMany) "__class__" = some (some (.builtin "object.__class__"))) (mo_TooMany : PySem.W.mroIn K C_TooMany (.type "object") = some true)
    (rd_TooMany : PySem.W.readsIn K C_TooMany (.type "type") = true) (fc_TooMany : PySem.W.findCls K (.ref C_TooMany) (.type "type") "__name__" = some (.get (.builtin "getset_descriptor.__get__") (.builtin "type.__name__") (.ref C_TooMany) (.type "type"))) (nn_TooMany : PySem.W.findIn K (.ref C_TooMany) "name" = some none)
    (cn : PySem.W.specialIn K (.builtin "object.__class__") "__get__" = some (some (.builtin "getset_descriptor.__get__"))) (ct : PySem.W.takesIn K (.builtin "object.__class__") = some true)
    (z_all : PySem.W.nsIn K mainGlobals "all" = some none)
    (z_bool : PySem.W.nsIn K mainGlobals "bool" = some none)
    (z_enumerate : PySem.W.nsIn K mainGlobals "enumerate" = some none)
    (z_int : PySem.W.nsIn K mainGlobals "int" = some none)
    (z_isinstance : PySem.W.nsIn K mainGlobals "isinstance" = some none)
    (z_len : PySem.W.nsIn K mainGlobals "len" = some none)
    (z_max : PySem.W.nsIn K mainGlobals "max" = some none)
    (z_min : PySem.W.nsIn K mainGlobals "min" = some none)
    (z_range : PySem.W.nsIn K mainGlobals "range" = some none)
    (z_repr : PySem.W.nsIn K mainGlobals "repr" = some none)
    (z_tuple : PySem.W.nsIn K mainGlobals "tuple" = some none)
    (z_zip : PySem.W.nsIn K mainGlobals "zip" = some none)
    {tk_GREATEST_PRIME : Tok} (v_GREATEST_PRIME : PySem.W.nsIn K mainGlobals "GREATEST_PRIME" = some (some (.int 1000003 tk_GREATEST_PRIME)))
    {tk_MOST_ROWS : Tok} (v_MOST_ROWS : PySem.W.nsIn K mainGlobals "MOST_ROWS" = some (some (.int 16 tk_MOST_ROWS)))
    {tk_KEPT : Tok} (v_KEPT : PySem.W.nsIn K mainGlobals "KEPT" = some (some (.str "kept" tk_KEPT)))
    {tk_RAW : Tok} (v_RAW : PySem.W.nsIn K mainGlobals "RAW" = some (some (.str "raw" tk_RAW)))
    {tk_LOST : Tok} (v_LOST : PySem.W.nsIn K mainGlobals "LOST" = some (some (.str "lost" tk_LOST))) :
    ∃ (fd : FuncData) (cs : List (Addr × Addr)), (∀ p ∈ cs, p.2 ∈ ts) ∧ (∀ p ∈ cs, K.lookup p.2 = none) ∧ (∀ p ∈ cs, PySem.W.codeHdIn K p.1 p.2 = true) ∧ (∀ (s : Shared) (v : Value), BindsTo s fd ⟨[v], []⟩ [("_law_script", v)]) ∧ ∀ base : Heap, K.In base → base.Ns mainGlobals mg → (∀ p ∈ cs, TabB base mg p.1 p.2) → FnG P w K mg base CX0 11 fa fd ["_law_script"] (sp_law (cs.map (·.2)) K) := by
  have e : f21 = fa := Value.ref.inj (Option.some.inj ((PySem.W.mg_of X G a21).symm.trans hfa))
  subst e
  let T : Txt K mg := {
    c_Refused := C_Refused, g_Refused := PySem.W.mg_of X G ac_Refused,
    c_BadShape := C_BadShape, g_BadShape := PySem.W.mg_of X G ac_BadShape,
    c_BadShelf := C_BadShelf, g_BadShelf := PySem.W.mg_of X G ac_BadShelf,
    c_BadNumber := C_BadNumber, g_BadNumber := PySem.W.mg_of X G ac_BadNumber,
    c_BadCell := C_BadCell, g_BadCell := PySem.W.mg_of X G ac_BadCell,
    c_NotLost := C_NotLost, g_NotLost := PySem.W.mg_of X G ac_NotLost,
    c_TooMany := C_TooMany, g_TooMany := PySem.W.mg_of X G ac_TooMany,
    c_Rack := C_Rack, g_Rack := PySem.W.mg_of X G ac_Rack,
    f_number_within := f0, fd_number_within := _, d_number_within := ⟨fun_mk (st := s_number_within) l0 c0 k0, PySem.W.mg_of X G a0, (fun_mk (st := s_number_within) l0 c0 k0).binds (ps := ["thing", "low", "high"]) fun _ _ _ _ _ _ us hl => match us, hl with | [_, _, _], _ => rfl⟩,
    f_tuple_of := f1, fd_tuple_of := _, d_tuple_of := ⟨fun_mk (st := s_tuple_of) l1 c1 k1, PySem.W.mg_of X G a1, (fun_mk (st := s_tuple_of) l1 c1 k1).binds (ps := ["thing", "many"]) fun _ _ _ _ _ _ us hl => match us, hl with | [_, _], _ => rfl⟩,
    f_is_prime := f2, fd_is_prime := _, d_is_prime := ⟨fun_mk (st := s_is_prime) l2 c2 k2, PySem.W.mg_of X G a2, (fun_mk (st := s_is_prime) l2 c2 k2).binds (ps := ["p"]) fun _ _ _ _ _ _ us hl => match us, hl with | [_], _ => rfl⟩,
    f_made_shape := f3, fd_made_shape := _, d_made_shape := ⟨fun_mk (st := s_made_shape) l3 c3 k3, PySem.W.mg_of X G a3, (fun_mk (st := s_made_shape) l3 c3 k3).binds (ps := ["thing"]) fun _ _ _ _ _ _ us hl => match us, hl with | [_], _ => rfl⟩,
    f_shape_fault := f4, fd_shape_fault := _, d_shape_fault := ⟨fun_mk (st := s_shape_fault) l4 c4 k4, PySem.W.mg_of X G a4, (fun_mk (st := s_shape_fault) l4 c4 k4).binds (ps := ["thing"]) fun _ _ _ _ _ _ us hl => match us, hl with | [_], _ => rfl⟩,
    f_table_fits := f5, fd_table_fits := _, d_table_fits := ⟨fun_mk (st := s_table_fits) l5 c5 k5, PySem.W.mg_of X G a5, (fun_mk (st := s_table_fits) l5 c5 k5).binds (ps := ["table", "n", "p"]) fun _ _ _ _ _ _ us hl => match us, hl with | [_, _, _], _ => rfl⟩,
    f_numbers_fit := f6, fd_numbers_fit := _, d_numbers_fit := ⟨fun_mk (st := s_numbers_fit) l6 c6 k6, PySem.W.mg_of X G a6, (fun_mk (st := s_numbers_fit) l6 c6 k6).binds (ps := ["thing", "many", "p"]) fun _ _ _ _ _ _ us hl => match us, hl with | [_, _, _], _ => rfl⟩,
    f_cell_fits := f7, fd_cell_fits := _, d_cell_fits := ⟨fun_mk (st := s_cell_fits) l7 c7 k7, PySem.W.mg_of X G a7, (fun_mk (st := s_cell_fits) l7 c7 k7).binds (ps := ["shape", "thing"]) fun _ _ _ _ _ _ us hl => match us, hl with | [_, _], _ => rfl⟩,
    f_as_cell := f8, fd_as_cell := _, d_as_cell := ⟨fun_mk (st := s_as_cell) l8 c8 k8, PySem.W.mg_of X G a8, (fun_mk (st := s_as_cell) l8 c8 k8).binds (ps := ["shape", "number"]) fun _ _ _ _ _ _ us hl => match us, hl with | [_, _], _ => rfl⟩,
    f_shelves_of := f9, fd_shelves_of := _, d_shelves_of := ⟨fun_mk (st := s_shelves_of) l9 c9 k9, PySem.W.mg_of X G a9, (fun_mk (st := s_shelves_of) l9 c9 k9).binds (ps := ["shape"]) fun _ _ _ _ _ _ us hl => match us, hl with | [_], _ => rfl⟩,
    f_law_pool := f10, fd_law_pool := _, d_law_pool := ⟨fun_mk (st := s_law_pool) l10 c10 k10, PySem.W.mg_of X G a10, (fun_mk (st := s_law_pool) l10 c10 k10).binds (ps := ["_law_script", "_law_k"]) fun _ _ _ _ _ _ us hl => match us, hl with | [_, _], _ => rfl⟩,
    f_law_take := f11, fd_law_take := _, d_law_take := ⟨fun_mk (st := s_law_take) l11 c11 k11, PySem.W.mg_of X G a11, (fun_mk (st := s_law_take) l11 c11 k11).binds (ps := ["_law_source", "_law_top"]) fun _ _ _ _ _ _ us hl => match us, hl with | [_, _], _ => rfl⟩,
    f_law_one := f12, fd_law_one := _, d_law_one := ⟨fun_mk (st := s_law_one) l12 c12 k12, PySem.W.mg_of X G a12, (fun_mk (st := s_law_one) l12 c12 k12).binds (ps := ["_law_source", "_law_things"]) fun _ _ _ _ _ _ us hl => match us, hl with | [_, _], _ => rfl⟩,
    f_law_any_shape := f13, fd_law_any_shape := _, d_law_any_shape := ⟨fun_mk (st := s_law_any_shape) l13 c13 k13, PySem.W.mg_of X G a13, (fun_mk (st := s_law_any_shape) l13 c13 k13).binds (ps := ["_law_source"]) fun _ _ _ _ _ _ us hl => match us, hl with | [_], _ => rfl⟩,
    f_law_new_cell := f14, fd_law_new_cell := _, d_law_new_cell := ⟨fun_mk (st := s_law_new_cell) l14 c14 k14, PySem.W.mg_of X G a14, (fun_mk (st := s_law_new_cell) l14 c14 k14).binds (ps := ["_law_source", "_law_shape"]) fun _ _ _ _ _ _ us hl => match us, hl with | [_, _], _ => rfl⟩,
    f_law_own_rack := f15, fd_law_own_rack := _, d_law_own_rack := ⟨fun_mk (st := s_law_own_rack) l15 c15 k15, PySem.W.mg_of X G a15, (fun_mk (st := s_law_own_rack) l15 c15 k15).binds (ps := ["_law_shape", "_law_rows"]) fun _ _ _ _ _ _ us hl => match us, hl with | [_, _], _ => rfl⟩,
    f_law_is_alike := f16, fd_law_is_alike := _, d_law_is_alike := ⟨fun_mk (st := s_law_is_alike) l16 c16 k16, PySem.W.mg_of X G a16, (fun_mk (st := s_law_is_alike) l16 c16 k16).binds (ps := ["_law_rack", "_law_own"]) fun _ _ _ _ _ _ us hl => match us, hl with | [_, _], _ => rfl⟩,
    f_law_put_right := f17, fd_law_put_right := _, d_law_put_right := ⟨fun_mk (st := s_law_put_right) l17 c17 k17, PySem.W.mg_of X G a17, (fun_mk (st := s_law_put_right) l17 c17 k17).binds (ps := ["_law_source", "_law_rack", "_law_own", "_law_shape"]) fun _ _ _ _ _ _ us hl => match us, hl with | [_, _, _, _], _ => rfl⟩,
    f_law_loss_right := f18, fd_law_loss_right := _, d_law_loss_right := ⟨fun_mk (st := s_law_loss_right) l18 c18 k18, PySem.W.mg_of X G a18, (fun_mk (st := s_law_loss_right) l18 c18 k18).binds (ps := ["_law_source", "_law_rack", "_law_own", "_law_shape"]) fun _ _ _ _ _ _ us hl => match us, hl with | [_, _, _, _], _ => rfl⟩,
    f_law_heard := f19, fd_law_heard := _, d_law_heard := ⟨fun_mk (st := s_law_heard) l19 c19 k19, PySem.W.mg_of X G a19, (fun_mk (st := s_law_heard) l19 c19 k19).binds (ps := ["_law_call"]) fun _ _ _ _ _ _ us hl => match us, hl with | [_], _ => rfl⟩,
    cc_law_refused_right := cc20, P_law_refused_right := P20, FC_law_refused_right := ⟨_, _, _, _, _, _, _, _, rfl, l20, c20⟩,
    f_law_refused_right := f20, fd_law_refused_right := _, d_law_refused_right := ⟨fun_mk (st := s_law_refused_right) l20 c20 k20, PySem.W.mg_of X G a20, (fun_mk (st := s_law_refused_right) l20 c20 k20).binds (ps := ["_law_source", "_law_rack", "_law_own", "_law_shape"]) fun _ _ _ _ _ _ us hl => match us, hl with | [_, _, _, _], _ => rfl⟩,
    f_law := f21, fd_law := _, d_law := ⟨fun_mk (st := s_law) l21 c21 k21, PySem.W.mg_of X G a21, (fun_mk (st := s_law) l21 c21 k21).binds (ps := ["_law_script"]) fun _ _ _ _ _ _ us hl => match us, hl with | [_], _ => rfl⟩,
    f_Rack_init := f22, fd_Rack_init := _, d_Rack_init := ⟨fun_mk (st := s_Rack_init) l22 c22 k22, (fun_mk (st := s_Rack_init) l22 c22 k22).binds (ps := ["self", "shape", "many"]) fun _ _ _ _ _ _ us hl => match us, hl with | [_, _, _], _ => rfl, ⟨a22, i22, k22⟩⟩,
    f_Rack_states := f23, fd_Rack_states := _, d_Rack_states := ⟨fun_mk (st := s_Rack_states) l23 c23 k23, (fun_mk (st := s_Rack_states) l23 c23 k23).binds (ps := ["self"]) fun _ _ _ _ _ _ us hl => match us, hl with | [_], _ => rfl, ⟨a23, i23, k23⟩⟩,
    f_Rack_cell := f24, fd_Rack_cell := _, d_Rack_cell := ⟨fun_mk (st := s_Rack_cell) l24 c24 k24, (fun_mk (st := s_Rack_cell) l24 c24 k24).binds (ps := ["self", "row", "shelf"]) fun _ _ _ _ _ _ us hl => match us, hl with | [_, _, _], _ => rfl, ⟨a24, i24, k24⟩⟩,
    f_Rack_left := f25, fd_Rack_left := _, d_Rack_left := ⟨fun_mk (st := s_Rack_left) l25 c25 k25, (fun_mk (st := s_Rack_left) l25 c25 k25).binds (ps := ["self", "row"]) fun _ _ _ _ _ _ us hl => match us, hl with | [_, _], _ => rfl, ⟨a25, i25, k25⟩⟩,
    f_Rack_put := f26, fd_Rack_put := _, d_Rack_put := ⟨fun_mk (st := s_Rack_put) l26 c26 k26, (fun_mk (st := s_Rack_put) l26 c26 k26).binds (ps := ["self", "row", "shelf", "cell"]) fun _ _ _ _ _ _ us hl => match us, hl with | [_, _, _, _], _ => rfl, ⟨a26, i26, k26⟩⟩,
    f_Rack_lose := f27, fd_Rack_lose := _, d_Rack_lose := ⟨fun_mk (st := s_Rack_lose) l27 c27 k27, (fun_mk (st := s_Rack_lose) l27 c27 k27).binds (ps := ["self", "shelf"]) fun _ _ _ _ _ _ us hl => match us, hl with | [_, _], _ => rfl, ⟨a27, i27, k27⟩⟩,
    f_Rack_replace := f28, fd_Rack_replace := _, d_Rack_replace := ⟨fun_mk (st := s_Rack_replace) l28 c28 k28, (fun_mk (st := s_Rack_replace) l28 c28 k28).binds (ps := ["self", "shelf"]) fun _ _ _ _ _ _ us hl => match us, hl with | [_, _], _ => rfl, ⟨a28, i28, k28⟩⟩,
    f_Rack_fill := f29, fd_Rack_fill := _, d_Rack_fill := ⟨fun_mk (st := s_Rack_fill) l29 c29 k29, (fun_mk (st := s_Rack_fill) l29 c29 k29).binds (ps := ["self", "shelf", "cell"]) fun _ _ _ _ _ _ us hl => match us, hl with | [_, _, _], _ => rfl, ⟨a29, i29, k29⟩⟩,
    f_Rack_check_row := f30, fd_Rack_check_row := _, d_Rack_check_row := ⟨fun_mk (st := s_Rack_check_row) l30 c30 k30, (fun_mk (st := s_Rack_check_row) l30 c30 k30).binds (ps := ["self", "row"]) fun _ _ _ _ _ _ us hl => match us, hl with | [_, _], _ => rfl, ⟨a30, i30, k30⟩⟩,
    f_Rack_check_shelf := f31, fd_Rack_check_shelf := _, d_Rack_check_shelf := ⟨fun_mk (st := s_Rack_check_shelf) l31 c31 k31, (fun_mk (st := s_Rack_check_shelf) l31 c31 k31).binds (ps := ["self", "shelf"]) fun _ _ _ _ _ _ us hl => match us, hl with | [_, _], _ => rfl, ⟨a31, i31, k31⟩⟩,
    cl_Rack := ⟨pg_Rack, hd_Rack, po_Rack, sa_Rack⟩, mk_Rack := ⟨mk_Rack, a22, i22, kc_Rack⟩,
    na_Rack_shape := na_Rack_shape,
    na_Rack_rows := na_Rack_rows,
    na_Rack_ways := na_Rack_ways,
    na_Rack_stripes := na_Rack_stripes,
    f_init := fI, fd_init := _, d_init := fun_mk (st := s_init) lI cI kI, b_init := (fun_mk (st := s_init) lI cI kI).binds (ps := ["self", "what"]) fun _ _ _ _ _ _ us hl => match us, hl with | [_, _], _ => rfl, ti := tI,
    o_BadShape := ⟨⟨_, _, _, _, _, _, _, _, _, _, _, _, _, _, _, xL_BadShape, xm_BadShape⟩, sa_BadShape, eC_BadShape, tC_BadShape, kC_BadShape⟩, i_BadShape := in_BadShape, n_BadShape_what := ⟨nw_BadShape, nmx_BadShape, ⟨ga_BadShape, gg_BadShape, eC_BadShape, hC_BadShape, ca_BadShape, cn, ct, mo_BadShape⟩, rd_BadShape, tC_BadShape, fc_BadShape, ⟨_, tkx_BadShape, xL_BadShape, rfl⟩, nn_BadShape⟩, x_BadShape := ⟨ga_BadShape, gg_BadShape, eC_BadShape, hC_BadShape⟩, e_BadShape := ⟨ga_BadShape, gg_BadShape, eC_BadShape, hC_BadShape, ca_BadShape, cn, ct, mo_BadShape⟩,
    o_BadShelf := ⟨⟨_, _, _, _, _, _, _, _, _, _, _, _, _, _, _, xL_BadShelf, xm_BadShelf⟩, sa_BadShelf, eC_BadShelf, tC_BadShelf, kC_BadShelf⟩, i_BadShelf := in_BadShelf, n_BadShelf_what := ⟨nw_BadShelf, nmx_BadShelf, ⟨ga_BadShelf, gg_BadShelf, eC_BadShelf, hC_BadShelf, ca_BadShelf, cn, ct, mo_BadShelf⟩, rd_BadShelf, tC_BadShelf, fc_BadShelf, ⟨_, tkx_BadShelf, xL_BadShelf, rfl⟩, nn_BadShelf⟩, x_BadShelf := ⟨ga_BadShelf, gg_BadShelf, eC_BadShelf, hC_BadShelf⟩, e_BadShelf := ⟨ga_BadShelf, gg_BadShelf, eC_BadShelf, hC_BadShelf, ca_BadShelf, cn, ct, mo_BadShelf⟩,
    te_BadShelf_Refused := PySem.W.exm_ref eH_Refused hH_Refused tH_Refused sH_BadShelf_Refused,
    ki_BadShelf_BadShelf := kit_self,
    ki_BadShelf_BadNumber := ki_BadShelf_BadNumber,
    ki_BadShelf_BadCell := ki_BadShelf_BadCell,
    o_BadNumber := ⟨⟨_, _, _, _, _, _, _, _, _, _, _, _, _, _, _, xL_BadNumber, xm_BadNumber⟩, sa_BadNumber, eC_BadNumber, tC_BadNumber, kC_BadNumber⟩, i_BadNumber := in_BadNumber, n_BadNumber_what := ⟨nw_BadNumber, nmx_BadNumber, ⟨ga_BadNumber, gg_BadNumber, eC_BadNumber, hC_BadNumber, ca_BadNumber, cn, ct, mo_BadNumber⟩, rd_BadNumber, tC_BadNumber, fc_BadNumber, ⟨_, tkx_BadNumber, xL_BadNumber, rfl⟩, nn_BadNumber⟩, x_BadNumber := ⟨ga_BadNumber, gg_BadNumber, eC_BadNumber, hC_BadNumber⟩, e_BadNumber := ⟨ga_BadNumber, gg_BadNumber, eC_BadNumber, hC_BadNumber, ca_BadNumber, cn, ct, mo_BadNumber⟩,
    te_BadNumber_Refused := PySem.W.exm_ref eH_Refused hH_Refused tH_Refused sH_BadNumber_Refused,
    ki_BadNumber_BadShelf := ki_BadNumber_BadShelf,
    ki_BadNumber_BadNumber := kit_self,
    ki_BadNumber_BadCell := ki_BadNumber_BadCell,
    o_BadCell := ⟨⟨_, _, _, _, _, _, _, _, _, _, _, _, _, _, _, xL_BadCell, xm_BadCell⟩, sa_BadCell, eC_BadCell, tC_BadCell, kC_BadCell⟩, i_BadCell := in_BadCell, n_BadCell_what := ⟨nw_BadCell, nmx_BadCell, ⟨ga_BadCell, gg_BadCell, eC_BadCell, hC_BadCell, ca_BadCell, cn, ct, mo_BadCell⟩, rd_BadCell, tC_BadCell, fc_BadCell, ⟨_, tkx_BadCell, xL_BadCell, rfl⟩, nn_BadCell⟩, x_BadCell := ⟨ga_BadCell, gg_BadCell, eC_BadCell, hC_BadCell⟩, e_BadCell := ⟨ga_BadCell, gg_BadCell, eC_BadCell, hC_BadCell, ca_BadCell, cn, ct, mo_BadCell⟩,
    te_BadCell_Refused := PySem.W.exm_ref eH_Refused hH_Refused tH_Refused sH_BadCell_Refused,
    ki_BadCell_BadShelf := ki_BadCell_BadShelf,
    ki_BadCell_BadNumber := ki_BadCell_BadNumber,
    ki_BadCell_BadCell := kit_self,
    o_NotLost := ⟨⟨_, _, _, _, _, _, _, _, _, _, _, _, _, _, _, xL_NotLost, xm_NotLost⟩, sa_NotLost, eC_NotLost, tC_NotLost, kC_NotLost⟩, i_NotLost := in_NotLost, n_NotLost_what := ⟨nw_NotLost, nmx_NotLost, ⟨ga_NotLost, gg_NotLost, eC_NotLost, hC_NotLost, ca_NotLost, cn, ct, mo_NotLost⟩, rd_NotLost, tC_NotLost, fc_NotLost, ⟨_, tkx_NotLost, xL_NotLost, rfl⟩, nn_NotLost⟩, x_NotLost := ⟨ga_NotLost, gg_NotLost, eC_NotLost, hC_NotLost⟩, e_NotLost := ⟨ga_NotLost, gg_NotLost, eC_NotLost, hC_NotLost, ca_NotLost, cn, ct, mo_NotLost⟩,
    o_TooMany := ⟨⟨_, _, _, _, _, _, _, _, _, _, _, _, _, _, _, xL_TooMany, xm_TooMany⟩, sa_TooMany, eC_TooMany, tC_TooMany, kC_TooMany⟩, i_TooMany := in_TooMany, n_TooMany_what := ⟨nw_TooMany, nmx_TooMany, ⟨ga_TooMany, gg_TooMany, eC_TooMany, hC_TooMany, ca_TooMany, cn, ct, mo_TooMany⟩, rd_TooMany, tC_TooMany, fc_TooMany, ⟨_, tkx_TooMany, xL_TooMany, rfl⟩, nn_TooMany⟩, x_TooMany := ⟨ga_TooMany, gg_TooMany, eC_TooMany, hC_TooMany⟩, e_TooMany := ⟨ga_TooMany, gg_TooMany, eC_TooMany, hC_TooMany, ca_TooMany, cn, ct, mo_TooMany⟩,
    m_all := PySem.W.mg_none_of X G z_all,
    m_bool := PySem.W.mg_none_of X G z_bool,
    m_enumerate := PySem.W.mg_none_of X G z_enumerate,
    m_int := PySem.W.mg_none_of X G z_int,
    m_isinstance := PySem.W.mg_none_of X G z_isinstance,
    m_len := PySem.W.mg_none_of X G z_len,
    m_max := PySem.W.mg_none_of X G z_max,
    m_min := PySem.W.mg_none_of X G z_min,
    m_range := PySem.W.mg_none_of X G z_range,
    m_repr := PySem.W.mg_none_of X G z_repr,
    m_tuple := PySem.W.mg_none_of X G z_tuple,
    m_zip := PySem.W.mg_none_of X G z_zip,
    tk_GREATEST_PRIME := tk_GREATEST_PRIME, v_GREATEST_PRIME := PySem.W.mg_of X G v_GREATEST_PRIME,
    tk_MOST_ROWS := tk_MOST_ROWS, v_MOST_ROWS := PySem.W.mg_of X G v_MOST_ROWS,
    tk_KEPT := tk_KEPT, v_KEPT := PySem.W.mg_of X G v_KEPT,
    tk_RAW := tk_RAW, v_RAW := PySem.W.mg_of X G v_RAW,
    tk_LOST := tk_LOST, v_LOST := PySem.W.mg_of X G v_LOST }
  refine ⟨T.fd_law, [(cc20, P20)], (fun p hp => by
      simp only [List.mem_cons, List.not_mem_nil, or_false] at hp
      rcases hp with rfl
      · exact pt20), (fun p hp => by
      simp only [List.mem_cons, List.not_mem_nil, or_false] at hp
      rcases hp with rfl
      · exact np20), (fun p hp => by
      simp only [List.mem_cons, List.not_mem_nil, or_false] at hp
      rcases hp with rfl
      · exact hd20), fun s v => .of_eq rfl, fun base _ _ hB => ?_⟩
  have B : Bt T base := ⟨hB (cc20, P20) (List.mem_cons_self)⟩
  exact ok_law T B
end My
open PySem PySem.W PyProof.Rows
set_option maxHeartbeats 0 in
theorem PySem.Challenge.cw_twicemany_k14_racks_their_cells_and_refu_holds : PySem.Challenge.rw_twicemany_k14_racks_their_cells_and_refu.Holds := by
  w_on; o_law; k_head; (case hw => w_witness2)
  k_fill
  refine Own.walkGT (l := PySem.Challenge.rw_twicemany_k14_racks_their_cells_and_refu) (n := 63) (k := 11) (x := "_law_script") (sp := fun Ps K => My.sp_law Ps K) rfl (by decide) rfl ⟨rfl, by decide, by decide⟩ (fun w h Y => ⟨PySem.W.km_in_of Y, PySem.W.km_tabs_of Y⟩) ?F (fun Ps K H a ns h1 h2 h3 h4 => My.law_sp h1 h2 h3 h4)
  case F =>
    intro w mg fa h KX G hmg
    refine' My.all_mk _ KX G hmg ?ac_Refused ?ac_BadShape ?ac_BadShelf ?ac_BadNumber ?ac_BadCell ?ac_NotLost ?ac_TooMany ?ac_Rack ?a0 ?l0 ?c0 ?k0 ?a1 ?l1 ?c1 ?k1 ?a2 ?l2 ?c2 ?k2 ?a3 ?l3 ?c3 ?k3 ?a4 ?l4 ?c4 ?k4 ?a5 ?l5 ?c5 ?k5 ?a6 ?l6 ?c6 ?k6 ?a7 ?l7 ?c7 ?k7 ?a8 ?l8 ?c8 ?k8 ?a9 ?l9 ?c9 ?k9 ?a10 ?l10 ?c10 ?k10 ?a11 ?l11 ?c11 ?k11 ?a12 ?l12 ?c12 ?k12 ?a13 ?l13 ?c13 ?k13 ?a14 ?l14 ?c14 ?k14 ?a15 ?l15 ?c15 ?k15 ?a16 ?l16 ?c16 ?k16 ?a17 ?l17 ?c17 ?k17 ?a18 ?l18 ?c18 ?k18 ?a19 ?l19 ?c19 ?k19 ?a20 ?l20 ?c20 ?k20 ?lc20 ?vp20 ?hd20 ?np20 ?pt20 ?a21 ?l21 ?c21 ?k21 ?a22 ?i22 ?l22 ?c22 ?k22 ?a23 ?i23 ?l23 ?c23 ?k23 ?a24 ?i24 ?l24 ?c24 ?k24 ?a25 ?i25 ?l25 ?c25 ?k25 ?a26 ?i26 ?l26 ?c26 ?k26 ?a27 ?i27 ?l27 ?c27 ?k27 ?a28 ?i28 ?l28 ?c28 ?k28 ?a29 ?i29 ?l29 ?c29 ?k29 ?a30 ?i30 ?l30 ?c30 ?k30 ?a31 ?i31 ?l31 ?c31 ?k31 ?pg_Rack ?hd_Rack ?po_Rack ?sa_Rack ?mk_Rack ?kc_Rack ?na_Rack_shape ?na_Rack_rows ?na_Rack_ways ?na_Rack_stripes ?aI ?lI ?cI ?kI ?tI ?eH_Refused ?tH_Refused ?hH_Refused ?xL_BadShape ?xm_BadShape ?sa_BadShape ?ga_BadShape ?gg_BadShape ?nw_BadShape ?in_BadShape ?kC_BadShape ?eC_BadShape ?tC_BadShape ?hC_BadShape ?ca_BadShape ?mo_BadShape ?rd_BadShape ?fc_BadShape ?nn_BadShape ?xL_BadShelf ?xm_BadShelf ?sa_BadShelf ?ga_BadShelf ?gg_BadShelf ?nw_BadShelf ?in_BadShelf ?kC_BadShelf ?eC_BadShelf ?tC_BadShelf ?hC_BadShelf ?ca_BadShelf ?mo_BadShelf ?rd_BadShelf ?fc_BadShelf ?nn_BadShelf ?sH_BadShelf_Refused ?ki_BadShelf_BadNumber ?ki_BadShelf_BadCell ?xL_BadNumber ?xm_BadNumber ?sa_BadNumber ?ga_BadNumber ?gg_BadNumber ?nw_BadNumber ?in_BadNumber ?kC_BadNumber ?eC_BadNumber ?tC_BadNumber ?hC_BadNumber ?ca_BadNumber ?mo_BadNumber ?rd_BadNumber ?fc_BadNumber ?nn_BadNumber ?sH_BadNumber_Refused ?ki_BadNumber_BadShelf ?ki_BadNumber_BadCell ?xL_BadCell ?xm_BadCell ?sa_BadCell ?ga_BadCell ?gg_BadCell ?nw_BadCell ?in_BadCell ?kC_BadCell ?eC_BadCell ?tC_BadCell ?hC_BadCell ?ca_BadCell ?mo_BadCell ?rd_BadCell ?fc_BadCell ?nn_BadCell ?sH_BadCell_Refused ?ki_BadCell_BadShelf ?ki_BadCell_BadNumber ?xL_NotLost ?xm_NotLost ?sa_NotLost ?ga_NotLost ?gg_NotLost ?nw_NotLost ?in_NotLost ?kC_NotLost ?eC_NotLost ?tC_NotLost ?hC_NotLost ?ca_NotLost ?mo_NotLost ?rd_NotLost ?fc_NotLost ?nn_NotLost ?xL_TooMany ?xm_TooMany ?sa_TooMany ?ga_TooMany ?gg_TooMany ?nw_TooMany ?in_TooMany ?kC_TooMany ?eC_TooMany ?tC_TooMany ?hC_TooMany ?ca_TooMany ?mo_TooMany ?rd_TooMany ?fc_TooMany ?nn_TooMany ?cn ?ct ?z_all ?z_bool ?z_enumerate ?z_int ?z_isinstance ?z_len ?z_max ?z_min ?z_range ?z_repr ?z_tuple ?z_zip ?v_GREATEST_PRIME ?v_MOST_ROWS ?v_KEPT ?v_RAW ?v_LOST
    (case ac_Refused => k_is); (case ac_BadShape => k_is); (case ac_BadShelf => k_is); (case ac_BadNumber => k_is); (case ac_BadCell => k_is); (case ac_NotLost => k_is); (case ac_TooMany => k_is); (case ac_Rack => k_is); (case a0 => k_is); (case l0 => k_is); (case c0 => k_is); (case k0 => k_is); (case a1 => k_is); (case l1 => k_is); (case c1 => k_is); (case k1 => k_is); (case a2 => k_is); (case l2 => k_is); (case c2 => k_is); (case k2 => k_is); (case a3 => k_is); (case l3 => k_is); (case c3 => k_is); (case k3 => k_is); (case a4 => k_is); (case l4 => k_is); (case c4 => k_is); (case k4 => k_is); (case a5 => k_is); (case l5 => k_is); (case c5 => k_is); (case k5 => k_is); (case a6 => k_is); (case l6 => k_is); (case c6 => k_is); (case k6 => k_is); (case a7 => k_is); (case l7 => k_is); (case c7 => k_is); (case k7 => k_is); (case a8 => k_is); (case l8 => k_is); (case c8 => k_is); (case k8 => k_is); (case a9 => k_is); (case l9 => k_is); (case c9 => k_is); (case k9 => k_is); (case a10 => k_is); (case l10 => k_is); (case c10 => k_is); (case k10 => k_is); (case a11 => k_is); (case l11 => k_is); (case c11 => k_is); (case k11 => k_is); (case a12 => k_is); (case l12 => k_is); (case c12 => k_is); (case k12 => k_is); (case a13 => k_is); (case l13 => k_is); (case c13 => k_is); (case k13 => k_is); (case a14 => k_is); (case l14 => k_is); (case c14 => k_is); (case k14 => k_is); (case a15 => k_is); (case l15 => k_is); (case c15 => k_is); (case k15 => k_is); (case a16 => k_is); (case l16 => k_is); (case c16 => k_is); (case k16 => k_is); (case a17 => k_is); (case l17 => k_is); (case c17 => k_is); (case k17 => k_is); (case a18 => k_is); (case l18 => k_is); (case c18 => k_is); (case k18 => k_is); (case a19 => k_is); (case l19 => k_is); (case c19 => k_is); (case k19 => k_is); (case a20 => k_is); (case l20 => k_is); (case c20 => k_is); (case k20 => k_is); (case lc20 => k_is); (case vp20 => rfl); (case hd20 => kernel_rfl); (case np20 => kernel_rfl); (case pt20 => decide); (case a21 => k_is); (case l21 => k_is); (case c21 => k_is); (case k21 => k_is); (case a22 => k_is); (case i22 => k_is); (case l22 => k_is); (case c22 => k_is); (case k22 => k_is); (case a23 => k_is); (case i23 => k_is); (case l23 => k_is); (case c23 => k_is); (case k23 => k_is); (case a24 => k_is); (case i24 => k_is); (case l24 => k_is); (case c24 => k_is); (case k24 => k_is); (case a25 => k_is); (case i25 => k_is); (case l25 => k_is); (case c25 => k_is); (case k25 => k_is); (case a26 => k_is); (case i26 => k_is); (case l26 => k_is); (case c26 => k_is); (case k26 => k_is); (case a27 => k_is); (case i27 => k_is); (case l27 => k_is); (case c27 => k_is); (case k27 => k_is); (case a28 => k_is); (case i28 => k_is); (case l28 => k_is); (case c28 => k_is); (case k28 => k_is); (case a29 => k_is); (case i29 => k_is); (case l29 => k_is); (case c29 => k_is); (case k29 => k_is); (case a30 => k_is); (case i30 => k_is); (case l30 => k_is); (case c30 => k_is); (case k30 => k_is); (case a31 => k_is); (case i31 => k_is); (case l31 => k_is); (case c31 => k_is); (case k31 => k_is); (case pg_Rack => k_is); (case hd_Rack => k_is); (case po_Rack => k_is); (case sa_Rack => k_is); (case mk_Rack => k_is); (case kc_Rack => k_is); (case na_Rack_shape => k_is); (case na_Rack_rows => k_is); (case na_Rack_ways => k_is); (case na_Rack_stripes => k_is); (case aI => k_is); (case lI => k_is); (case cI => k_is); (case kI => k_is); (case tI => k_is); (case eH_Refused => k_is); (case tH_Refused => k_is); (case hH_Refused => k_is); (case xL_BadShape => k_is); (case xm_BadShape => rfl); (case sa_BadShape => k_is); (case ga_BadShape => k_is); (case gg_BadShape => k_is); (case nw_BadShape => k_is); (case in_BadShape => k_is); (case kC_BadShape => k_is); (case eC_BadShape => k_is); (case tC_BadShape => k_is); (case hC_BadShape => k_is); (case ca_BadShape => k_is); (case mo_BadShape => k_is); (case rd_BadShape => k_is); (case fc_BadShape => k_is); (case nn_BadShape => k_is); (case xL_BadShelf => k_is); (case xm_BadShelf => rfl); (case sa_BadShelf => k_is); (case ga_BadShelf => k_is); (case gg_BadShelf => k_is); (case nw_BadShelf => k_is); (case in_BadShelf => k_is); (case kC_BadShelf => k_is); (case eC_BadShelf => k_is); (case tC_BadShelf => k_is); (case hC_BadShelf => k_is); (case ca_BadShelf => k_is); (case mo_BadShelf => k_is); (case rd_BadShelf => k_is); (case fc_BadShelf => k_is); (case nn_BadShelf => k_is); (case sH_BadShelf_Refused => k_is); (case ki_BadShelf_BadNumber => kernel_rfl); (case ki_BadShelf_BadCell => kernel_rfl); (case xL_BadNumber => k_is); (case xm_BadNumber => rfl); (case sa_BadNumber => k_is); (case ga_BadNumber => k_is); (case gg_BadNumber => k_is); (case nw_BadNumber => k_is); (case in_BadNumber => k_is); (case kC_BadNumber => k_is); (case eC_BadNumber => k_is); (case tC_BadNumber => k_is); (case hC_BadNumber => k_is); (case ca_BadNumber => k_is); (case mo_BadNumber => k_is); (case rd_BadNumber => k_is); (case fc_BadNumber => k_is); (case nn_BadNumber => k_is); (case sH_BadNumber_Refused => k_is); (case ki_BadNumber_BadShelf => kernel_rfl); (case ki_BadNumber_BadCell => kernel_rfl); (case xL_BadCell => k_is); (case xm_BadCell => rfl); (case sa_BadCell => k_is); (case ga_BadCell => k_is); (case gg_BadCell => k_is); (case nw_BadCell => k_is); (case in_BadCell => k_is); (case kC_BadCell => k_is); (case eC_BadCell => k_is); (case tC_BadCell => k_is); (case hC_BadCell => k_is); (case ca_BadCell => k_is); (case mo_BadCell => k_is); (case rd_BadCell => k_is); (case fc_BadCell => k_is); (case nn_BadCell => k_is); (case sH_BadCell_Refused => k_is); (case ki_BadCell_BadShelf => kernel_rfl); (case ki_BadCell_BadNumber => kernel_rfl); (case xL_NotLost => k_is); (case xm_NotLost => rfl); (case sa_NotLost => k_is); (case ga_NotLost => k_is); (case gg_NotLost => k_is); (case nw_NotLost => k_is); (case in_NotLost => k_is); (case kC_NotLost => k_is); (case eC_NotLost => k_is); (case tC_NotLost => k_is); (case hC_NotLost => k_is); (case ca_NotLost => k_is); (case mo_NotLost => k_is); (case rd_NotLost => k_is); (case fc_NotLost => k_is); (case nn_NotLost => k_is); (case xL_TooMany => k_is); (case xm_TooMany => rfl); (case sa_TooMany => k_is); (case ga_TooMany => k_is); (case gg_TooMany => k_is); (case nw_TooMany => k_is); (case in_TooMany => k_is); (case kC_TooMany => k_is); (case eC_TooMany => k_is); (case tC_TooMany => k_is); (case hC_TooMany => k_is); (case ca_TooMany => k_is); (case mo_TooMany => k_is); (case rd_TooMany => k_is); (case fc_TooMany => k_is); (case nn_TooMany => k_is); (case cn => k_is); (case ct => k_is); (case z_all => k_is); (case z_bool => k_is); (case z_enumerate => k_is); (case z_int => k_is); (case z_isinstance => k_is); (case z_len => k_is); (case z_max => k_is); (case z_min => k_is); (case z_range => k_is); (case z_repr => k_is); (case z_tuple => k_is); (case z_zip => k_is); (case v_GREATEST_PRIME => k_is); (case v_MOST_ROWS => k_is); (case v_KEPT => k_is); (case v_RAW => k_is); (case v_LOST => k_is)

