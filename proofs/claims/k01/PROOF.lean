import PyProof.Rows.All
import Wide.All
import OpenK.AllK
import Wide.FinOn
import HandS.ForMost
import HandS.Exc
import HandS.TryOnly
import HandS.ExcOwn
import HandS.WordsExc
import PyProof.ReprRoads
import HandS.Ends
import HandS.ExcInit
import HandS.ExcIs
import HandS.ExcField
import HandS.IsInst
import HandS.TupMul
import HandS.TupAny
import HandS.Wide
import HandS.Evl
import KE.KTypeName
import HandS.FStrTup
import HandS.Style
import PySem.Challenge.RW_twicemany_k01_shapes_made_and_refused
set_option Elab.async false
set_option linter.all false
set_option maxRecDepth 100000
set_option maxHeartbeats 4000000
namespace Own
open PySem PySem.Spec PyProof.Rows L2
/-! ### the text of data -/
def rShow (K : PySem.W.Frag) : List V → Hp → VK → Prop := fun xs H Q => ∃ (x : V) (d : PyData), xs = [x] ∧ Dp K H x d ∧
  (d.showable = true ∧ d.hasDict = false ∧ d.depth ≤ 60 ∧ d.shown.length ≤ sizeLine) ∧ Q (.str d.shown) H
theorem call_show {X : Cx} (hg : X.A.guards = some []) (hu : X.A.units + 64 < cLine) : CallR X (.builtin "repr") (rShow X.K) := by
  intro pins s σ H xs us Q I rv hh
  obtain ⟨x, d, rfl, hd, ⟨h1, h2, h3, h4⟩, q⟩ := hh
  obtain ⟨u, rfl, ru⟩ := vals1 rv
  cases hd with
  | non => cases ru; exact PySem.P.repr_of_none ⟨.str _, H, I.tok _, ⟨_, rfl⟩, q⟩
  | bl b => cases ru; exact PySem.P.repr_of_bool ⟨.str _, H, I.tok _, ⟨_, rfl⟩, by simpa only [PyData.shown] using q⟩
  | int i =>
    obtain ⟨t, rfl⟩ := ru
    exact PySem.P.repr_of_int (by simpa [PyData.showable] using h1) ⟨.str _, H, I.tok _, ⟨_, rfl⟩, by simpa only [PyData.shown] using q⟩
  | str z =>
    obtain ⟨t, rfl⟩ := ru
    exact PySem.P.repr_of_str ⟨.str _, H, I.tok _, ⟨_, rfl⟩, by simpa only [PyData.shown] using q⟩ (by simpa only [PyData.shown] using h4)
  | lst hs ha =>
    cases ru
    obtain ⟨as, rd⟩ := Dp.reads I _ _ _ (Dp.lst hs ha) rfl
    exact repr_of_reads' rd h1 (PyData.noDict_hsm h2) hg (by omega) (fun _ _ e => e) (fun h' u tk hk => ⟨.str _, H, I.kept hk, ⟨_, rfl⟩, q⟩) h4
  | tup hs ha =>
    cases ru
    obtain ⟨as, rd⟩ := Dp.reads I _ _ _ (Dp.tup hs ha) rfl
    exact repr_of_reads' rd h1 (PyData.noDict_hsm h2) hg (by omega) (fun _ _ e => e) (fun h' u tk hk => ⟨.str _, H, I.kept hk, ⟨_, rfl⟩, q⟩) h4
theorem guards_deeper {A : Around} {env : Env} : (A.deeper env).guards = A.guards := by
  unfold Around.deeper
  rfl
end Own


namespace Own
open PySem PySem.Spec PyProof.Rows L2
/-! ### a def's promise where no text of data is being made around the call -/
structure FnG (P : Program) (w : World) (K : PySem.W.Frag) (mg : Str → Option Value) (base : Heap) (C : CXT) (k : Nat) (f : Addr) (fd : FuncData) (ps : List Str) (sp : Sp) : Prop where
  size : ∀ vs H Q E, sp vs H Q E → vs.length = ps.length
  goes : ∀ (A : Around) (outer : List Env) (s : Shared) (H : Hp) (args : Args) (us : List Value) (vs : List V) (Q : VK) (E : XK),
    A.guards = some [] → Room k A → Env0 P w K mg base A outer s H → BindsTo s fd args (ps.zip us) → Vals vs us → sp vs H Q E →
      codeAny (model P w) A (.call (.ref f) args) (CR C outer P w H s Q E) s
theorem FnG.of {P : Program} {w : World} {K : PySem.W.Frag} {mg : Str → Option Value} {base : Heap} {C : CXT} {k : Nat} {f : Addr} {fd : FuncData} {ps : List Str} {sp : Sp}
    (F : FnOk P w K mg base C k f fd ps sp) : FnG P w K mg base C k f fd ps sp := ⟨F.len, fun A o s H args us vs Q E _ => F.run A o s H args us vs Q E⟩
section
variable {P : Program} {w : World} {K : PySem.W.Frag} {mg : Str → Option Value} {base : Heap}
theorem fnG_mk {C : CXT} {x qual : Str} {st : Stmt} {f : Addr} {fd : FuncData} {N ps : List Str} {k : Nat} {sp : Sp} (F : Fun K x qual st f fd) (S : FnScope N ps (defScope st)) (sz : ∀ vs H Q E, sp vs H Q E → vs.length = ps.length)
    (hb : ∀ (cdv : Value) (A : Around) (outer : List Env) (s : Shared) (H : Hp) (vs : List V) (Q : VK) (E : XK),
      (A.deeper (envOfC qual (defScope st) s.heap.objs.size f cdv)).guards = some [] → Room k (A.deeper (envOfC qual (defScope st) s.heap.objs.size f cdv)) → sp vs H Q E →
        ∃ t, PSs (cxOf C P w K mg base N qual (defScope st) f cdv A outer s H E) (defBody st) t ∧ t { nx := fun _ H' => Q .non H', rt := Q } (start N vs) H) :
    FnG P w K mg base C (k + 1) f fd ps sp := by
  obtain ⟨oc, od, kV, doc, pm, an, cdv, ct, osl, efd, look, code⟩ := F.ex
  subst efd
  refine ⟨sz, fun A o s H args us vs Q E gA room e0 bind rv pre => ?_⟩
  have inside : K.In s.heap := e0.mod.kin.keeps fun b u q => (e0.bs b u q).1
  have free : s.heap.NoLimit := e0.mod.nolimit.keeps fun b u q => (e0.bs b u q).1
  refine codeAny_call_function room.depth (inside _ _ look) rfl S.co S.gen rfl (PySem.W.codeRec_of inside code) (bind _ _ _ _ ?_)
  refine wpAny_newFunctionEnv_cells S.kind (fun y hy => ?_) fun env he s1 x => ?_
  · have m := (List.of_mem_zip (show (y.1, y.2) ∈ ps.zip us from hy)).1
    exact (S.par y.1 m).elim Or.inl fun q => Or.inr ⟨q, PySem.W.cellsFrom_some _ _ _ (.inl q)⟩
  · subst he
    refine ⟨free.keeps x.toInCall.keep, codeAny_func ?_⟩
    obtain ⟨t, ht, rd⟩ := hb cdv A o s H vs Q E (guards_deeper.trans gA) (room.deeper _) pre
    have I := inv_start (CX := C) (P := P) (w := w) (mg := mg) (E := E) (N := N) S room.hd e0 (sz _ _ _ _ pre) rv x
    refine wpAny_mono (ht.run [] s1 (start N vs) H _ I rd) (fun fl s' hs => ?_) fun _ _ z => z
    match fl, hs with
    | .ret u, hs => exact (let ⟨v, _, H', J, r2, q⟩ := hs; ⟨v, H', J.os, J.bare, J.base, J.hok, r2, q⟩)
    | .next, hs => exact (let ⟨_, H', J, q⟩ := hs; ⟨V.non, H', J.os, J.bare, J.base, J.hok, rfl, q⟩)
    | .brk, hs => exact (let ⟨_, _, _, z⟩ := hs; z.elim)
    | .cont, hs => exact (let ⟨_, _, _, z⟩ := hs; z.elim)
/-- nothing is let out -/
theorem fnG_ok {x qual : Str} {st : Stmt} {f : Addr} {fd : FuncData} {N ps : List Str} {k : Nat} {sp : Sp} (F : Fun K x qual st f fd) (S : FnScope N ps (defScope st)) (sz : ∀ vs H Q E, sp vs H Q E → vs.length = ps.length)
    (hb : ∀ (cdv : Value) (A : Around) (outer : List Env) (s : Shared) (H : Hp) (vs : List V) (Q : VK) (E : XK),
      (A.deeper (envOfC qual (defScope st) s.heap.objs.size f cdv)).guards = some [] → Room k (A.deeper (envOfC qual (defScope st) s.heap.objs.size f cdv)) → sp vs H Q E →
        ∃ t, PSs (cxOf CX0 P w K mg base N qual (defScope st) f cdv A outer s H E).nox (defBody st) t ∧ t { nx := fun _ H' => Q .non H', rt := Q } (start N vs) H) :
    FnG P w K mg base CX0 (k + 1) f fd ps sp :=
  fnG_mk F S sz fun cdv A o s H vs Q E g r h => let ⟨t, p, q⟩ := hb cdv A o s H vs Q E g r h; ⟨t, p.nox, q⟩
end
section
variable {X : Cx} {C : CXT} {k : Nat} {f : Addr} {fd : FuncData} {ps : List Str} {sp : Sp} {dvs : List V} {ds : List Value} {E : XK} {x : Str} {p pos : Pos} {e : Expr} {es : List Expr} {t : TA}
theorem goesG {pins : List (Addr × Obj)} {σ : L2.St} {H : Hp} {s : Shared} {Q : VK} {us : List Value} {vs : List V} (F : FnG X.prog X.w X.K X.mg X.base C k f fd ps sp) (hg : X.A.guards = some []) (hr : Room k X.A) (hb : Binds X.K fd ps []) (hx : Passes C X E)
    (I : Inv X pins σ H s) (rv : Vals vs us) (h : sp vs H Q E) : wpAny (model X.prog X.w) X.A (call (.ref f) us) (EP X pins σ Q) X.xe s := by
  have n : (us ++ []).length = ps.length := by rw [List.append_nil, ← rv.length, F.size _ _ _ _ h]
  have bt := hb s us I.kIn n
  rw [List.append_nil] at bt
  refine wpAny_call (codeAny_mono (F.goes X.A X.stack s H ⟨us, []⟩ us vs Q E hg hr I.env0 bt rv h) fun r s' z => ?_)
  match r, z with
  | .error e, z => exact hx pins σ H s e s' I z
  | .ok (.ret u), z => exact I.after z
  | .ok .next, z => exact z.elim
  | .ok .brk, z => exact z.elim
  | .ok .cont, z => exact z.elim
/-- f(e, ..), by such a promise -/
theorem pe_callG (F : FnG X.prog X.w X.K X.mg X.base C k f fd ps sp) (hg : X.A.guards = some []) (hr : Room k X.A) (gl : Gl X x) (hm : X.mg x = some (.ref f)) (hk : PySem.W.keepIn X.K (.ref f) = true) (hb : Binds X.K fd ps []) (hx : Passes C X E)
    (ha : PA X (e :: es) t) (hdb : (x == ("__debug__" : Str)) = false := by decide) (hst : starEach (e :: es) X.env = (false, eval e X.env) :: starEach es X.env := by rfl) (hpl : (backTo pos (starEach es X.env)).any (·.1) = false := by rfl) :
    PE X (.Call (.Name x p) (e :: es) [] pos) (fun σ H Q => t σ H fun vs H1 => sp vs H1 Q E) :=
  ⟨fun pins s σ H Q I h => wpAny_Call_Name_kw (ld_glob I gl hm
    (PySem.W.callWith_K (h₀ := X.base) I.ok.mod.kin hk (thn (ha.run pos pins s σ H _ I h) fun us s1 ⟨vs, H1, J, rv, q⟩ => ⟨J.kIn, goesG F hg hr hb hx J rv q⟩) hst hpl) hdb)⟩
end
end Own


namespace Own
open PySem PySem.Spec PyProof.Rows L2
/-! ### the law's own call -/
/-- what stands at the law's entry, seen with nothing but the script tracked -/
structure Entry (K : PySem.W.Frag) (s : Shared) (a : Addr) (vs : List Value) (ns : List Int) (H : Hp) : Prop where
  only : Only H
  seq : SqL K H a (ns.map V.int)
  none_ : ∀ b, b ≠ a → H b = none
  own : H a ≠ none → K.lookup a = none
theorem entry_ok {P : Program} {w : World} {K : PySem.W.Frag} {s : Shared} {a : Addr} {vs : List Value} {ns : List Int} (KX : K.In s.heap)
    (ha : s.heap.get? a = some { cls := .type "list", data := .seq vs.toArray }) (hi : IntsAre vs ns) (hl : ns.length ≤ sizeLine) : ∃ H, Entry K s a vs ns H ∧ HOk P w H s.heap := by
  have rv := vals_ints hi
  have ln : vs.length = ns.length := hi.length
  by_cases hk : K.lookup a = none
  · refine ⟨fun b => if b = a then some (.frz { cls := .type "list", data := .seq vs.toArray } (.lst (ns.map V.int))) else none, ⟨fun b => ?_, .inl (.inr ⟨_, if_pos rfl⟩), fun b nb => if_neg nb, fun _ => hk⟩, fun b u e => ?_⟩
    · by_cases q : b = a
      · exact .inr ⟨_, _, if_pos q⟩
      · exact .inl (if_neg q)
    · by_cases q : b = a
      · have e' := (if_pos q).symm.trans e
        injection e' with e'
        subst e' q
        exact ⟨ha, by rw [List.length_map]; exact hl, vs, _, rv, ha⟩
      · exact absurd ((if_neg q).symm.trans e) (by intro z; cases z)
  · obtain ⟨o, ho⟩ := Option.ne_none_iff_exists'.mp hk
    have e := (KX a o ho).symm.trans ha
    injection e with e
    subst e
    exact ⟨fun _ => none, ⟨fun _ => .inl rfl, .inr ⟨_, vs.toArray, _, ho, rfl, rfl, rfl, by rw [List.size_toArray, ln]; exact hl, by simpa using rv⟩, fun _ _ => rfl, fun z => absurd rfl z⟩,
      fun b u z => by cases z⟩
theorem lawG {P : Program} {w : World} {K : PySem.W.Frag} {mg mb : Str → Option Value} {k : Nat} {fa a : Addr} {fd : FuncData} {x : Str} {sp : Sp} {s : Shared} {vs : List Value} {ns : List Int}
    (KX : K.In s.heap) (g1 : s.heap.Ns mainGlobals mg) (g2 : s.heap.Ns builtinsNs mb) (g3 : ∀ x : Str, x ≠ "__name__" → mb x = bootBuiltins x) (g4 : s.heap.NoLimit) (hg : s.gens = #[])
    (ha : s.heap.get? a = some { cls := .type "list", data := .seq vs.toArray }) (hi : IntsAre vs ns) (hl : ns.length ≤ sizeLine) (hr : Room k callerA)
    (F : ∀ base : Heap, K.In base → base.Ns mainGlobals mg → FnG P w K mg base CX0 k fa fd [x] sp) (hb : ∀ (s : Shared) (u : Value), BindsTo s fd ⟨[u], []⟩ [(x, u)])
    (hsp : ∀ H : Hp, Only H → SqL K H a (ns.map V.int) → sp [.ref a] H (fun v _ => v = .bl true) E0) :
    codeAny (model P w) callerA (.call (.ref fa) ⟨[.ref a], []⟩) (fun r s' => r = .ok (.ret (.bool true)) ∧ OldK s.heap s'.heap ∧ s'.os = s.os ∧ AllBare s'.gens) s := by
  obtain ⟨H, e, hok⟩ := entry_ok (P := P) (w := w) KX ha hi hl
  -- the base: what isn't tracked
  have un : ∀ {b : Addr} {m : Str → Option Value}, s.heap.Ns b m → H b = none := fun {b m} ⟨o, es, ep, q, d, _⟩ => by
    by_cases z : b = a
    · subst z
      rw [ha] at q
      injection q with q
      subst q
      exact absurd d (by intro z; cases z)
    · exact e.none_ b z
  have nsB : ∀ {b : Addr} {m : Str → Option Value}, s.heap.Ns b m → (hidT s.heap H).Ns b m := fun {b m} n => by
    have hn := un n
    obtain ⟨o, es, ep, q, d, r⟩ := n
    exact ⟨o, es, ep, hidT_get q hn, d, r⟩
  have KB : K.In (hidT s.heap H) := fun b o q => hidT_get (KX b o q) (by
    by_cases z : b = a
    · subst z
      by_cases y : H b = none
      · exact y
      · have n := e.own y
        rw [q] at n
        cases n
    · exact e.none_ b z)
  have e0 : Env0 P w K mg (hidT s.heap H) callerA [] s H :=
    ⟨rfl, ⟨KB, nsB g1, ⟨mb, nsB g2, g3⟩, (let ⟨mc, h1, h2⟩ := g4; ⟨mc, nsB h1, h2⟩)⟩, fun b o q => of_hidT q, Nat.le_of_eq (hidT_size _ _), trivial, fun b z => absurd z (List.not_mem_nil), hok, .of_eq hg⟩
  refine codeAny_mono ((F _ KB (nsB g1)).goes callerA [] s H ⟨[.ref a], []⟩ [.ref a] [.ref a] _ _ rfl hr e0 (hb s (.ref a)) (.cons rfl .nil) (hsp H e.only e.seq)) fun r s' z => ?_
  match r, z with
  | .error _, z => exact z.elim
  | .ok .next, z => exact z.elim
  | .ok .brk, z => exact z.elim
  | .ok .cont, z => exact z.elim
  | .ok (.ret u), z =>
    obtain ⟨v, H', os, bare, ch, hok', ru, q⟩ := z
    have q : v = .bl true := q
    subst q
    have eu : u = Value.bool true := ru
    refine ⟨by rw [eu], OldK.of_keep fun b o q => ?_, os, bare⟩
    cases y : H b with
    | none => exact ch.keep b o q y (fun z => by cases z) (fun z => by cases z)
    | some u' =>
      rcases e.only b with z | ⟨ob, xs, z⟩
      · rw [y] at z
        cases z
      · have o1 := (hok b _ z).1
        have o2 := (hok' b _ (ch.frzs b ob _ z)).1
        rw [q] at o1
        injection o1 with o1
        rw [o1]
        exact o2
theorem walkG {l : PySem.W.OpenLaw} {n k : Nat} {q : Program} {loose : List Str} {XP : (Str → Option Value) → Heap → Prop} {YP : World → Heap → Prop} {d : DefRec} {K : Params → PySem.W.Frag} {sp : PySem.W.Frag → Sp} {x : Str}
    (h1 : l.most = some n) (h2 : n ≤ sizeLine) (h3 : d.params.defaults = []) (hr : Room k callerA) (hY : ∀ (w : World) (h : Heap), YP w h → (K w.params).In h)
    (F : ∀ (w : World) (mg : Str → Option Value) (fa : Addr) (h : Heap), (K w.params).In h → h.Ns mainGlobals mg → mg d.name = some (.ref fa) →
      ∃ fd : FuncData, (∀ (s : Shared) (u : Value), BindsTo s fd ⟨[u], []⟩ [(x, u)]) ∧
        ∀ base : Heap, (K w.params).In base → base.Ns mainGlobals mg → FnG l.prog w (K w.params) mg base CX0 k fa fd [x] (sp (K w.params)))
    (hsp : ∀ (K : PySem.W.Frag) (H : Hp) (a : Addr) (ns : List Int), ns.length ≤ n → Only H → SqL K H a (ns.map V.int) → sp K [.ref a] H (fun v _ => v = .bl true) E0) :
    PySem.W.WalkO q loose XP YP l.row.toRowW d [] (fun f vs => PySem.call f vs) :=
  Att.attach_call h1 h3 fun w s₀ s₁ mg mb fa o pm cd doc a vs ns G Y ho hd hcd hmg hobj hints hlen hg =>
    let ⟨fd, hb, hF⟩ := F w mg fa _ (hY w _ Y) G.T.g hmg
    lawG (hY w _ Y) G.T.g G.T.b G.T.builtins G.T.nolimit hg hobj hints (Nat.le_trans hlen h2) hr hF hb fun H hO hS => hsp _ H a ns hlen hO hS
end Own


namespace Own
open PySem PySem.Spec PyProof.Rows L2
/-! ### isinstance of a caught error that has a dict of its own -/
section
open PySem.W PySem.Calls
variable {prog : Program} {w : World} {A : Around} {E : Value → Shared → Prop} {s : Shared} {K : Frag} {x D : Addr} {ox : Obj} {od : Option Obj}
theorem asks_class {Q : Option Value → Shared → Prop} (T : ExcC K D) (hf : findObj K D od "__class__" = some (.bind (.builtin "getset_descriptor.__get__") (.builtin "object.__class__")))
    (KX : K.In s.heap) (I : PySem.W.InstAt s.heap x ox D od) (h : Q (some (.ref D)) { s with toks := s.toks + 1 }) : wpAny (model prog w) A (getAttr? (.ref x) "__class__") Q E s := by
  obtain ⟨hp, g, d, t, os⟩ := s
  have a0 := I.type (M := model prog w)
  have a1 := looks_findIn (M := model prog w) KX T.hg
  have a2 := looks_findIn (M := model prog w) KX T.hk
  have a3 := looks_find (M := model prog w) KX I hf
  have a4 : Looks (model prog w) hp (isInstance (.ref x) (.type "BaseException")) true := a0.andThen (looks_subIn KX T.hs)
  have n1 : (Value.builtin "BaseException.__getattribute__" == Value.builtin "object.__getattribute__") = false := by decide +kernel
  have n2 : (onTheHeap (Value.ref D) && Value.builtin "BaseException.__getattribute__" == Value.builtin "object.__getattribute__") = false := by rw [n1]; rfl
  have n3 : (false && onTheHeap (Value.builtin "BaseException.__getattribute__")) = false := rfl
  unfold getAttr? getAttrBy? getAttrBy
  refine wpAny_bind (wpAny_mkText (wpAny_bind (wpAny_attempt (wpAny_holding (wpAny_bind (a0.at (wpAny_bind (a1.at ?_))))))))
  simp only [n2, Bool.false_eq_true, if_false]
  unfold getAttrByItsOwn hookBefore
  refine wpAny_bind ?_
  rw [if_pos (show onTheHeap (Value.ref D) = true from rfl)]
  refine a2.at (wpAny_bind (wpAny_attempt (wpAny_holding ?_)))
  unfold callGetattribute
  simp only [n3, Bool.false_eq_true, if_false]
  unfold boundAndCalled
  rw [PySem.F.excAttr_ValueError.ga.bind (.ref x)]
  refine wpAny_bind (wpAny_pure ?_)
  show wpAny _ _ (call (.builtin "BaseException.__getattribute__") [.ref x, .str "__class__" t]) _ _ _
  refine wpAny_call (codeAny_call_builtin PySem.F.excAttr_ValueError.ga.plain PySem.F.entry_bexc_ga ?_)
  refine @check_slot (model prog w) _ _ ⟨hp, g, d, t + 1, os⟩ "BaseException.__getattribute__" "BaseException" "__getattribute__" (.ref x) [.str "__class__" t] [] _ (by decide +kernel) (by decide +kernel) a4
    (PySem.F.args_bexc_ga (.ref x) (.str "__class__" t)) ?_
  unfold Builtin.«object.__getattribute__»
  refine wpAny_bind (wpAny_of_eq (a := ((Value.ref x : Value), [Value.str "__class__" t])) (by first | rfl | (simp only [slotArgs]; rfl)) ?_)
  refine wpAny_bind (wpAny_pure (wpAny_bind (a0.at (wpAny_bind (a3.at ?_)))))
  show wpAny _ _ (holding [Value.builtin "object.__class__"] (call (.builtin "getset_descriptor.__get__") [.builtin "object.__class__", .ref x, .ref D]) >>= ret) _ _ _
  refine wpAny_bind (wpAny_holding (wpAny_call (class_get (s := ⟨hp, g, d, t + 1, os⟩) (ox := ox) (od := od) KX I T.hm (wpAny_pure ?_))))
  show wpAny _ _ (handedOut (.ref D)) _ _ _
  rw [handedOut_of (v := .ref D) rfl]
  first
    | exact wpAny_pure h
    | exact wpAny_pure (wpAny_pure h)
    | exact wpAny_pure (wpAny_bind (wpAny_pure (wpAny_pure h)))
theorem cls_there (T : ExcC K D) : ∃ c' d' cd' sl', K.lookup D = some ⟨c', d', .cls cd', sl'⟩ := by
  obtain ⟨cd, hc, _⟩ := any_some T.hd
  unfold clsIn at hc
  split at hc
  · rename_i c' d' cd' sl' ho
    exact ⟨_, _, _, _, ho⟩
  · cases hc
theorem kit_exc (T : ExcC K D) : KitX K (.ref x) (.ref D) (fun h => ∃ od, PySem.W.InstAt h x ox D (some od)) where
  ty := fun _ _ _ ⟨_, I⟩ => I.type
  it := fun _ _ KX _ A' Q' E' s' k q => by
    obtain ⟨_, _, _, _, ho⟩ := cls_there T
    unfold isType loadHead
    exact wpAny_bind (wpAny_loadPart (k _ _ (KX _ _ ho)) (wpAny_pure q))
  ne := fun h tp dd its n sl KX htp => Bool.eq_false_iff.mpr fun q => by
    obtain ⟨_, _, _, _, ho⟩ := cls_there T
    have e : D = tp := Value.ref.inj (beq_iff_eq.mp q)
    subst e
    exact absurd ((KX _ _ ho).symm.trans htp) (by intro z; cases z)
  ca := fun KX ⟨od, I⟩ q => asks_class T (findObj_data (by obtain ⟨cd, hc, _⟩ := any_some T.hd; rw [hc]; rfl) T.ha T.hn T.ht) KX I q
end
/-- isinstance(e, c), e the error that the suite holds: its class cls is D, its dict told by d -/
def rIsD (K : PySem.W.Frag) (D a : Addr) (cls : Value) (d : Option Addr) : List V → Hp → VK → Prop := fun xs H Q => cls = .ref D ∧ ∃ (c : V) (cv : Value) (b : Bool) (dd : Addr) (fs : List (Str × V)),
  xs = [.ref a, c] ∧ ClsV c cv ∧ PySem.W.kitOne K (.ref D) cv = some b ∧ d = some dd ∧ H dd = some (.xd fs) ∧ Q (.bl b) H
theorem call_isD {X : Cx} {a D : Addr} {cls : Value} {d : Option Addr} {oe : Obj} {pn : List (Addr × Obj)} (T : ExcC X.K D) (hz : Zc cls d oe) (hf : ∃ vs, oe.data = .fields vs) :
    CallR (X.suite a ((a, oe) :: pn)) (.builtin "isinstance") (rIsD X.K D a cls d) := by
  intro pins s σ H xs us Q I rv h
  obtain ⟨ec, c, cv, b, dd, fs, rfl, kc, e, e1, ed, q⟩ := h
  subst ec e1
  obtain ⟨u1, u2, rfl, r1, r2⟩ := vals2 rv
  cases r1
  have e2 := kc.eq r2
  subst e2
  obtain ⟨at_, _⟩ := I.pin (a, oe) (List.mem_append.mpr (.inl List.mem_cons_self))
  obtain ⟨vs, hv⟩ := hf
  obtain ⟨mA, hns, _⟩ := I.hok dd _ ed
  obtain ⟨od, ho, _⟩ := lookIn_ns hns
  have J : PySem.W.InstAt s.heap a oe D (some od) := ⟨at_, hz.1, by unfold PySem.W.notCls; rw [hv] <;> rfl, by rw [hz.2]; exact ho⟩
  exact PySem.W.kia_one (kit_exc T) I.kIn ⟨od, J⟩ e (fun z => nomatch z) fun tk => ⟨.bl b, H, I.kept (t' := tk) fun _ _ z => z, rfl, q⟩
/-! ### f(k = e, ..) without a positional argument, in a try's body -/
section
variable {X : Cx} {C : CXT} {k : Nat} {f : Addr} {fd : FuncData} {ps ks : List Str} {sp : Sp} {E : L2.St → XK} {x : Str} {p pos : Pos} {kws : List Keyword} {tk : TA}
theorem pe_callKS (F : FnOk X.prog X.w X.K X.mg X.base C k f fd ps sp) (hr : Room k X.A) (hg : Gl X x) (hm : X.mg x = some (.ref f)) (hk : PySem.W.keepIn X.K (.ref f) = true)
    (hb : ∀ (s : Shared) (ws : List Value), X.K.In s.heap → ws.length = ps.length → BindsTo s fd ⟨[], ks.zip ws⟩ (ps.zip ws)) (hx : ∀ σ, PassesAt C X σ (E σ))
    (hkw : PK X kws tk) (hall : (backToKw pos (keywordEach kws X.env)).all (·.1.isSome) = true := by rfl) (hks : (backToKw pos (keywordEach kws X.env)).filterMap (·.1) = ks := by rfl)
    (hpl : ((backTo pos (starEach [] X.env)).any (·.1) || (backToKw pos (keywordEach kws X.env)).any (·.1.isNone)) = false := by rfl) (hdb : (x == ("__debug__" : Str)) = false := by decide) :
    PE X (.Call (.Name x p) [] kws pos) (fun σ H Q => tk σ H fun vs H1 => sp vs H1 Q (E σ)) := by
  refine ⟨fun pins s σ H Q I h => wpAny_Call_Name_kw (ld_glob I hg hm ?_ hdb)⟩
  refine PySem.W.callWith_KW0 (h₀ := X.base) I.ok.mod.kin hk hall (thn (hkw.run pos pins s σ H _ I h) fun ws s1 ⟨zs, H1, J, rz, q⟩ => ⟨J.kIn, ?_⟩) ?_
  · rw [hks]
    have n : ws.length = ps.length := by rw [← rz.length]; exact F.len _ _ _ _ q
    refine wpAny_call (codeAny_mono (F.run X.A X.stack s1 H1 ⟨[], ks.zip ws⟩ ws zs Q (E σ) hr J.env0 (hb s1 ws J.kIn n) rz q) fun r s' z => ?_)
    match r, z with
    | .error e, z => exact hx σ pins H1 s1 e s' J z
    | .ok (.ret u), z => exact J.after z
    | .ok .next, z => exact z.elim
    | .ok .brk, z => exact z.elim
    | .ok .cont, z => exact z.elim
  · exact hpl
end
end Own


namespace Own
open PySem PySem.Spec PyProof.Rows L2
/-! ### t * 1 is t itself -/
theorem tuple_once (l : Addr) (items : Array Value) (n : Nat) (dd : Option Addr) (sl : Array (Option Value)) (u : Tok) :
    Meets (Builtin.«tuple.__mul__» ⟨[.ref l, .int 1 u], []⟩) (fun _ R s => s.heap.get? l = some { cls := .type "tuple", dict := dd, data := .seq items n, slots := sl } ∧ R (.ok (.ret (.ref l))) s) :=
  .of_wp fun prog w A R s h => by
    obtain ⟨hp, g, d, tk, os⟩ := s
    obtain ⟨hl, h⟩ := h
    have f1 := AutoSeq1.idx_int
    have c0 : (decide ((1 : Int) < -(2 ^ 63)) || decide ((1 : Int) ≥ 2 ^ 63)) = false := by decide
    have c1 : (items.isEmpty || (1 : Int) == 1) = true := by rw [show ((1 : Int) == 1) = true from rfl, Bool.or_true]
    wp_walk using wpAny_loadPart' hl
    repeat (first
      | (refine wpAny_ite_false (decide_eq_false (by rw [c0]; exact Bool.false_ne_true)) ?_; wp_walk using wpAny_loadPart' hl)
      | (refine wpAny_ite_true (decide_eq_true c1) ?_; wp_walk using wpAny_loadPart' hl))
    exact ⟨_, rfl, h⟩
/-- t * 1 -/
def rOnce (K : PySem.W.Frag) : R2 := fun x y H Q => ∃ l xs, x = .ref l ∧ y = .int 1 ∧ SqT K H l xs ∧ Q (.ref l) H
theorem op_once {X : Cx} : OpR X (binaryOp .Mult) (rOnce X.K) := by
  intro pins s σ H x y v u Q I rx ry h
  obtain ⟨l, xs, rfl, rfl, hT, q⟩ := h
  cases rx
  obtain ⟨t, rfl⟩ := ry
  obtain ⟨its, r, ⟨⟨cls, dd, data, sl⟩, ho, hc, n, hd⟩, hs⟩ := I.tuple hT
  simp only at hc hd
  subst hc hd
  exact wpAny_binaryOp_repeat_ref (T := "tuple") (U := "int") (by decide) ⟨_, ho, rfl⟩ (fun s' => typeIs_int s' 1 t) noFill_tuple_mul F.fills_int_mul F.slot_int_rmul repeat_tuple F.slot_int_index.lookup
    (call_meets F.slot_int_rmul (typeIs_int s 1 t) F.entry_int_rmul (F.args_int_rmul_2 _ _) (int_rmul_tuple 1 t l its.toArray n dd sl)
      ⟨ho, rfl, ⟨_, ho, rfl⟩, call_meets F.slot_tuple_mul ⟨_, ho, rfl⟩ F.entry_tuple_mul (F.args_tuple_mul_2 _ _) (tuple_once l its.toArray n dd sl t) ⟨ho, ⟨.ref l, H, I, rfl, q⟩⟩⟩)
/-- t * k, k from 1 on -/
theorem op_times {X : Cx} : OpR X (binaryOp .Mult) (fun x y H Q => rRepT X.K x y H Q ∨ rOnce X.K x y H Q) := OpR.or op_repT op_once
end Own


namespace Own
open PySem PySem.Spec PyProof.Rows L2
/-! ### self.__class__.__name__ of an error that is being made -/
section
open PySem.W PySem.Calls Builtin Builtin.Getset_descriptor
variable {prog : Program} {w : World} {A : Around} {E : Value → Shared → Prop} {s : Shared} {K : Frag} {x D : Addr} {ox : Obj} {od : Option Obj}
/-- what the written part says of an error's class and of its name -/
structure NmC (K : Frag) (D : Addr) (nm : Str) : Prop where
  e : ExcC K D
  rd : readsIn K D (.type "type") = true
  ty : typeIn K (.ref D) = some (.type "type")
  fc : findCls K (.ref D) (.type "type") "__name__" = some (.get (.builtin "getset_descriptor.__get__") (.builtin "type.__name__") (.ref D) (.type "type"))
  sl : ∃ o tk, K.lookup D = some o ∧ (o.slots[2]?).join = some (.str nm tk)
  fn : findIn K (.ref D) "name" = some none
theorem takes_class {Q : Value → Shared → Prop} (T : ExcC K D) (hf : findObj K D od "__class__" = some (.bind (.builtin "getset_descriptor.__get__") (.builtin "object.__class__")))
    (KX : K.In s.heap) (I : PySem.W.InstAt s.heap x ox D od) (h : Q (.ref D) { s with toks := s.toks + 1 }) : wpAny (model prog w) A (getAttr (.ref x) "__class__" true) Q E s := by
  obtain ⟨hp, g, d, t, os⟩ := s
  have a0 := I.type (M := model prog w)
  have a1 := looks_findIn (M := model prog w) KX T.hg
  have a2 := looks_findIn (M := model prog w) KX T.hk
  have a3 := looks_find (M := model prog w) KX I hf
  have a4 : Looks (model prog w) hp (isInstance (.ref x) (.type "BaseException")) true := a0.andThen (looks_subIn KX T.hs)
  have n1 : (Value.builtin "BaseException.__getattribute__" == Value.builtin "object.__getattribute__") = false := by decide +kernel
  have n2 : (onTheHeap (Value.ref D) && Value.builtin "BaseException.__getattribute__" == Value.builtin "object.__getattribute__") = false := by rw [n1]; rfl
  have n3 : (true && onTheHeap (Value.builtin "BaseException.__getattribute__")) = false := rfl
  unfold getAttr getAttrBy
  refine wpAny_bind (wpAny_mkText (wpAny_holding (wpAny_bind (a0.at (wpAny_bind (a1.at ?_))))))
  simp only [n2, Bool.false_eq_true, if_false]
  unfold getAttrByItsOwn hookBefore
  refine wpAny_bind ?_
  rw [if_pos (show onTheHeap (Value.ref D) = true from rfl)]
  refine a2.at (wpAny_bind (wpAny_attempt (wpAny_holding ?_)))
  unfold callGetattribute
  simp only [n3, Bool.false_eq_true, if_false]
  unfold boundAndCalled
  rw [PySem.F.excAttr_ValueError.ga.bind (.ref x)]
  refine wpAny_bind (wpAny_pure ?_)
  show wpAny _ _ (call (.builtin "BaseException.__getattribute__") [.ref x, .str "__class__" t]) _ _ _
  refine wpAny_call (codeAny_call_builtin PySem.F.excAttr_ValueError.ga.plain PySem.F.entry_bexc_ga ?_)
  refine @check_slot (model prog w) _ _ ⟨hp, g, d, t + 1, os⟩ "BaseException.__getattribute__" "BaseException" "__getattribute__" (.ref x) [.str "__class__" t] [] _ (by decide +kernel) (by decide +kernel) a4
    (PySem.F.args_bexc_ga (.ref x) (.str "__class__" t)) ?_
  unfold Builtin.«object.__getattribute__»
  refine wpAny_bind (wpAny_of_eq (a := ((Value.ref x : Value), [Value.str "__class__" t])) (by first | rfl | (simp only [slotArgs]; rfl)) ?_)
  refine wpAny_bind (wpAny_pure (wpAny_bind (a0.at (wpAny_bind (a3.at ?_)))))
  show wpAny _ _ (holding [Value.builtin "object.__class__"] (call (.builtin "getset_descriptor.__get__") [.builtin "object.__class__", .ref x, .ref D]) >>= ret) _ _ _
  refine wpAny_bind (wpAny_holding (wpAny_call (class_get (s := ⟨hp, g, d, t + 1, os⟩) (ox := ox) (od := od) KX I T.hm (wpAny_pure ?_))))
  show wpAny _ _ (handedOut (.ref D)) _ _ _
  rw [handedOut_of (v := .ref D) rfl]
  exact wpAny_pure h
theorem name_get {tp : Value} {nm : Str} {R : Result → Shared → Prop} {o : Obj} {tk : Tok} (KX : K.In s.heap) (ht : typeIn K (.ref D) = some (.type "type")) (ho : K.lookup D = some o) (hs : (o.slots[2]?).join = some (.str nm tk))
    (h : R (.ok (.ret (.str nm tk))) s) : codeAny (model prog w) A (.call (.builtin "getset_descriptor.__get__") ⟨[.builtin "type.__name__", .ref D, tp], []⟩) R s := by
  obtain ⟨hp, g, d, t, os⟩ := s
  have a0 : Looks (model prog w) hp (typeOf (.ref D)) (.type "type") := looks_typeIn KX ht
  have a1 : Looks (model prog w) hp (isSubtype (.type "type") (.type "type")) true := Looks.of_pure (by rw [isSubtype_type]; kernel_rfl)
  refine codeAny_call_builtin KF.slot_gs.plain KF.entry_gs (KF.slot_gs.check _ _ _ _ _ _ _ _ ktyn_type (KF.args_gs _ _ _) ?_)
  unfold Builtin.«getset_descriptor.__get__» descrGet
  rw [dga_obj]
  refine wpAny_bind (wpAny_pure ?_)
  unfold descrGetter descrCheckInstance descrNameAndClass isInstance
  simp only [ktyn_owner]
  repeat lk
  refine ⟨Code.quiet_builtin _ (by decide +kernel), codeAny_builtin ktyn_entry ?_⟩
  unfold Builtin.«type.__name__»
  dsimp only
  unfold keptObject slotAt
  refine wpAny_bind (wpAny_bind (wpAny_loadPart (KX _ _ ho) (wpAny_pure ?_)))
  rw [hs]
  exact wpAny_pure h
theorem takes_name {nm : Str} {Q : Value → Shared → Prop} (N : NmC K D nm) (KX : K.In s.heap) (h : ∀ tk, Q (.str nm tk) { s with toks := s.toks + 1 }) :
    wpAny (model prog w) A (getAttr (.ref D) "__name__" true) Q E s := by
  obtain ⟨o, tk, ho, hs⟩ := N.sl
  refine cls_bind KX N.rd N.fc ?_
  exact wpAny_call (name_get (s := { s with toks := s.toks + 1 }) KX N.ty ho hs (handed_on rfl (h tk)))
end
/-- what is told of the class of an error whose __init__ keeps "what" and "name" -/
def WhC (K : PySem.W.Frag) (C : Addr) : Prop := PySem.W.findIn K (.ref C) "what" = some none ∧ ∃ nm, NmC K C nm
/-- at dd: the dict of such an error -/
def Wh (H : Hp) (dd : Addr) (v : V) : Prop := ∃ nm : Str, H dd = some (.xd [(("name" : Str), .str nm), (("what" : Str), v)])
/-- e.__class__.__name__, e an error that is being made and has its dict -/
def tNameOf (K : PySem.W.Frag) (te : TE) : TE := fun σ H Q => te σ H fun v H1 => ∃ (a C dx : Addr) (fs : List (Str × V)) (nm : Str), v = .ref a ∧ NmC K C nm ∧ H1 a = some (exo a C (some dx)) ∧ H1 dx = some (exd dx fs) ∧ Q (.str nm) H1
theorem pe_nameOf {X : Cx} {e : Expr} {te : TE} {p1 p2 : Pos} (he : PE X e te) (h1 : attributeBase e "__class__" X.env (eval e X.env) = eval e X.env := by rfl)
    (h2 : attributeBase (.Attribute e "__class__" p1) "__name__" X.env (eval (.Attribute e "__class__" p1) X.env) = eval (.Attribute e "__class__" p1) X.env := by rfl) :
    PE X (.Attribute (.Attribute e "__class__" p1) "__name__" p2) (tNameOf X.K te) := by
  refine ⟨fun pins s σ H Q I h => ?_⟩
  refine attr_of h2 (attr_of h1 (thn (he.run pins s σ H _ I h) fun u s1 ⟨v, H1, J, r, a, C, dx, fs, nm, ev, N, ea, ed, q⟩ => ?_))
  subst ev
  obtain rfl : u = Value.ref a := r
  obtain ⟨t1, ho⟩ := exo_at J.hok ea
  obtain ⟨mA, hns, rel⟩ := exd_at J.hok ed
  obtain ⟨oD, _, _, hoD, _, _⟩ := hns.count (within_of rel)
  have W : PySem.W.InstAt s1.heap a _ C (some oD) := ⟨ho, rfl, rfl, hoD⟩
  have T := N.e
  refine takes_class T (PySem.W.findObj_data (by obtain ⟨cd, hc, _⟩ := PySem.W.any_some T.hd; rw [hc]; rfl) T.ha T.hn T.ht) J.kIn W ?_
  refine takes_name N (s := { s1 with toks := s1.toks + 1 }) J.kIn fun tk => ?_
  exact ⟨.str nm, H1, J.kept (t' := s1.toks + 1 + 1) fun _ _ z => z, ⟨tk, rfl⟩, q⟩
end Own


namespace Own
open PySem PySem.Spec PyProof.Rows L2
/-! ### short names of readings -/
abbrev rAddI : R2 := rI0 fun i j => .int (i + j)
abbrev rSubI : R2 := rI0 fun i j => .int (i - j)
abbrev rMulI : R2 := rI CMul fun i j => .int (i * j)
abbrev rModI : R2 := rI (fun _ j => 0 < j) fun i j => .int (i % j)
abbrev rDivI : R2 := rI CDiv fun i j => .int (i / j)
abbrev rPowI : R2 := rI CPow fun i j => .int (i ^ j.toNat)
abbrev rNegI : V → Hp → VK → Prop := rU fun i => .int (-i)
abbrev rLtI : R2 := rI0 fun i j => .bl (decide (i < j))
abbrev rLeI : R2 := rI0 fun i j => .bl (decide (i ≤ j))
abbrev rGtI : R2 := rI0 fun i j => .bl (decide (j < i))
abbrev rGeI : R2 := rI0 fun i j => .bl (decide (j ≤ i))
abbrev rIsN : R2 := fun x y H Q => y = .non ∧ Q (.bl (decide (x = .non))) H
abbrev rNotN : R2 := fun x y H Q => y = .non ∧ Q (.bl (!decide (x = .non))) H
abbrev rTimes (K : PySem.W.Frag) : R2 := fun x y H Q => rRepT K x y H Q ∨ rOnce K x y H Q
abbrev rLenV (K : PySem.W.Frag) : List V → Hp → VK → Prop := fun xs H Q => ∃ x n, xs = [x] ∧ LenV K x H n ∧ Q (.int n) H
abbrev rMax2 : List V → Hp → VK → Prop := fun xs H Q => ∃ i j, xs = [.int i, .int j] ∧ Q (.int (if j > i then j else i)) H
abbrev rMin2 : List V → Hp → VK → Prop := fun xs H Q => ∃ i j, xs = [.int i, .int j] ∧ Q (.int (if j < i then j else i)) H
abbrev rInt1 : List V → Hp → VK → Prop := fun xs H Q => (∃ i, xs = [.int i] ∧ Q (.int i) H) ∨ ∃ k, xs = [.bl k] ∧ Q (.int (if k then 1 else 0)) H
abbrev rListOf (K : PySem.W.Frag) : List V → Hp → VK → Prop := fun xs H Q => ∃ p ys, xs = [.ref p] ∧ (SqL K H p ys ∨ SqT K H p ys) ∧ ∀ l, H l = none → Q (.ref l) (upd H l (.lst ys))
abbrev rTupOf (K : PySem.W.Frag) : List V → Hp → VK → Prop := fun xs H Q => ∃ p ys, xs = [.ref p] ∧ ((SqL K H p ys ∧ ∀ l, H l = none → Q (.ref l) (upd H l (.tup ys))) ∨ (SqT K H p ys ∧ Q (.ref p) H))
def tGo (sp : Sp) (t : TA) : TE := fun σ H Q => t σ H fun vs H1 => sp vs H1 Q E0
def tRaise (E : XK) (t : L2.St → Hp → XK → Prop) : TS := fun _ σ H => t σ H fun cls d H' => E cls d H'
def tTry (K : PySem.W.Frag) (C : Addr) (i : Nat) (tb : WX → TS) (ts : Addr → Value → Option Addr → TS) : TS := fun D σ H => tb (wAs K (.ref C) i ts (fun _ _ _ _ => False) D) D σ H
/-- a def of the text, at f, under its name -/
structure DefAt (K : PySem.W.Frag) (mg : Str → Option Value) (x : Str) (st : Stmt) (ps : List Str) (f : Addr) (fd : FuncData) : Prop where
  F : Fun K x x st f fd
  g : mg x = some (.ref f)
  b : Binds K fd ps []
/-- the __init__ of an error's class: self.what = what, self.name = its class's name -/
def spInit (K : PySem.W.Frag) : Sp := fun vs H Q _ => ∃ (a C : Addr) (v : V) (nm : Str), vs = [.ref a, v] ∧ OexC K C ∧ PySem.W.findIn K (.ref C) "what" = some none ∧ NmC K C nm ∧ H a = some (exo a C none) ∧
  ∀ dx, H dx = none → dx ≠ a → Q .non (upd (upd (upd H dx (exd dx [(("what" : Str), v)])) a (exo a C (some dx))) dx (exd dx [(("name" : Str), .str nm), (("what" : Str), v)]))
end Own


namespace Own
open PySem PySem.Spec PyProof.Rows L2
open Evl (Ex RetV)
/-! ### data without lists, of a bounded text -/
def fine : Nat → PyData → Bool
  | _, .none => true
  | _, .bool _ => true
  | _, .int i => decide (i.natAbs < 2 ^ 64)
  | _, .str x => decide ((reprText x).length ≤ 50) && PyData.canLay0 (.str x)
  | 0, _ => false
  | k + 1, .tuple xs => decide (xs.length ≤ 20) && xs.all (fine k)
  | _ + 1, _ => false
/-- no list, no table of code objects -/
structure Fx (o : HO) : Prop where
  l : ∀ xs, o ≠ .lst xs
  t : ∀ ps, o ≠ .tbl ps
/-- all but lists (and tables of code objects) is kept -/
def Kp (H H' : Hp) : Prop := ∀ a o, H a = some o → Fx o → H' a = some o
theorem Kp.refl (H : Hp) : Kp H H := fun _ _ h _ => h
theorem Kp.trans {H H1 H2 : Hp} (a : Kp H H1) (b : Kp H1 H2) : Kp H H2 := fun x o h n => b x o (a x o h n) n
theorem Kp.ex {H H' : Hp} (e : Ex H H') : Kp H H' := fun a o h _ => e a o h
theorem Kp.lst {H : Hp} {l : Addr} {xs ys : List V} (h : H l = some (.lst xs)) : Kp H (upd H l (.lst ys)) := fun a o q n => by
  by_cases e : a = l
  · subst e
    rw [h] at q
    injection q with q
    exact absurd q.symm (n.l xs)
  · rw [upd_ne e]
    exact q
theorem Kp.new {H : Hp} {l : Addr} {o : HO} (h : H l = none) : Kp H (upd H l o) := .ex (Evl.Ex.new h)
theorem Kp.rd {H H' : Hp} {a : Addr} {xs : List V} (e : Kp H H') (h : Rd H a (.tup xs)) : Rd H' a (.tup xs) := by
  rcases h with h | ⟨o, h⟩
  · exact .inl (e a _ h ⟨(fun _ z => by cases z), (fun _ z => by cases z)⟩)
  · exact .inr ⟨o, e a _ h ⟨(fun _ z => by cases z), (fun _ z => by cases z)⟩⟩
theorem Kp.sqT {K : PySem.W.Frag} {H H' : Hp} {a : Addr} {xs : List V} (e : Kp H H') (h : SqT K H a xs) : SqT K H' a xs := h.elim (fun h => .inl (e.rd h)) .inr
/-- v reads as d -/
structure Gd (K : PySem.W.Frag) (H : Hp) (k : Nat) (v : V) (d : PyData) : Prop where
  dp : Dp K H v d
  fn : fine k d = true
mutual
theorem dp_kp {K : PySem.W.Frag} {H H' : Hp} (e : Kp H H') : ∀ (d : PyData) (k : Nat) (v : V), Dp K H v d → fine k d = true → Dp K H' v d
  | .none, _, _, h, _ => by cases h; exact .non
  | .bool b, _, _, h, _ => by cases h; exact .bl b
  | .int i, _, _, h, _ => by cases h; exact .int i
  | .str x, _, _, h, _ => by cases h; exact .str x
  | .list ds, k, _, _, f => by cases k <;> simp [fine] at f
  | .tuple ds, 0, _, _, f => by simp [fine] at f
  | .tuple ds, k + 1, _, h, f => by
    cases h with
    | tup hs ha =>
      simp only [fine, Bool.and_eq_true, decide_eq_true_eq] at f
      exact .tup (e.sqT hs) (dpAll_kp e ds k _ ha (List.all_eq_true.mp f.2))
  | .dict _, _, _, h, _ => by cases h
theorem dpAll_kp {K : PySem.W.Frag} {H H' : Hp} (e : Kp H H') : ∀ (ds : List PyData) (k : Nat) (vs : List V), DpAll K H vs ds → (∀ d ∈ ds, fine k d = true) → DpAll K H' vs ds
  | [], _, _, h, _ => by cases h; exact .nil
  | d :: ds, k, _, h, f => by
    cases h with
    | cons h1 h2 => exact .cons (dp_kp e d k _ h1 (f d List.mem_cons_self)) (dpAll_kp e ds k _ h2 fun x hx => f x (List.mem_cons_of_mem _ hx))
end
theorem Gd.kp {K : PySem.W.Frag} {H H' : Hp} {k : Nat} {v : V} {d : PyData} (e : Kp H H') (g : Gd K H k v d) : Gd K H' k v d := ⟨dp_kp e d k v g.dp g.fn, g.fn⟩
theorem Gd.ex {K : PySem.W.Frag} {H H' : Hp} {k : Nat} {v : V} {d : PyData} (e : Ex H H') (g : Gd K H k v d) : Gd K H' k v d := g.kp (.ex e)
theorem fine_up : ∀ {k j : Nat} {d : PyData}, k ≤ j → fine k d = true → fine j d = true
  | k, j, .none, _, _ => by cases j <;> rfl
  | k, j, .bool _, _, _ => by cases j <;> rfl
  | k, j, .int i, _, h => by cases k <;> cases j <;> exact h
  | k, j, .str x, _, h => by cases k <;> cases j <;> exact h
  | 0, _, .list _, _, h => by simp [fine] at h
  | _ + 1, _, .list _, _, h => by simp [fine] at h
  | 0, _, .dict _, _, h => by simp [fine] at h
  | _ + 1, _, .dict _, _, h => by simp [fine] at h
  | 0, _, .tuple _, _, h => by simp [fine] at h
  | k + 1, 0, .tuple _, l, _ => by omega
  | k + 1, j + 1, .tuple xs, l, h => by
    simp only [fine, Bool.and_eq_true, decide_eq_true_eq, List.all_eq_true] at h ⊢
    exact ⟨h.1, fun d hd => fine_up (by omega) (h.2 d hd)⟩
theorem Gd.up {K : PySem.W.Frag} {H : Hp} {k j : Nat} {v : V} {d : PyData} (l : k ≤ j) (g : Gd K H k v d) : Gd K H j v d := ⟨g.dp, fine_up l g.fn⟩
/-! ### its text -/
def mostText : Nat → Nat
  | 0 => 50
  | k + 1 => 20 * (mostText k + 2) + 2
theorem mostText_ge : ∀ k, 50 ≤ mostText k
  | 0 => Nat.le_refl _
  | k + 1 => by have := mostText_ge k; show 50 ≤ 20 * (mostText k + 2) + 2; omega
theorem tuple_text (ts : List Str) : (tupleText ts).length ≤ piled ts + 2 := PySem.fmt_text ts
end Own
namespace Own
open PySem PySem.Spec PyProof.Rows L2
open Evl (Ex RetV)
theorem digits_len (i : Int) (h : i.natAbs < 2 ^ 64) : ((toString i : String) : Str).length ≤ 50 := by
  have e := int_text_length_le10 (a := i) (k := 20) (by decide) (Nat.lt_of_lt_of_le h (by decide))
  rw [PySem.ofString_length]
  omega
mutual
theorem text_le : ∀ (d : PyData) (k : Nat), fine k d = true → d.shown.length ≤ mostText k
  | .none, k, _ => Nat.le_trans (by simp only [PyData.shown]; decide +kernel) (mostText_ge k)
  | .bool true, k, _ => Nat.le_trans (by simp only [PyData.shown]; decide +kernel) (mostText_ge k)
  | .bool false, k, _ => Nat.le_trans (by simp only [PyData.shown]; decide +kernel) (mostText_ge k)
  | .int i, k, f => by
    have h : i.natAbs < 2 ^ 64 := by cases k <;> simpa [fine] using f
    simp only [PyData.shown]
    exact Nat.le_trans (digits_len i h) (mostText_ge k)
  | .str x, k, f => by
    have h : (reprText x).length ≤ 50 := by cases k <;> exact of_decide_eq_true (Bool.and_eq_true_iff.mp f).1
    simp only [PyData.shown]
    exact Nat.le_trans h (mostText_ge k)
  | .list _, k, f => by cases k <;> simp [fine] at f
  | .dict _, k, f => by cases k <;> simp [fine] at f
  | .tuple _, 0, f => by simp [fine] at f
  | .tuple xs, k + 1, f => by
    simp only [fine, Bool.and_eq_true, decide_eq_true_eq] at f
    have h1 := texts_le xs k (List.all_eq_true.mp f.2)
    have h2 := tuple_text (PyData.shownAll xs)
    simp only [PyData.shown]
    have h3 : xs.length * (mostText k + 2) ≤ 20 * (mostText k + 2) := Nat.mul_le_mul_right _ f.1
    show _ ≤ 20 * (mostText k + 2) + 2
    omega
theorem texts_le : ∀ (ds : List PyData) (k : Nat), (∀ d ∈ ds, fine k d = true) → piled (PyData.shownAll ds) ≤ ds.length * (mostText k + 2)
  | [], _, _ => by simp [PyData.shownAll, piled]
  | d :: ds, k, f => by
    have h1 := text_le d k (f d List.mem_cons_self)
    have h2 := texts_le ds k fun x hx => f x (List.mem_cons_of_mem _ hx)
    simp only [PyData.shownAll, piled_cons, List.length_cons, Nat.succ_mul]
    omega
end
mutual
theorem shows : ∀ (d : PyData) (k : Nat), fine k d = true → d.showable = true ∧ d.hasDict = false ∧ d.depth ≤ k + 1
  | .none, k, _ => ⟨rfl, rfl, by simp [PyData.depth]⟩
  | .bool _, k, _ => ⟨rfl, rfl, by simp [PyData.depth]⟩
  | .str x, k, _ => ⟨rfl, rfl, by simp [PyData.depth]⟩
  | .int i, k, f => by
    have h : i.natAbs < 2 ^ 64 := by cases k <;> simpa [fine] using f
    refine ⟨?_, rfl, by simp [PyData.depth]⟩
    simp only [PyData.showable, decide_eq_true_eq]
    by_cases z : i.natAbs = 0
    · rw [z]; decide
    · have := (Nat.log2_lt z).mpr h
      omega
  | .list _, k, f => by cases k <;> simp [fine] at f
  | .dict _, k, f => by cases k <;> simp [fine] at f
  | .tuple _, 0, f => by simp [fine] at f
  | .tuple xs, k + 1, f => by
    simp only [fine, Bool.and_eq_true, decide_eq_true_eq] at f
    have h := showsAll xs k (List.all_eq_true.mp f.2)
    refine ⟨by simpa only [PyData.showable] using h.1, by simpa only [PyData.hasDict] using h.2.1, ?_⟩
    simp only [PyData.depth]
    omega
theorem showsAll : ∀ (ds : List PyData) (k : Nat), (∀ d ∈ ds, fine k d = true) → PyData.showableAll ds = true ∧ PyData.hasDictAll ds = false ∧ PyData.depthAll ds ≤ k + 1
  | [], k, _ => ⟨rfl, rfl, by simp [PyData.depthAll]⟩
  | d :: ds, k, f => by
    have h1 := shows d k (f d List.mem_cons_self)
    have h2 := showsAll ds k fun x hx => f x (List.mem_cons_of_mem _ hx)
    refine ⟨by simp [PyData.showableAll, h1.1, h2.1], by simp [PyData.hasDictAll, h1.2.1, h2.2.1], ?_⟩
    simp only [PyData.depthAll]
    omega
end
end Own


namespace Own
open PySem PySem.Spec PyProof.Rows L2
open Evl (Ex RetV)
theorem kit_self {K : PySem.W.Frag} {C : Addr} : PySem.W.kitOne K (.ref C) (.ref C) = some true := if_pos (beq_self_eq_true _)
/-! ### what is asked of data -/
def tyOf : PyData → String
  | .none => "NoneType"
  | .bool _ => "bool"
  | .int _ => "int"
  | .str _ => "str"
  | .list _ => "list"
  | .tuple _ => "tuple"
  | .dict _ => "dict"
theorem tyx {K : PySem.W.Frag} {H : Hp} {v : V} {d : PyData} (h : Dp K H v d) (n : ∀ xs, d ≠ .list xs) : TyX K H v (.type (tyOf d)) := by
  cases h with
  | non => exact .base .non
  | bl b => exact .base (.bl b)
  | int i => exact .base (.int i)
  | str x => exact .base (.str x)
  | lst hs _ => exact absurd rfl (n _)
  | tup hs _ =>
    rcases hs with (h | ⟨o, h⟩) | ⟨o, its, n, h, hc, _⟩
    · exact .base (.tup h)
    · exact .fTuple h
    · exact .kTuple h hc
theorem fine_nl {k : Nat} {d : PyData} (f : fine k d = true) : ∀ xs, d ≠ .list xs := fun xs e => by
  subst e
  cases k <;> simp [fine] at f
theorem fine_nd {k : Nat} {d : PyData} (f : fine k d = true) : ∀ xs, d ≠ .dict xs := fun xs e => by
  subst e
  cases k <;> simp [fine] at f
/-- isinstance of data and a built-in type -/
theorem isi_d {K : PySem.W.Frag} {H : Hp} {k : Nat} {v : V} {d : PyData} {t : String} {b : Bool} {Q : VK} (g : Gd K H k v d) (e : kitB (tyOf d) t = some b) (q : Q (.bl b) H) : rIsi K [v, .ty t] H Q :=
  ⟨v, .ty t, _, .type t, b, rfl, .ty t, tyx g.dp (fine_nl g.fn), kit_ty e, q⟩
def isI : PyData → Bool
  | .bool _ => true
  | .int _ => true
  | _ => false
def isB : PyData → Bool
  | .bool _ => true
  | _ => false
def isT : PyData → Bool
  | .tuple _ => true
  | _ => false
theorem isi_int {K : PySem.W.Frag} {H : Hp} {k : Nat} {v : V} {d : PyData} {Q : VK} (g : Gd K H k v d) (q : Q (.bl (isI d)) H) : rIsi K [v, .ty "int"] H Q := by
  refine isi_d (b := isI d) g ?_ q
  cases d with
  | none => exact (by decide +kernel : kitB "NoneType" "int" = some false)
  | bool b => exact (by decide +kernel : kitB "bool" "int" = some true)
  | int i => exact (by decide +kernel : kitB "int" "int" = some true)
  | str x => exact (by decide +kernel : kitB "str" "int" = some false)
  | list xs => exact (by decide +kernel : kitB "list" "int" = some false)
  | tuple xs => exact (by decide +kernel : kitB "tuple" "int" = some false)
  | dict xs => exact (by decide +kernel : kitB "dict" "int" = some false)
theorem isi_bool {K : PySem.W.Frag} {H : Hp} {k : Nat} {v : V} {d : PyData} {Q : VK} (g : Gd K H k v d) (q : Q (.bl (isB d)) H) : rIsi K [v, .ty "bool"] H Q := by
  refine isi_d (b := isB d) g ?_ q
  cases d with
  | none => exact (by decide +kernel : kitB "NoneType" "bool" = some false)
  | bool b => exact (by decide +kernel : kitB "bool" "bool" = some true)
  | int i => exact (by decide +kernel : kitB "int" "bool" = some false)
  | str x => exact (by decide +kernel : kitB "str" "bool" = some false)
  | list xs => exact (by decide +kernel : kitB "list" "bool" = some false)
  | tuple xs => exact (by decide +kernel : kitB "tuple" "bool" = some false)
  | dict xs => exact (by decide +kernel : kitB "dict" "bool" = some false)
theorem isi_tup {K : PySem.W.Frag} {H : Hp} {k : Nat} {v : V} {d : PyData} {Q : VK} (g : Gd K H k v d) (q : Q (.bl (isT d)) H) : rIsi K [v, .ty "tuple"] H Q := by
  refine isi_d (b := isT d) g ?_ q
  cases d with
  | none => exact (by decide +kernel : kitB "NoneType" "tuple" = some false)
  | bool b => exact (by decide +kernel : kitB "bool" "tuple" = some false)
  | int i => exact (by decide +kernel : kitB "int" "tuple" = some false)
  | str x => exact (by decide +kernel : kitB "str" "tuple" = some false)
  | list xs => exact (by decide +kernel : kitB "list" "tuple" = some false)
  | tuple xs => exact (by decide +kernel : kitB "tuple" "tuple" = some true)
  | dict xs => exact (by decide +kernel : kitB "dict" "tuple" = some false)
/-- a number from lo to hi -/
def within (d : PyData) (lo hi : Int) : Bool := match d with
  | .int i => decide (lo ≤ i) && decide (i ≤ hi)
  | _ => false
theorem dpAll_len {K : PySem.W.Frag} {H : Hp} : ∀ {vs : List V} {ds : List PyData}, DpAll K H vs ds → vs.length = ds.length
  | _, _, .nil => rfl
  | _, _, .cons _ t => congrArg Nat.succ (dpAll_len t)
theorem dpAll_get {K : PySem.W.Frag} {H : Hp} : ∀ {vs : List V} {ds : List PyData} {i : Nat} {v : V}, DpAll K H vs ds → vs[i]? = some v → ∃ d, ds[i]? = some d ∧ Dp K H v d
  | _, _, _, _, .nil, e => by simp at e
  | _, _, 0, _, .cons h _, e => by simp at e; subst e; exact ⟨_, rfl, h⟩
  | _, _, i + 1, v, .cons _ t, e => by
    obtain ⟨d, h1, h2⟩ := dpAll_get (i := i) (v := v) t (by simpa using e)
    exact ⟨d, by simpa using h1, h2⟩
/-- a tuple of data: where it stands, its items -/
theorem Gd.tup {K : PySem.W.Frag} {H : Hp} {k : Nat} {v : V} {ds : List PyData} (g : Gd K H k v (.tuple ds)) : ∃ a xs j, v = .ref a ∧ k = j + 1 ∧ SqT K H a xs ∧ xs.length = ds.length ∧ ds.length ≤ 20 ∧ DpAll K H xs ds ∧ (∀ d ∈ ds, fine j d = true) ∧
    ∀ (i : Nat) (x : V), xs[i]? = some x → ∃ d, ds[i]? = some d ∧ Gd K H j x d := by
  obtain ⟨h, f⟩ := g
  cases h with
  | tup hs ha =>
    rename_i a xs
    match k, f with
    | 0, f => simp [fine] at f
    | j + 1, f =>
      simp only [fine, Bool.and_eq_true, decide_eq_true_eq] at f
      have fa := List.all_eq_true.mp f.2
      exact ⟨a, xs, j, rfl, rfl, hs, dpAll_len ha, f.1, ha, fa, fun i x e => let ⟨d, h1, h2⟩ := dpAll_get ha e; ⟨d, h1, h2, fa d (List.mem_of_getElem? h1)⟩⟩
/-- the text of data, asked -/
theorem show_d {K : PySem.W.Frag} {H : Hp} {k : Nat} {v : V} {d : PyData} {Q : VK} (g : Gd K H k v d) (hk : k ≤ 4) (q : Q (.str d.shown) H) : rShow K [v] H Q := by
  obtain ⟨h1, h2, h3⟩ := shows d k g.fn
  have h4 := text_le d k g.fn
  have h5 : mostText k ≤ sizeLine := by
    match k, hk with
    | 0, _ => decide
    | 1, _ => decide
    | 2, _ => decide
    | 3, _ => decide
    | 4, _ => decide
  exact ⟨v, d, rfl, g.dp, ⟨h1, h2, by omega, by omega⟩, q⟩
theorem gd_bl {K : PySem.W.Frag} {H : Hp} {b : Bool} : Gd K H 0 (.bl b) (.bool b) := ⟨.bl b, rfl⟩
theorem gd_int {K : PySem.W.Frag} {H : Hp} {i : Int} (h : i.natAbs < 2 ^ 64) : Gd K H 0 (.int i) (.int i) := ⟨.int i, decide_eq_true h⟩
theorem gd_non {K : PySem.W.Frag} {H : Hp} : Gd K H 0 .non .none := ⟨.non, rfl⟩
theorem gd_str {K : PySem.W.Frag} {H : Hp} {x : Str} (h : fine 0 (.str x) = true) : Gd K H 0 (.str x) (.str x) := ⟨.str x, h⟩
end Own


namespace Own
open PySem PySem.Spec PyProof.Rows L2
open Evl
section
variable {K : PySem.W.Frag} {σ : L2.St} {H H' : Hp} {ta tb tc te : TE} {x y v : V} {k : Nat} {d : PyData} {D : Ends}
theorem ev_isi {t : String} {b : Bool} (h : Ev ta σ H x) (r : ∀ H1, Ex H H1 → ∀ Q : VK, Q (.bl b) H1 → rIsi K [x, .ty t] H1 Q) : Ev (tCB (rIsi K) (tCons ta (tCons (tC (.ty t)) tNil))) σ H (.bl b) :=
  fun H1 e Q q => h H1 e _ fun H2 e2 => r H2 (e.trans e2) Q (q H2 e2)
theorem ev_isI (h : Ev ta σ H x) (g : Gd K H k x d) : Ev (tCB (rIsi K) (tCons ta (tCons (tC (.ty "int")) tNil))) σ H (.bl (isI d)) := ev_isi h fun _ e _ q => isi_int (g.ex e) q
theorem ev_isB (h : Ev ta σ H x) (g : Gd K H k x d) : Ev (tCB (rIsi K) (tCons ta (tCons (tC (.ty "bool")) tNil))) σ H (.bl (isB d)) := ev_isi h fun _ e _ q => isi_bool (g.ex e) q
theorem ev_isT (h : Ev ta σ H x) (g : Gd K H k x d) : Ev (tCB (rIsi K) (tCons ta (tCons (tC (.ty "tuple")) tNil))) σ H (.bl (isT d)) := ev_isi h fun _ e _ q => isi_tup (g.ex e) q
theorem ev_chain {i j l : Int} (ha : Ev ta σ H (.int i)) (hb : Ev tb σ H (.int j)) (hc : Ev tc σ H (.int l)) : Ev (tChain rLeI rLeI ta tb tc) σ H (.bl (decide (i ≤ j) && decide (j ≤ l))) :=
  fun H1 e Q q => ha H1 e _ fun H2 e2 => hb H2 (e.trans e2) _ fun H3 e3 => ⟨i, j, rfl, rfl, _, rfl, by
    by_cases c : i ≤ j
    · rw [decide_eq_true c]
      exact iteT (hc H3 ((e.trans e2).trans e3) _ fun H4 e4 => ⟨j, l, rfl, rfl, by simpa [c] using q H4 ((e2.trans e3).trans e4)⟩)
    · rw [decide_eq_false c]
      exact iteF (by simpa [c] using q H3 (e2.trans e3))⟩
theorem ev_lenT {a : Addr} {xs : List V} (h : Ev ta σ H (.ref a)) (hs : SqT K H a xs) : Ev (tCB (rLenV K) (tCons ta tNil)) σ H (.int (xs.length : Int)) :=
  fun H1 e Q q => h H1 e _ fun H2 e2 => ⟨_, _, rfl, .inr ⟨xs, ex_t (e.trans e2) hs, rfl⟩, q H2 e2⟩
theorem ev_lenL {a : Addr} {xs : List V} (h : Ev ta σ H (.ref a)) (hs : SqL K H a xs) : Ev (tCB (rLenV K) (tCons ta tNil)) σ H (.int (xs.length : Int)) :=
  fun H1 e Q q => h H1 e _ fun H2 e2 => ⟨_, _, rfl, .inl ⟨xs, ex_l (e.trans e2) hs, rfl⟩, q H2 e2⟩
theorem ev_addI {i j : Int} (ha : Ev ta σ H (.int i)) (hb : Ev tb σ H (.int j)) : Ev (tOp rAddI ta tb) σ H (.int (i + j)) := ev_op ha hb rv_I0
theorem ev_subI {i j : Int} (ha : Ev ta σ H (.int i)) (hb : Ev tb σ H (.int j)) : Ev (tOp rSubI ta tb) σ H (.int (i - j)) := ev_op ha hb rv_I0
theorem ev_mulI {i j : Int} (ha : Ev ta σ H (.int i)) (hb : Ev tb σ H (.int j)) (c : CMul i j) : Ev (tOp rMulI ta tb) σ H (.int (i * j)) := ev_op ha hb (rv_I (C := CMul) c)
theorem ev_modI {i j : Int} (ha : Ev ta σ H (.int i)) (hb : Ev tb σ H (.int j)) (c : 0 < j) : Ev (tOp rModI ta tb) σ H (.int (i % j)) := ev_op ha hb (rv_I (C := fun _ j => 0 < j) c)
theorem ev_ltI {i j : Int} (ha : Ev ta σ H (.int i)) (hb : Ev tb σ H (.int j)) : EvT (tTest (tOp rLtI ta tb)) σ H (decide (i < j)) := et_test (ev_op ha hb rv_I0)
theorem ev_leI {i j : Int} (ha : Ev ta σ H (.int i)) (hb : Ev tb σ H (.int j)) : EvT (tTest (tOp rLeI ta tb)) σ H (decide (i ≤ j)) := et_test (ev_op ha hb rv_I0)
theorem ev_gtI {i j : Int} (ha : Ev ta σ H (.int i)) (hb : Ev tb σ H (.int j)) : EvT (tTest (tOp rGtI ta tb)) σ H (decide (j < i)) := et_test (ev_op ha hb rv_I0)
theorem ev_geI {i j : Int} (ha : Ev ta σ H (.int i)) (hb : Ev tb σ H (.int j)) : EvT (tTest (tOp rGeI ta tb)) σ H (decide (j ≤ i)) := et_test (ev_op ha hb rv_I0)
theorem dec_int' {i j : Int} : decide (V.int i = V.int j) = decide (i = j) := by
  by_cases h : i = j
  · subst h; simp
  · simp [h]
theorem ev_eqI {i j : Int} (ha : Ev ta σ H (.int i)) (hb : Ev tb σ H (.int j)) : Ev (tOp rEq ta tb) σ H (.bl (decide (i = j))) := by
  rw [← dec_int']
  exact ev_op ha hb (rv_eq rfl)
theorem ev_neI {i j : Int} (ha : Ev ta σ H (.int i)) (hb : Ev tb σ H (.int j)) : Ev (tOp rNe ta tb) σ H (.bl (!decide (i = j))) := by
  rw [← dec_int']
  exact ev_op ha hb (rv_ne rfl)
theorem et_eqI {i j : Int} (ha : Ev ta σ H (.int i)) (hb : Ev tb σ H (.int j)) : EvT (tTest (tOp rEq ta tb)) σ H (decide (i = j)) := et_test (ev_eqI ha hb)
theorem et_neI {i j : Int} (ha : Ev ta σ H (.int i)) (hb : Ev tb σ H (.int j)) : EvT (tTest (tOp rNe ta tb)) σ H (!decide (i = j)) := et_test (ev_neI ha hb)
theorem ev_isN (ha : Ev ta σ H x) : Ev (tOp rIsN ta (tC .non)) σ H (.bl (decide (x = .non))) := fun H1 e Q q => ha H1 e _ fun H2 e2 => ⟨rfl, q H2 e2⟩
theorem ev_notN (ha : Ev ta σ H x) : Ev (tOp rNotN ta (tC .non)) σ H (.bl (!decide (x = .non))) := fun H1 e Q q => ha H1 e _ fun H2 e2 => ⟨rfl, q H2 e2⟩
theorem ev_min2 {i j : Int} (ha : Ev ta σ H (.int i)) (hb : Ev tb σ H (.int j)) : Ev (tCB rMin2 (tCons ta (tCons tb tNil))) σ H (.int (if j < i then j else i)) :=
  fun H1 e Q q => ha H1 e _ fun H2 e2 => hb H2 (e.trans e2) _ fun H3 e3 => ⟨i, j, rfl, q H3 (e2.trans e3)⟩
theorem ev_max2 {i j : Int} (ha : Ev ta σ H (.int i)) (hb : Ev tb σ H (.int j)) : Ev (tCB rMax2 (tCons ta (tCons tb tNil))) σ H (.int (if j > i then j else i)) :=
  fun H1 e Q q => ha H1 e _ fun H2 e2 => hb H2 (e.trans e2) _ fun H3 e3 => ⟨i, j, rfl, q H3 (e2.trans e3)⟩
theorem ev_int1 {i : Int} (ha : Ev ta σ H (.int i)) : Ev (tCB rInt1 (tCons ta tNil)) σ H (.int i) := fun H1 e Q q => ha H1 e _ fun H2 e2 => .inl ⟨i, rfl, q H2 e2⟩
theorem ev_intB {b : Bool} (ha : Ev ta σ H (.bl b)) : Ev (tCB rInt1 (tCons ta tNil)) σ H (.int (if b then 1 else 0)) := fun H1 e Q q => ha H1 e _ fun H2 e2 => .inr ⟨b, rfl, q H2 e2⟩
theorem ev_ixL {a : Addr} {xs : List V} {i : Int} (ha : Ev ta σ H (.ref a)) (hb : Ev tb σ H (.int i)) (hs : SqL K H a xs) (h : atI xs i = some v) : Ev (tOp (rIxL K) ta tb) σ H v := ev_op ha hb (rv_ixL hs h)
theorem ev_ixT {a : Addr} {xs : List V} {i : Int} (ha : Ev ta σ H (.ref a)) (hb : Ev tb σ H (.int i)) (hs : SqT K H a xs) (h : atI xs i = some v) : Ev (tOp (rIxT K) ta tb) σ H v := ev_op ha hb (rv_ixT hs h)
theorem ea_1 (h : Ev ta σ H x) : EvA (tCons ta tNil) σ H [x] := ea_cons h ea_nil
theorem ea_2 (h : Ev ta σ H x) (h2 : Ev tb σ H y) : EvA (tCons ta (tCons tb tNil)) σ H [x, y] := ea_cons h (ea_1 h2)
theorem ea_3 (h : Ev ta σ H x) (h2 : Ev tb σ H y) (h3 : Ev tc σ H v) : EvA (tCons ta (tCons tb (tCons tc tNil))) σ H [x, y, v] := ea_cons h (ea_2 h2 h3)
/-- a promise of a value alone, as Evl has it -/
theorem spv {sp : Sp} {vs : List V} {z : V} (h : ∀ H1, Ex H H1 → ∀ Q : VK, RetV z H1 Q → ∀ E : XK, sp vs H1 Q E) : SpV sp vs H z := fun H1 e Q q E => h H1 e Q q E
end
end Own


namespace Own
open PySem PySem.Spec PyProof.Rows L2
open Evl
section
variable {K : PySem.W.Frag} {σ : L2.St} {H H' : Hp} {ta tb tc te : TE} {t : TT} {x y v : V} {k : Nat} {d : PyData} {D : Ends}
/-- over a range from lo -/
theorem el_lcRg {ta : TA} {j : Nat} {vs : List Nat} {lo hi : Int} (f : Nat → Bool) (v : Nat → V) (h : EvA ta σ H [.int lo, .int hi]) (h1 : 0 ≤ lo ∧ lo ≤ 100000) (h2 : lo ≤ hi ∧ hi ≤ lo + 40000) (hw : ∀ x, wipe ((wipe σ vs).set j (some x)) vs = wipe σ vs)
    (ht : ∀ (i : Nat) H1, Ex H H1 → (i : Int) < hi - lo → EvT t ((wipe σ vs).set j (some (.int (lo + (i : Int))))) H1 (f i)) (he : ∀ (i : Nat) H1, Ex H H1 → (i : Int) < hi - lo → f i = true → Ev te ((wipe σ vs).set j (some (.int (lo + (i : Int))))) H1 (v i)) :
    EvL (tLc (iRng2 ta) (gName j) t te vs) σ H (given (hi - lo).toNat f v) := fun H0 e Q q => h H0 e _ fun H1 e1 => ⟨lo, hi, rfl, ⟨by omega, by omega, by omega, by omega⟩, fun Dl hD =>
  lc_range (lo := lo) (n := (hi - lo).toNat) (Cw H1 f v Dl) ⟨hD, Ex.new hD, upd_same⟩
    (fun i H' hi p => ⟨hw _, cw_turn p (by omega) (ht i H1 (e.trans e1) (by omega)) (fun hf => he i H1 (e.trans e1) (by omega) hf)⟩) (fun H' p => q Dl H' (fresh_back e1 p.1) (e1.trans p.2.1) p.2.2)⟩
/-- over a tuple -/
theorem el_lcTp {a : Addr} {xs : List V} {tl : TE} {j : Nat} {vs : List Nat} (f : Nat → Bool) (v : Nat → V) (h : Ev tl σ H (.ref a)) (hx : SqT K H a xs) (hz : xs.length ≤ 40000) (hw : ∀ x, wipe ((wipe σ vs).set j (some x)) vs = wipe σ vs)
    (ht : ∀ (i : Nat) (x : V) H1, Ex H H1 → xs[i]? = some x → EvT t ((wipe σ vs).set j (some x)) H1 (f i)) (he : ∀ (i : Nat) (x : V) H1, Ex H H1 → xs[i]? = some x → f i = true → Ev te ((wipe σ vs).set j (some x)) H1 (v i)) :
    EvL (tLc (iTup K tl) (gName j) t te vs) σ H (given xs.length f v) := fun H0 e Q q => h H0 e _ fun H1 e1 => ⟨a, rfl, ⟨xs, ex_t (e.trans e1) hx⟩, fun Dl hD =>
  lc_tup (xs := xs) (Cw H1 f v Dl) ⟨hD, Ex.new hD, upd_same⟩ (fun i H' _ p => ex_t ((e.trans e1).trans p.2.1) hx)
    (fun i x H' hi p => ⟨hw x, cw_turn p (by have := (List.getElem?_eq_some_iff.mp hi).1; omega) (ht i x H1 (e.trans e1) hi) (fun hf => he i x H1 (e.trans e1) hi hf)⟩) (fun H' p => q Dl H' (fresh_back e1 p.1) (e1.trans p.2.1) p.2.2)⟩
theorem et_yes : EvT tYes σ H true := fun H1 e Q q => q H1 (.refl _)
mutual
theorem fine_lay : ∀ (d : PyData) (k : Nat), fine k d = true → d.canLay0 = true
  | .none, _, _ => rfl
  | .bool _, _, _ => rfl
  | .int _, _, _ => rfl
  | .str x, k, f => by cases k <;> exact (Bool.and_eq_true_iff.mp f).2
  | .list _, k, f => by cases k <;> simp [fine] at f
  | .dict _, k, f => by cases k <;> simp [fine] at f
  | .tuple _, 0, f => by simp [fine] at f
  | .tuple xs, k + 1, f => by
    simp only [fine, Bool.and_eq_true, decide_eq_true_eq] at f
    have h := fine_layAll xs k (List.all_eq_true.mp f.2)
    simpa only [PyData.canLay0] using h
theorem fine_layAll : ∀ (ds : List PyData) (k : Nat), (∀ d ∈ ds, fine k d = true) → PyData.canLayAll0 ds = true
  | [], _, _ => rfl
  | d :: ds, k, f => by
    have h1 := fine_lay d k (f d List.mem_cons_self)
    have h2 := fine_layAll ds k fun x hx => f x (List.mem_cons_of_mem _ hx)
    simp [PyData.canLayAll0, h1, h2]
end
theorem fine_shaped {d : PyData} {k : Nat} (hk : k ≤ 60) (f : fine k d = true) : SeqAt.shaped d = true := by
  unfold SeqAt.shaped
  rw [fine_lay d k f, decide_eq_true (show d.depth ≤ 64 by have := (shows d k f).2.2; omega)]
  rfl
/-- a list of data -/
inductive GdAll (K : PySem.W.Frag) (H : Hp) (k : Nat) : List V → List PyData → Prop
  | nil : GdAll K H k [] []
  | cons {v : V} {vs : List V} {d : PyData} {ds : List PyData} : Gd K H k v d → GdAll K H k vs ds → GdAll K H k (v :: vs) (d :: ds)
theorem GdAll.dp {k : Nat} : ∀ {vs : List V} {ds : List PyData}, GdAll K H k vs ds → DpAll K H vs ds ∧ ∀ d ∈ ds, fine k d = true
  | _, _, .nil => ⟨.nil, fun _ h => absurd h List.not_mem_nil⟩
  | _, _, .cons g t => ⟨.cons g.dp t.dp.1, fun d h => by
    rcases List.mem_cons.mp h with e | e
    · rw [e]; exact g.fn
    · exact t.dp.2 d e⟩
theorem gdAll_of {k : Nat} : ∀ {vs : List V}, (∀ v ∈ vs, ∃ d, Gd K H k v d) → ∃ ds, GdAll K H k vs ds
  | [], _ => ⟨[], .nil⟩
  | v :: vs, h => by
    obtain ⟨d, g⟩ := h v List.mem_cons_self
    obtain ⟨ds, gs⟩ := gdAll_of (vs := vs) fun x hx => h x (List.mem_cons_of_mem _ hx)
    exact ⟨d :: ds, .cons g gs⟩
theorem gdAll_len {k : Nat} : ∀ {vs : List V} {ds : List PyData}, GdAll K H k vs ds → vs.length = ds.length
  | _, _, .nil => rfl
  | _, _, .cons _ t => congrArg Nat.succ (gdAll_len t)
theorem GdAll.kp {k : Nat} (e : Kp H H') : ∀ {vs : List V} {ds : List PyData}, GdAll K H k vs ds → GdAll K H' k vs ds
  | _, _, .nil => .nil
  | _, _, .cons g t => .cons (g.kp e) (t.kp e)
theorem GdAll.up {k j : Nat} (l : k ≤ j) : ∀ {vs : List V} {ds : List PyData}, GdAll K H k vs ds → GdAll K H j vs ds
  | _, _, .nil => .nil
  | _, _, .cons g t => .cons (g.up l) (t.up l)
theorem GdAll.app {k : Nat} : ∀ {vs ws : List V} {ds es : List PyData}, GdAll K H k vs ds → GdAll K H k ws es → GdAll K H k (vs ++ ws) (ds ++ es)
  | _, _, _, _, .nil, h => h
  | _, _, _, _, .cons g t, h => .cons g (t.app h)
theorem gd_tup {k : Nat} {a : Addr} {vs : List V} {ds : List PyData} (hs : SqT K H a vs) (g : GdAll K H k vs ds) (hl : vs.length ≤ 20) : Gd K H (k + 1) (.ref a) (.tuple ds) :=
  ⟨.tup hs g.dp.1, by
    simp only [fine, Bool.and_eq_true, decide_eq_true_eq]
    exact ⟨by rw [← gdAll_len g]; exact hl, List.all_eq_true.mpr g.dp.2⟩⟩
theorem shaped_list {k : Nat} (hk : k ≤ 60) {ds : List PyData} (f : ∀ d ∈ ds, fine k d = true) : SeqAt.shaped (.list ds) = true := by
  unfold SeqAt.shaped
  have h1 : PyData.canLay0 (.list ds) = true := by simpa only [PyData.canLay0] using fine_layAll ds k f
  have h2 := (showsAll ds k f).2.2
  rw [h1, decide_eq_true (show (PyData.list ds).depth ≤ 64 by simp only [PyData.depth]; omega)]
  rfl
/-- a list of data against the empty one -/
theorem eqD_nil {p q : Addr} {vs : List V} {ds : List PyData} {k : Nat} {Q : VK} (hk : k ≤ 60) (h1 : SqL K H p vs) (g : GdAll K H k vs ds) (h2 : SqL K H q []) (w : Q (.bl (vs.isEmpty)) H) : rEqD K (.ref p) (.ref q) H Q :=
  ⟨.list ds, .list [], .lst h1 g.dp.1, .lst h2 .nil, shaped_list hk g.dp.2, rfl, by
    have e : PyData.eqv (.list ds) (.list []) = vs.isEmpty := by
      cases g <;> simp [PyData.eqv, PyData.eqvAll]
    rw [e]
    exact w⟩
theorem neD_nil {p q : Addr} {vs : List V} {ds : List PyData} {k : Nat} {Q : VK} (hk : k ≤ 60) (h1 : SqL K H p vs) (g : GdAll K H k vs ds) (h2 : SqL K H q []) (w : Q (.bl (!vs.isEmpty)) H) : rNeD K (.ref p) (.ref q) H Q :=
  ⟨.list ds, .list [], .lst h1 g.dp.1, .lst h2 .nil, shaped_list hk g.dp.2, rfl, by
    have e : PyData.eqv (.list ds) (.list []) = vs.isEmpty := by
      cases g <;> simp [PyData.eqv, PyData.eqvAll]
    rw [e]
    exact w⟩
theorem ev_eqNil {vs : List V} {ds : List PyData} {k : Nat} (hk : k ≤ 60) (h : EvL ta σ H vs) (g : GdAll K H k vs ds) : Ev (tOp (rEqD K) ta (tLst tNil)) σ H (.bl vs.isEmpty) :=
  ev_opLL h (el_lst ea_nil (Nat.zero_le _)) fun p q H1 hp hq e H2 e2 Q w => eqD_nil hk (sq_of (e2 p _ hp)) (g.kp (.ex (e.trans e2))) (sq_of (e2 q _ hq)) (w H2 (.refl _))
theorem ev_neNil {vs : List V} {ds : List PyData} {k : Nat} (hk : k ≤ 60) (h : EvL ta σ H vs) (g : GdAll K H k vs ds) : Ev (tOp (rNeD K) ta (tLst tNil)) σ H (.bl (!vs.isEmpty)) :=
  ev_opLL h (el_lst ea_nil (Nat.zero_le _)) fun p q H1 hp hq e H2 e2 Q w => neD_nil hk (sq_of (e2 p _ hp)) (g.kp (.ex (e.trans e2))) (sq_of (e2 q _ hq)) (w H2 (.refl _))
theorem given_empty : ∀ (n : Nat) (f : Nat → Bool) (v : Nat → V), (given n f v).isEmpty = (List.range n).all fun i => !f i := fun n f v => by
  unfold given
  induction n with
  | zero => rfl
  | succ n ih =>
    rw [List.range_succ, List.filter_append, List.map_append, List.all_append]
    cases h : f n with
    | true => simp [h]
    | false =>
      simp only [List.all_cons, List.all_nil, h, Bool.not_false, Bool.and_true]
      rw [← ih]
      simp [h]
theorem given_mem {n : Nat} {f : Nat → Bool} {v : Nat → V} {y : V} (h : y ∈ given n f v) : ∃ i, i < n ∧ f i = true ∧ y = v i := by
  unfold given at h
  obtain ⟨i, hi, e⟩ := List.mem_map.mp h
  obtain ⟨h1, h2⟩ := List.mem_filter.mp hi
  exact ⟨i, List.mem_range.mp h1, h2, e.symm⟩
end
end Own


namespace Own
/-! ### numbers that nothing divides -/
def noDiv (p : Int) : Bool := (List.range 999).all fun i => !(decide ((2 + (i : Int)) * (2 + (i : Int)) ≤ p) && decide (p % (2 + (i : Int)) = 0))
theorem noDiv_iff {p : Int} (hp : p ≤ 1000003) : noDiv p = true ↔ ∀ e : Int, 2 ≤ e → e * e ≤ p → p % e ≠ 0 := by
  unfold noDiv
  rw [List.all_eq_true]
  constructor
  · intro h e h2 hm z
    have he : e ≤ 1000 := by
      refine Int.not_lt.mp fun c => ?_
      have : 1001 * 1001 ≤ e * e := Int.mul_le_mul (by omega) (by omega) (by omega) (by omega)
      omega
    have := h (e - 2).toNat (List.mem_range.mpr (by omega))
    have e1 : (2 : Int) + ((e - 2).toNat : Int) = e := by omega
    rw [e1] at this
    simp [hm, z] at this
  · intro h i hi
    by_cases c : (2 + (i : Int)) * (2 + (i : Int)) ≤ p
    · have := h (2 + (i : Int)) (by omega) c
      simp [c, this]
    · simp [c]
theorem noDiv_small {p : Int} (h2 : 2 ≤ p) (h : p < 4) : noDiv p = true := (noDiv_iff (by omega)).mpr fun e h2 hm => by
  have : 2 * 2 ≤ e * e := Int.mul_le_mul h2 h2 (by omega) (by omega)
  omega
theorem noDiv_even {p : Int} (h4 : 4 ≤ p) (hp : p ≤ 1000003) (h : p % 2 = 0) : noDiv p = false := by
  refine Bool.eq_false_iff.mpr fun z => ?_
  exact (noDiv_iff hp).mp z 2 (by omega) (by omega) h
theorem noDiv_found {p m : Int} (hp : p ≤ 1000003) (h2 : 2 ≤ m) (hm : m * m ≤ p) (h : p % m = 0) : noDiv p = false := by
  refine Bool.eq_false_iff.mpr fun z => ?_
  exact (noDiv_iff hp).mp z m h2 hm h
/-- what the odd search knows at m -/
def Sought (p m : Int) : Prop := m % 2 = 1 ∧ 3 ≤ m ∧ ∀ e : Int, 2 ≤ e → e < m → p % e ≠ 0
theorem Sought.start {p : Int} (h : p % 2 ≠ 0) : Sought p 3 := ⟨by omega, by omega, fun e h1 h2 => by
  have : e = 2 := by omega
  rw [this]
  exact h⟩
theorem Sought.next {p m : Int} (h0 : p % 2 ≠ 0) (s : Sought p m) (h : p % m ≠ 0) : Sought p (m + 2) := by
  obtain ⟨a, b, c⟩ := s
  refine ⟨by omega, by omega, fun e h1 h2 => ?_⟩
  by_cases e1 : e < m
  · exact c e h1 e1
  · by_cases e2 : e = m
    · rw [e2]; exact h
    · have e3 : e = m + 1 := by omega
      intro z
      have d : e ∣ p := Int.dvd_of_emod_eq_zero z
      have d2 : (2 : Int) ∣ e := Int.dvd_of_emod_eq_zero (by omega)
      have d3 : (2 : Int) ∣ p := Int.dvd_trans d2 d
      have := Int.emod_eq_zero_of_dvd d3
      exact h0 this
theorem Sought.done {p m : Int} (hp : p ≤ 1000003) (s : Sought p m) (h : ¬ m * m ≤ p) : noDiv p = true := (noDiv_iff hp).mpr fun e h2 hm => by
  refine s.2.2 e h2 (Int.not_le.mp fun c => ?_)
  have : m * m ≤ e * e := Int.mul_le_mul c c (by have := s.2.1; omega) (by omega)
  omega
theorem Sought.small {p m : Int} (hp : p ≤ 1000003) (s : Sought p m) (h : m * m ≤ p) : m ≤ 1000 := by
  refine Int.not_lt.mp fun c => ?_
  have : 1001 * 1001 ≤ m * m := Int.mul_le_mul (by omega) (by omega) (by omega) (by omega)
  omega
end Own


namespace Own
open PySem PySem.Spec PyProof.Rows L2
open Evl
section
variable {K : PySem.W.Frag} {σ : L2.St} {H H' : Hp} {ta tb tc te : TE} {t u : TT} {x y v : V} {k : Nat} {d : PyData} {D : Ends}
theorem ev_allB {bs : List Bool} (h : EvL ta σ H (bs.map V.bl)) : Ev (tCB (rAll K) (tCons ta tNil)) σ H (.bl (bs.all id)) :=
  fun H1 e Q q => h H1 e _ fun p H2 hp e2 hl => ⟨p, bs, rfl, sq_of hl, q H2 e2⟩
theorem given_true (n : Nat) (v : Nat → V) : given n (fun _ => true) v = (List.range n).map v := by
  unfold given
  rw [List.filter_eq_self.mpr fun _ _ => rfl]
theorem range_getD {α β : Type} (ds : List α) (z : α) (f : α → β) : ((List.range ds.length).map fun i => f (ds.getD i z)) = ds.map f := by
  apply List.ext_getElem
  · simp
  · intro i h1 h2
    simp at h1
    simp [List.getD_eq_getElem?_getD, h1]
/-- all(f(x) for the items of a tuple of data) -/
theorem given_bools {α : Type} (ds : List α) (z : α) (f : α → Bool) : given ds.length (fun _ => true) (fun i => V.bl (f (ds.getD i z))) = (ds.map f).map V.bl := by
  rw [given_true, ← range_getD ds z f, List.map_map]
  rfl
theorem all_id {α : Type} (ds : List α) (f : α → Bool) : (ds.map f).all id = ds.all f := by
  rw [List.all_map]
  rfl
theorem getD_at {ds : List PyData} {i : Nat} {d : PyData} (h : ds[i]? = some d) (z : PyData) : ds.getD i z = d := by
  rw [List.getD_eq_getElem?_getD, h]
  rfl
theorem et_false_or {a : Bool} (h1 : EvT t σ H a) (e : a = true) : EvT (tOr t u) σ H true := by
  subst e
  exact fun H1 e Q q => h1 H1 e _ fun H2 e2 => iteT (q H2 e2)
/-- a number's test as an option's -/
def optV : Option Int → V
  | none => .non
  | some i => .int i
theorem optV_non (o : Option Int) : decide (optV o = .non) = o.isNone := by cases o <;> simp [optV]
end
end Own


namespace Own
open PySem PySem.Spec PyProof.Rows L2
open Evl
/-! ### a source of numbers: a list of two, that every draw changes -/
def Src (H : Hp) (a : Addr) : Prop := ∃ big mixed : Int, H a = some (.lst [.int big, .int mixed]) ∧ 0 ≤ big ∧ 0 ≤ mixed ∧ mixed < 2147483647
/-- all but the source at a is kept -/
structure Up (a : Addr) (H H' : Hp) : Prop where
  keep : ∀ b o, b ≠ a → H b = some o → H' b = some o
  src : Src H' a
theorem Up.refl {a : Addr} {H : Hp} (h : Src H a) : Up a H H := ⟨fun _ _ _ h => h, h⟩
theorem Up.trans {a : Addr} {H H1 H2 : Hp} (x : Up a H H1) (y : Up a H1 H2) : Up a H H2 := ⟨fun b o n h => y.keep b o n (x.keep b o n h), y.src⟩
theorem Src.ex {a : Addr} {H H' : Hp} (e : Ex H H') (s : Src H a) : Src H' a := let ⟨x, y, h, r⟩ := s; ⟨x, y, e a _ h, r⟩
theorem Up.ex {a : Addr} {H H' : Hp} (e : Ex H H') (s : Src H a) : Up a H H' := ⟨fun b o _ h => e b o h, s.ex e⟩
theorem Up.kp {a : Addr} {H H' : Hp} (s : Src H a) (u : Up a H H') : Kp H H' := fun b o h n => by
  by_cases e : b = a
  · subst e
    obtain ⟨x, y, q, _⟩ := s
    rw [h] at q
    injection q with q
    exact absurd q (n.l _)
  · exact u.keep b o e h
theorem Src.at {a b : Addr} {H : Hp} {o : HO} (s : Src H a) (h : H b = some o) (n : ∀ xs, o ≠ .lst xs) : b ≠ a := fun e => by
  subst e
  obtain ⟨x, y, q, _⟩ := s
  rw [h] at q
  injection q with q
  exact n _ q
theorem Src.new {a b : Addr} {H : Hp} (s : Src H a) (h : H b = none) : b ≠ a := fun e => by
  subst e
  obtain ⟨x, y, q, _⟩ := s
  rw [h] at q
  cases q
/-- a tuple stands -/
theorem Up.sqT {K : PySem.W.Frag} {a b : Addr} {H H' : Hp} {xs : List V} (s : Src H a) (u : Up a H H') (h : SqT K H b xs) : SqT K H' b xs := (u.kp s).sqT h
theorem Up.gd {K : PySem.W.Frag} {a : Addr} {H H' : Hp} {k : Nat} {v : V} {d : PyData} (s : Src H a) (u : Up a H H') (g : Gd K H k v d) : Gd K H' k v d := g.kp (u.kp s)
abbrev VP := V → Hp → Prop
def Mono (a : Addr) (P : VP) : Prop := ∀ v H H', Src H a → Up a H H' → P v H → P v H'
/-- te gives a value of which P is so, and changes nothing but the source -/
def EvS (a : Addr) (te : TE) (σ : L2.St) (H : Hp) (P : VP) : Prop := ∀ H1, Up a H H1 → ∀ Q : VK, (∀ v H2, Up a H1 H2 → P v H2 → Q v H2) → te σ H1 Q
/-- n values, of each of which P is so -/
def EvSA (a : Addr) (ta : TA) (σ : L2.St) (H : Hp) (n : Nat) (P : VP) : Prop := ∀ H1, Up a H H1 → ∀ Q : List V → Hp → Prop, (∀ vs H2, Up a H1 H2 → vs.length = n → (∀ v ∈ vs, P v H2) → Q vs H2) → ta σ H1 Q
def PInt (lo hi : Int) : VP := fun v _ => ∃ i, v = .int i ∧ lo ≤ i ∧ i ≤ hi
def PDat (K : PySem.W.Frag) (k : Nat) : VP := fun v H => ∃ d, Gd K H k v d
theorem mono_int {a : Addr} {lo hi : Int} : Mono a (PInt lo hi) := fun _ _ _ _ _ h => h
theorem mono_dat {K : PySem.W.Frag} {a : Addr} {k : Nat} : Mono a (PDat K k) := fun _ _ _ s u ⟨d, g⟩ => ⟨d, u.gd s g⟩
/-- a list at an address of its own, of things of which P is so -/
def PLst (a : Addr) (n : Nat) (P : VP) : VP := fun v H => ∃ b xs, v = .ref b ∧ b ≠ a ∧ H b = some (.lst xs) ∧ xs.length = n ∧ ∀ x ∈ xs, P x H
theorem mono_lst {a : Addr} {n : Nat} {P : VP} (m : Mono a P) : Mono a (PLst a n P) := fun _ _ _ s u ⟨b, xs, e, nb, hb, hl, hp⟩ => ⟨b, xs, e, nb, u.keep b _ nb hb, hl, fun x hx => m x _ _ s u (hp x hx)⟩
section
variable {K : PySem.W.Frag} {a : Addr} {σ : L2.St} {H H' : Hp} {te ta tb : TE} {P R S : VP} {D : Ends} {tz tu : TS}
theorem es_c {v : V} (h : ∀ H1, P v H1) : EvS a (tC v) σ H P := fun H1 u Q q => q v H1 (.refl u.src) (h H1)
theorem es_int {i lo hi : Int} (h1 : lo ≤ i) (h2 : i ≤ hi) : EvS a (tC (.int i)) σ H (PInt lo hi) := es_c fun _ => ⟨i, rfl, h1, h2⟩
theorem es_var {i : Nat} {v : V} (e : σ[i]? = some (some v)) (h : ∀ H1, Up a H H1 → P v H1) : EvS a (tVar i) σ H P := fun H1 u Q q => ⟨v, e, q v H1 (.refl u.src) (h H1 u)⟩
theorem es_vint {i : Nat} {j lo hi : Int} (e : σ[i]? = some (some (.int j))) (h1 : lo ≤ j) (h2 : j ≤ hi) : EvS a (tVar i) σ H (PInt lo hi) := es_var e fun _ _ => ⟨j, rfl, h1, h2⟩
theorem es_imp (h : EvS a te σ H P) (i : ∀ v H1, P v H1 → R v H1) : EvS a te σ H R := fun H1 u Q q => h H1 u Q fun v H2 u2 p => q v H2 u2 (i v H2 p)
theorem es_op {r : R2} (ha : EvS a ta σ H P) (hb : EvS a tb σ H R) (m : Mono a P) (hr : ∀ x y H1, Up a H H1 → P x H1 → R y H1 → ∀ Q : VK, (∀ z H2, Up a H1 H2 → S z H2 → Q z H2) → r x y H1 Q) : EvS a (tOp r ta tb) σ H S :=
  fun H1 u Q q => ha H1 u _ fun x H2 u2 p => hb H2 (u.trans u2) _ fun y H3 u3 p3 => hr x y H3 ((u.trans u2).trans u3) (m x H2 H3 u2.src u3 p) p3 Q fun z H4 u4 s => q z H4 ((u2.trans u3).trans u4) s
theorem es_add {l1 h1 l2 h2 : Int} (ha : EvS a ta σ H (PInt l1 h1)) (hb : EvS a tb σ H (PInt l2 h2)) : EvS a (tOp rAddI ta tb) σ H (PInt (l1 + l2) (h1 + h2)) :=
  es_op ha hb mono_int fun x y H1 u ⟨i, ei, a1, a2⟩ ⟨j, ej, b1, b2⟩ Q q => ⟨i, j, ei, ej, q _ H1 (.refl u.src) ⟨_, rfl, by omega, by omega⟩⟩
theorem es_sub {l1 h1 l2 h2 : Int} (ha : EvS a ta σ H (PInt l1 h1)) (hb : EvS a tb σ H (PInt l2 h2)) : EvS a (tOp rSubI ta tb) σ H (PInt (l1 - h2) (h1 - l2)) :=
  es_op ha hb mono_int fun x y H1 u ⟨i, ei, a1, a2⟩ ⟨j, ej, b1, b2⟩ Q q => ⟨i, j, ei, ej, q _ H1 (.refl u.src) ⟨_, rfl, by omega, by omega⟩⟩
theorem es_wide {l1 h1 l2 h2 : Int} (h : EvS a te σ H (PInt l1 h1)) (e1 : l2 ≤ l1) (e2 : h1 ≤ h2) : EvS a te σ H (PInt l2 h2) := es_imp h fun _ _ ⟨i, e, b1, b2⟩ => ⟨i, e, by omega, by omega⟩
theorem es_min {l1 h1 l2 h2 : Int} (ha : EvS a ta σ H (PInt l1 h1)) (hb : EvS a tb σ H (PInt l2 h2)) : EvS a (tCB rMin2 (tCons ta (tCons tb tNil))) σ H (PInt (min l1 l2) (min h1 h2)) :=
  fun H1 u Q q => ha H1 u _ fun x H2 u2 ⟨i, ei, a1, a2⟩ => hb H2 (u.trans u2) _ fun y H3 u3 ⟨j, ej, b1, b2⟩ => ⟨i, j, by rw [ei, ej], q _ H3 (u2.trans u3) ⟨_, rfl, by split <;> omega, by split <;> omega⟩⟩
theorem ea_nilS : EvSA a tNil σ H 0 P := fun H1 u Q q => q [] H1 (.refl u.src) rfl fun _ h => absurd h List.not_mem_nil
theorem ea_consS {ta : TA} {n : Nat} (h : EvS a te σ H P) (hr : EvSA a ta σ H n P) (m : Mono a P) : EvSA a (tCons te ta) σ H (n + 1) P :=
  fun H1 u Q q => h H1 u _ fun v H2 u2 p => hr H2 (u.trans u2) _ fun vs H3 u3 hl hp => q (v :: vs) H3 (u2.trans u3) (by rw [List.length_cons, hl]) fun x hx => by
    rcases List.mem_cons.mp hx with e | e
    · rw [e]; exact m v H2 H3 u2.src u3 p
    · exact hp x e
/-- a new list -/
theorem es_lst {ta : TA} {n : Nat} (h : EvSA a ta σ H n P) (hn : n ≤ 1000) (m : Mono a P) : EvS a (tLst ta) σ H (PLst a n P) :=
  fun H1 u Q q => h H1 u _ fun vs H2 u2 hl hp => ⟨sz_of (by omega), fun p np => q _ _ (u2.trans (.ex (Ex.new np) u2.src))
    ⟨p, vs, rfl, u2.src.new np, upd_same, hl, fun x hx => m x _ _ u2.src (.ex (Ex.new np) u2.src) (hp x hx)⟩⟩
/-- a new tuple -/
def PTup (K : PySem.W.Frag) (n : Nat) (P : VP) : VP := fun v H => ∃ b xs, v = .ref b ∧ SqT K H b xs ∧ xs.length = n ∧ ∀ x ∈ xs, P x H
theorem mono_tup {n : Nat} {P : VP} (m : Mono a P) : Mono a (PTup K n P) := fun _ _ _ s u ⟨b, xs, e, hb, hl, hp⟩ => ⟨b, xs, e, u.sqT s hb, hl, fun x hx => m x _ _ s u (hp x hx)⟩
theorem es_tup {ta : TA} {n : Nat} (h : EvSA a ta σ H n P) (hn : n ≤ 1000) (m : Mono a P) : EvS a (tTup ta) σ H (PTup K n P) :=
  fun H1 u Q q => h H1 u _ fun vs H2 u2 hl hp => ⟨sz_of (by omega), fun p np => q _ _ (u2.trans (.ex (Ex.new np) u2.src))
    ⟨p, vs, rfl, st_of upd_same, hl, fun x hx => m x _ _ u2.src (.ex (Ex.new np) u2.src) (hp x hx)⟩⟩
theorem ss_asg {i : Nat} (s : Src H a) (h : EvS a te σ H P) (k : ∀ v H1, Up a H H1 → P v H1 → tz D (σ.set i (some v)) H1) : tSeq (tAsg te (gName i)) tz D σ H := h H (.refl s) _ fun v H2 u p => k v H2 u p
theorem ss_last {i : Nat} (s : Src H a) (h : EvS a te σ H P) (k : ∀ v H1, Up a H H1 → P v H1 → D.nx (σ.set i (some v)) H1) : tAsg te (gName i) D σ H := h H (.refl s) _ fun v H2 u p => k v H2 u p
theorem ss_ret (s : Src H a) (h : EvS a te σ H P) (k : ∀ v H1, Up a H H1 → P v H1 → D.rt v H1) : tRet te D σ H := h H (.refl s) _ fun v H2 u p => k v H2 u p
/-! ### the promises of the three defs that draw -/
def spTake : Sp := fun vs H Q _ => ∃ (a : Addr) (top : Int), vs = [.ref a, .int top] ∧ Src H a ∧ 0 < top ∧ top < 1073741824 ∧ ∀ r H', 0 ≤ r → r < top → Up a H H' → Q (.int r) H'
def spOne (K : PySem.W.Frag) : Sp := fun vs H Q _ => ∃ (a b : Addr) (xs : List V), vs = [.ref a, .ref b] ∧ b ≠ a ∧ Src H a ∧ SqL K H b xs ∧ xs ≠ [] ∧ xs.length ≤ 1000 ∧ ∀ x ∈ xs, ∀ H', Up a H H' → Q x H'
def spPool (K : PySem.W.Frag) : Sp := fun vs H Q _ => ∃ (b : Addr) (ns : List Int) (k : Int), vs = [.ref b, .int k] ∧ SqL K H b (ns.map V.int) ∧ ns.length ≤ 63 ∧ 0 ≤ k ∧ k ≤ 1000 ∧ ∀ l H', H l = none → Ex H H' → Src H' l → Q (.ref l) H'
theorem es_take {lo hi : Int} {E : XK} {s0 : Nat} (e0 : σ[s0]? = some (some (.ref a))) (h : EvS a te σ H (PInt lo hi)) (h0 : 0 < lo) (h1 : hi < 1073741824) : EvS a (tCall spTake [] E (tCons (tVar s0) (tCons te tNil))) σ H (PInt 0 (hi - 1)) :=
  fun H1 u Q q => ⟨_, e0, h H1 u _ fun v H2 u2 ⟨i, ei, a1, a2⟩ => ⟨a, i, by rw [ei]; rfl, u2.src, by omega, by omega, fun r H3 r0 r1 u3 => q _ _ (u2.trans u3) ⟨r, rfl, r0, by omega⟩⟩⟩
theorem es_one {E : XK} {s0 n : Nat} (e0 : σ[s0]? = some (some (.ref a))) (h : EvS a te σ H (PLst a n P)) (h0 : 0 < n) (h1 : n ≤ 1000) (m : Mono a P) : EvS a (tCall (spOne K) [] E (tCons (tVar s0) (tCons te tNil))) σ H P :=
  fun H1 u Q q => ⟨_, e0, h H1 u _ fun v H2 u2 ⟨b, xs, ev, nb, hb, hl, hp⟩ => ⟨a, b, xs, by rw [ev]; rfl, nb, u2.src, sq_of hb, fun z => by rw [z] at hl; simp at hl; omega, by omega, fun x hx H3 u3 => q _ _ (u2.trans u3) (m x H2 H3 u2.src u3 (hp x hx))⟩⟩
end
end Own


namespace Own
open PySem PySem.Spec PyProof.Rows L2
open Evl
/-- stable where all but lists is kept -/
def MonoK (P : VP) : Prop := ∀ v H H', Kp H H' → P v H → P v H'
theorem MonoK.up {P : VP} {a : Addr} (m : MonoK P) : Mono a P := fun v _ _ s u p => m v _ _ (u.kp s) p
theorem monoK_int {lo hi : Int} : MonoK (PInt lo hi) := fun _ _ _ _ h => h
theorem monoK_dat {K : PySem.W.Frag} {k : Nat} : MonoK (PDat K k) := fun _ _ _ e ⟨d, g⟩ => ⟨d, g.kp e⟩
theorem monoK_tup {K : PySem.W.Frag} {n : Nat} {P : VP} (m : MonoK P) : MonoK (PTup K n P) := fun _ _ _ e ⟨b, xs, ev, hb, hl, hp⟩ => ⟨b, xs, ev, e.sqT hb, hl, fun x hx => m x _ _ e (hp x hx)⟩
/-- a list of at most n things of which P is so -/
def PLs (a : Addr) (n : Nat) (P : VP) : VP := fun v H => ∃ b xs, v = .ref b ∧ b ≠ a ∧ H b = some (.lst xs) ∧ xs.length ≤ n ∧ ∀ x ∈ xs, P x H
/-- a tuple of at most n things -/
def PTs (K : PySem.W.Frag) (n : Nat) (P : VP) : VP := fun v H => ∃ b xs, v = .ref b ∧ SqT K H b xs ∧ xs.length ≤ n ∧ ∀ x ∈ xs, P x H
theorem monoK_tups {K : PySem.W.Frag} {n : Nat} {P : VP} (m : MonoK P) : MonoK (PTs K n P) := fun _ _ _ e ⟨b, xs, ev, hb, hl, hp⟩ => ⟨b, xs, ev, e.sqT hb, hl, fun x hx => m x _ _ e (hp x hx)⟩
/-- a tuple of data is data -/
theorem tups_dat {K : PySem.W.Frag} {H : Hp} {n k : Nat} {v : V} (hn : n ≤ 20) (h : PTs K n (PDat K k) v H) : PDat K (k + 1) v H := by
  obtain ⟨b, xs, rfl, hb, hl, hp⟩ := h
  obtain ⟨ds, g⟩ := gdAll_of hp
  exact ⟨_, gd_tup hb g (by omega)⟩
theorem tup_dat {K : PySem.W.Frag} {H : Hp} {n k : Nat} {v : V} (hn : n ≤ 20) (h : PTup K n (PDat K k) v H) : PDat K (k + 1) v H :=
  tups_dat hn (let ⟨b, xs, e, hb, hl, hp⟩ := h; ⟨b, xs, e, hb, Nat.le_of_eq hl, hp⟩)
theorem int_dat {K : PySem.W.Frag} {H : Hp} {lo hi : Int} {v : V} (h1 : -1000000000 ≤ lo) (h2 : hi ≤ 1000000000) (h : PInt lo hi v H) : PDat K 0 v H := by
  obtain ⟨i, rfl, a, b⟩ := h
  exact ⟨_, gd_int (by omega)⟩
theorem dat_up {K : PySem.W.Frag} {H : Hp} {k j : Nat} {v : V} (l : k ≤ j) (h : PDat K k v H) : PDat K j v H := let ⟨d, g⟩ := h; ⟨d, g.up l⟩
section
variable {K : PySem.W.Frag} {a : Addr} {σ : L2.St} {H H' : Hp} {te ta tb : TE} {P R S : VP} {D : Ends} {tz tu t : TS}
theorem q_split (M : L2.St → Hp → Prop) (k : ∀ σ' H', M σ' H' → tz D σ' H') (h : (∀ σ' H', M σ' H' → tz D σ' H') → t { D with nx := tz D } σ H) : tSeq t tz D σ H := h k
theorem ev_divI {i j : Int} (ha : Ev ta σ H (.int i)) (hb : Ev tb σ H (.int j)) (c : CDiv i j) : Ev (tOp rDivI ta tb) σ H (.int (i / j)) := ev_op ha hb (rv_I (C := CDiv) c)
theorem ev_powI {i j : Int} (ha : Ev ta σ H (.int i)) (hb : Ev tb σ H (.int j)) (c : CPow i j) : Ev (tOp rPowI ta tb) σ H (.int (i ^ j.toNat)) := ev_op ha hb (rv_I (C := CPow) c)
theorem ev_negI {i : Int} (ha : Ev ta σ H (.int i)) : Ev (tUn rNegI ta) σ H (.int (-i)) := ev_un ha ru_neg
theorem ev_geV {i j : Int} (ha : Ev ta σ H (.int i)) (hb : Ev tb σ H (.int j)) : Ev (tOp rGeI ta tb) σ H (.bl (decide (j ≤ i))) := ev_op ha hb rv_I0
theorem ev_ltV {i j : Int} (ha : Ev ta σ H (.int i)) (hb : Ev tb σ H (.int j)) : Ev (tOp rLtI ta tb) σ H (.bl (decide (i < j))) := ev_op ha hb rv_I0
/-- a list of ints against the empty one -/
theorem dp_ints {H : Hp} : ∀ ns : List Int, DpAll K H (ns.map V.int) (ns.map PyData.int)
  | [] => .nil
  | n :: ns => .cons (.int n) (dp_ints ns)
theorem lay_ints : ∀ ns : List Int, PyData.canLayAll0 (ns.map PyData.int) = true ∧ PyData.depthAll (ns.map PyData.int) ≤ 1
  | [] => ⟨rfl, by simp [PyData.depthAll]⟩
  | n :: ns => ⟨by simp [PyData.canLayAll0, PyData.canLay0, (lay_ints ns).1], by have := (lay_ints ns).2; simp only [List.map_cons, PyData.depthAll, PyData.depth]; omega⟩
theorem shaped_ints (ns : List Int) : SeqAt.shaped (.list (ns.map PyData.int)) = true := by
  unfold SeqAt.shaped
  rw [show PyData.canLay0 (.list (ns.map PyData.int)) = true by simpa only [PyData.canLay0] using (lay_ints ns).1, decide_eq_true (show (PyData.list (ns.map PyData.int)).depth ≤ 64 by have := (lay_ints ns).2; simp only [PyData.depth]; omega)]
  rfl
theorem et_neInts {p : Addr} {ns : List Int} (h : Ev ta σ H (.ref p)) (hs : SqL K H p (ns.map V.int)) : EvT (tTest (tOp (rNeD K) ta (tLst tNil))) σ H (!ns.isEmpty) :=
  et_test (ev_opL h (el_lst ea_nil (Nat.zero_le _)) fun q H1 hq e H2 e2 Q w => ⟨.list (ns.map .int), .list [], .lst (ex_l (e.trans e2) hs) (dp_ints ns), .lst (sq_of (e2 q _ hq)) .nil, shaped_ints ns, rfl, by
    have z : PyData.eqv (.list (ns.map .int)) (.list []) = ns.isEmpty := by cases ns <;> simp [PyData.eqv, PyData.eqvAll]
    rw [z]
    exact w H2 (.refl _)⟩)
/-- for j in range(..), the count drawn -/
theorem ss_forR {j : Nat} {lo hi : Int} (s : Src H a) (h : EvS a te σ H (PInt lo hi)) (hlo : -1000 ≤ lo) (hhi : hi ≤ 100000) (Pv : Int → Nat → L2.St → Hp → Prop) (h0 : ∀ c H1, lo ≤ c → c ≤ hi → Up a H H1 → Pv c 0 σ H1)
    (hs : ∀ c (i : Nat) σ' H', (i : Int) < c → Pv c i σ' H' → tu { D with nx := Pv c (i + 1), ct := Pv c (i + 1), bk := tz D } (σ'.set j (some (.int (i : Int)))) H') (hd : ∀ c σ' H', Pv c c.toNat σ' H' → tz D σ' H') :
    tSeq (tFor (iRng1 (tCons te tNil)) (gName j) tu) tz D σ H :=
  h H (.refl s) _ fun v H2 u ⟨c, ev, c1, c2⟩ => ⟨c, by rw [ev], by omega, by omega, for_range (lo := 0) (n := c.toNat) (Pv c) (h0 c H2 c1 c2 u)
    (fun i σ' H' hi p => by
      show tu _ (σ'.set j (some (.int ((0 : Int) + (i : Int))))) H'
      rw [Int.zero_add]
      exact hs c i σ' H' (by omega) p) (hd c)⟩
/-- [e for j in range(..)], e drawing -/
theorem es_lc {elt : TE} {j : Nat} {vs : List Nat} {lo hi : Int} {m : Nat} (h : EvS a te σ H (PInt lo hi)) (hlo : -1000 ≤ lo) (hhi : hi ≤ (m : Int)) (hm : m ≤ 1000) (hw : ∀ x, wipe ((wipe σ vs).set j (some x)) vs = wipe σ vs)
    (he : ∀ (i : Nat) H1, Up a H H1 → (i : Int) < hi → EvS a elt ((wipe σ vs).set j (some (.int (i : Int)))) H1 P) (mk : MonoK P) : EvS a (tLc (iRng1 (tCons te tNil)) (gName j) tYes elt vs) σ H (PLs a m P) :=
  fun H1 u Q q => h H1 u _ fun v H2 u2 ⟨c, ev, c1, c2⟩ => ⟨c, by rw [ev], by omega, by omega, fun Dl hD =>
    lc_range (lo := 0) (n := c.toNat) (fun i H' => Up a H2 H' ∧ ∃ acc, H' Dl = some (.lst acc) ∧ acc.length = i ∧ ∀ x ∈ acc, P x H') ⟨.ex (Ex.new hD) u2.src, [], upd_same, rfl, fun _ z => absurd z List.not_mem_nil⟩
      (fun i H' hi ⟨u3, acc, hacc, hl, hp⟩ => by
        show wipe ((wipe σ vs).set j (some (.int ((0 : Int) + (i : Int))))) vs = wipe σ vs ∧ elt ((wipe σ vs).set j (some (.int ((0 : Int) + (i : Int))))) H' fun y H4 => ∃ acc, H4 Dl = some (.lst acc) ∧ acc.length < sizeLine ∧ (Up a H2 (upd H4 Dl (.lst (acc ++ [y]))) ∧ ∃ ac2, (upd H4 Dl (.lst (acc ++ [y]))) Dl = some (.lst ac2) ∧ ac2.length = i + 1 ∧ ∀ x ∈ ac2, P x (upd H4 Dl (.lst (acc ++ [y]))))
        rw [Int.zero_add]
        have nD : Dl ≠ a := u2.src.new hD
        refine ⟨hw _, he i H' ((u.trans u2).trans u3) (by omega) H' (.refl u3.src) _ fun y H4 u4 py => ?_⟩
        have h4 := u4.keep Dl _ nD hacc
        have kp : Kp H' (upd H4 Dl (.lst (acc ++ [y]))) := (u4.kp u3.src).trans (.lst h4)
        refine ⟨acc, h4, sz_lt (by omega), ⟨fun b o nb hb => ?_, ?_⟩, _, upd_same, by rw [List.length_append, hl]; rfl, fun x hx => ?_⟩
        · rw [upd_ne (ne_of_none hb hD)]
          exact u4.keep b o nb (u3.keep b o nb hb)
        · obtain ⟨big, mixed, e, r⟩ := u4.src
          exact ⟨big, mixed, by rw [upd_ne nD.symm]; exact e, r⟩
        · rcases List.mem_append.mp hx with z | z
          · exact mk x _ _ kp (hp x z)
          · rw [List.mem_singleton.mp z]
            exact mk y _ _ (.lst h4) py)
      (fun H' ⟨u3, acc, hacc, hl, hp⟩ => q _ _ (u2.trans u3) ⟨Dl, acc, rfl, u2.src.new hD, hacc, by omega, hp⟩)⟩
/-- tuple(a list) -/
theorem es_tupOf {n : Nat} (h : EvS a te σ H (PLs a n P)) (mk : MonoK P) : EvS a (tCB (rTupOf K) (tCons te tNil)) σ H (PTs K n P) :=
  fun H1 u Q q => h H1 u _ fun v H2 u2 ⟨b, xs, ev, nb, hb, hl, hp⟩ => ⟨b, xs, by rw [ev], .inl ⟨sq_of hb, fun l hl2 => q _ _ (u2.trans (.ex (Ex.new hl2) u2.src)) ⟨l, xs, rfl, st_of upd_same, hl, fun x hx => mk x _ _ (.new hl2) (hp x hx)⟩⟩⟩
/-- xs.append(e) -/
theorem ss_app {i : Nat} {l : Addr} {xs : List V} (s : Src H a) (nl : l ≠ a) (hl : H l = some (.lst xs)) (hv : σ[i]? = some (some (.ref l))) (h : EvS a te σ H P) (hz : xs.length < 100000)
    (k : ∀ y H1, Up a H H1 → P y H1 → D.nx σ (upd H1 l (.lst (xs ++ [y])))) : tDrop (tBM K "list" rAppend (tVar i) (tCons te tNil)) D σ H :=
  ⟨_, hv, .inl ⟨rfl, _, sq_of hl⟩, h H (.refl s) _ fun y H2 u p => ⟨l, xs, y, rfl, rfl, u.keep l _ nl hl, sz_lt hz, k y H2 u p⟩⟩
end
end Own


namespace Own
open PySem PySem.Spec PyProof.Rows L2
open Evl
section
variable {K : PySem.W.Frag} {a : Addr} {σ : L2.St} {H H' : Hp} {te ta tb : TE} {P R S : VP} {D : Ends} {tz tu t : TS}
theorem monoS_tups {n : Nat} (m : MonoK P) : Mono a (PTs K n P) := (monoK_tups m).up
/-- t + u -/
theorem es_cat {n k : Nat} (ha : EvS a ta σ H (PTs K n P)) (hb : EvS a tb σ H (PTs K k P)) (mk : MonoK P) (hz : n + k ≤ 1000) : EvS a (tOp (rCatA K) ta tb) σ H (PTs K (n + k) P) :=
  es_op ha hb (monoS_tups mk) fun x y H1 u ⟨b, xs, ex, hx, lx, px⟩ ⟨c, ys, ey, hy, ly, py⟩ Q q => ⟨b, c, xs, ys, ex, ey, hx, hy, sz_of (by omega),
    fun _ => q _ H1 (.refl u.src) ⟨c, ys, rfl, hy, by omega, py⟩, fun _ _ => q _ H1 (.refl u.src) ⟨b, xs, rfl, hx, by omega, px⟩,
    fun _ _ p np => q _ _ (.ex (Ex.new np) u.src) ⟨p, xs ++ ys, rfl, st_of upd_same, by rw [List.length_append]; omega, fun z hz => by
      rcases List.mem_append.mp hz with w | w
      · exact mk z _ _ (.new np) (px z w)
      · exact mk z _ _ (.new np) (py z w)⟩⟩
theorem cut_mem {xs : List V} {lo hi : Option Int} {x : V} (h : x ∈ cutV xs lo hi) : x ∈ xs := List.mem_of_mem_drop (List.mem_of_mem_take h)
/-- a part of a slice: none, or an int -/
def EvP (a : Addr) (to : TO) (σ : L2.St) (H : Hp) : Prop := ∀ H1, Up a H H1 → ∀ Q : Option Int → Hp → Prop, (∀ o H2, Up a H1 H2 → Q o H2) → to σ H1 Q
theorem ep_none : EvP a tNoPart σ H := fun H1 u Q q => q none H1 (.refl u.src)
theorem ep_some {lo hi : Int} (h : EvS a te σ H (PInt lo hi)) : EvP a (tPart te) σ H := fun H1 u Q q => h H1 u _ fun v H2 u2 ⟨i, e, _⟩ => ⟨i, e, q _ H2 u2⟩
/-- t[lo:hi] -/
theorem es_slice {n : Nat} {tl th : TO} (h : EvS a te σ H (PTs K n P)) (hl : EvP a tl σ H) (hh : EvP a th σ H) (mk : MonoK P) : EvS a (tSl (rSlA K) te tl th) σ H (PTs K n P) :=
  fun H1 u Q q => h H1 u _ fun x H2 u2 px => hl H2 (u.trans u2) _ fun lo H3 u3 => hh H3 ((u.trans u2).trans u3) _ fun hi H4 u4 => by
    obtain ⟨b, xs, ex, hx, lx, ps⟩ := monoS_tups mk x H2 H4 u2.src (u3.trans u4) px
    exact ⟨b, xs, ex, hx, fun _ => q _ H4 ((u2.trans u3).trans u4) ⟨b, xs, rfl, hx, lx, ps⟩, fun _ p np => q _ _ (((u2.trans u3).trans u4).trans (.ex (Ex.new np) u4.src))
      ⟨p, _, rfl, st_of upd_same, by have := cutV_length xs lo hi; omega, fun z hz => mk z _ _ (.new np) (ps z (cut_mem hz))⟩⟩
/-- (x,) * k -/
theorem es_rep {hi : Nat} {lo : Int} (ha : EvS a ta σ H (PTup K 1 P)) (hb : EvS a tb σ H (PInt lo (hi : Int))) (h1 : 1 ≤ lo) (h2 : hi ≤ 100) (mk : MonoK P) : EvS a (tOp (rTimes K) ta tb) σ H (PTs K hi P) :=
  es_op ha hb (monoK_tup mk).up fun x y H1 u ⟨b, xs, ex, hx, lx, px⟩ ⟨j, ej, j1, j2⟩ Q q => by
    by_cases c : j = 1
    · exact .inr ⟨b, xs, ex, by rw [ej, c], hx, q _ H1 (.refl u.src) ⟨b, xs, rfl, hx, by omega, px⟩⟩
    · refine .inl ⟨b, j, xs, ex, ej, hx, (fun z => by rw [z] at lx; simp at lx), by omega, by omega, by omega, fun p np => q _ _ (.ex (Ex.new np) u.src) ⟨p, _, rfl, st_of upd_same, ?_, fun z hz => ?_⟩⟩
      · rw [PyProof.Rows.lm_len_rep_flat, lx]
        omega
      · obtain ⟨l, hl, hz⟩ := List.mem_flatten.mp hz
        rw [List.eq_of_mem_replicate hl] at hz
        exact mk z _ _ (.new np) (px z hz)
theorem tup_tups {n m : Nat} (h : n ≤ m) {v : V} {H1 : Hp} (p : PTup K n P v H1) : PTs K m P v H1 := let ⟨b, xs, e, hb, hl, hp⟩ := p; ⟨b, xs, e, hb, by omega, hp⟩
theorem tups_imp {n m : Nat} (h : n ≤ m) (i : ∀ v H1, P v H1 → R v H1) {v : V} {H1 : Hp} (p : PTs K n P v H1) : PTs K m R v H1 := let ⟨b, xs, e, hb, hl, hp⟩ := p; ⟨b, xs, e, hb, by omega, fun x hx => i x H1 (hp x hx)⟩
/-- (x, ..) of at most m -/
theorem es_tups {ta : TA} {n m : Nat} (h : EvSA a ta σ H n P) (hn : n ≤ m) (hm : m ≤ 1000) (mk : MonoK P) : EvS a (tTup ta) σ H (PTs K m P) := es_imp (es_tup h (by omega) mk.up) fun _ _ p => tup_tups hn p
/-- xs + ys -/
theorem es_catL {n k : Nat} (ha : EvS a ta σ H (PLst a n P)) (hb : EvS a tb σ H (PLst a k P)) (mk : MonoK P) (hz : n + k ≤ 1000) : EvS a (tOp rCat ta tb) σ H (PLst a (n + k) P) :=
  es_op ha hb (mono_lst mk.up) fun x y H1 u ⟨b, xs, ex, nb, hx, lx, px⟩ ⟨c, ys, ey, nc, hy, ly, py⟩ Q q => ⟨b, c, xs, ys, ex, ey, hx, hy, sz_of (by omega), fun p np => q _ _ (.ex (Ex.new np) u.src)
    ⟨p, xs ++ ys, rfl, u.src.new np, upd_same, by rw [List.length_append]; omega, fun z hz => by
      rcases List.mem_append.mp hz with w | w
      · exact mk z _ _ (.new np) (px z w)
      · exact mk z _ _ (.new np) (py z w)⟩⟩
/-- list(t) == [] -/
theorem es_listNil {n k : Nat} (h : EvS a te σ H (PTs K n (PDat K k))) (hk : k ≤ 60) : EvS a (tOp (rEqD K) (tCB (rListOf K) (tCons te tNil)) (tLst tNil)) σ H (PDat K 0) :=
  fun H1 u Q q => h H1 u _ fun v H2 u2 ⟨b, xs, ev, hb, hl, hp⟩ => ⟨b, xs, by rw [ev], .inr hb, fun l nl => ⟨Nat.zero_le _, fun p np => by
    obtain ⟨ds, g⟩ := gdAll_of hp
    have e2 : Ex H2 (upd (upd H2 l (.lst xs)) p (.lst [])) := (Ex.new nl).trans (Ex.new np)
    refine eqD_nil hk (sq_of (by rw [upd_ne (ne_of_none upd_same np)]; exact upd_same)) (g.kp (.ex e2)) (sq_of upd_same) ?_
    exact q _ _ (u2.trans (.ex e2 u2.src)) ⟨_, gd_bl⟩⟩⟩
theorem es_dint {i : Int} {k : Nat} (h : i.natAbs < 2 ^ 64) : EvS a (tC (.int i)) σ H (PDat K k) := es_c fun _ => ⟨_, (gd_int h).up (Nat.zero_le k)⟩
theorem es_dnon {k : Nat} : EvS a (tC .non) σ H (PDat K k) := es_c fun _ => ⟨_, gd_non.up (Nat.zero_le k)⟩
theorem es_dbl {b : Bool} {k : Nat} : EvS a (tC (.bl b)) σ H (PDat K k) := es_c fun _ => ⟨_, gd_bl.up (Nat.zero_le k)⟩
theorem es_dstr {x : Str} {k : Nat} (h : fine 0 (.str x) = true) : EvS a (tC (.str x)) σ H (PDat K k) := es_c fun _ => ⟨_, (gd_str h).up (Nat.zero_le k)⟩
theorem es_dof {lo hi : Int} {k : Nat} (h : EvS a te σ H (PInt lo hi)) (h1 : -1000000000 ≤ lo) (h2 : hi ≤ 1000000000) : EvS a te σ H (PDat K k) := es_imp h fun _ _ p => dat_up (Nat.zero_le k) (int_dat h1 h2 p)
theorem es_dtup {n k : Nat} (h : EvS a te σ H (PTs K n (PDat K k))) (hn : n ≤ 20) : EvS a te σ H (PDat K (k + 1)) := es_imp h fun _ _ p => tups_dat hn p
theorem es_dup {k j : Nat} (h : EvS a te σ H (PDat K k)) (l : k ≤ j) : EvS a te σ H (PDat K j) := es_imp h fun _ _ p => dat_up l p
theorem s_tup3 {i j l : Nat} {x y z : V} (h : EvU te σ H [x, y, z]) (k : ∀ H1, Ex H H1 → D.nx (((σ.set i (some x)).set j (some y)).set l (some z)) H1) : tAsg te (gTup K 3 (gCons (gName i) (gCons (gName j) (gCons (gName l) gNil)))) D σ H :=
  h H (.refl H) _ fun p H1 np e hp => ⟨p, _, rfl, st_of hp, rfl, x, _, rfl, y, _, rfl, z, _, rfl, rfl, k H1 e⟩
theorem s_par3 {i j l : Nat} {x y z : V} {ta : TA} (h : EvA ta σ H [x, y, z]) (k : ∀ H1, Ex H H1 → D.nx (((σ.set i (some x)).set j (some y)).set l (some z)) H1) : tPar3 i j l ta D σ H :=
  h H (.refl H) _ fun H1 e => ⟨x, y, z, rfl, k H1 e⟩
theorem ss_tup2 {i j : Nat} (s : Src H a) (h : EvS a te σ H (PTup K 2 P)) (k : ∀ x y H1, Up a H H1 → P x H1 → P y H1 → D.nx ((σ.set i (some x)).set j (some y)) H1) : tAsg te (gTup K 2 (gCons (gName i) (gCons (gName j) gNil))) D σ H :=
  h H (.refl s) _ fun v H1 u ⟨b, xs, ev, hb, hl, hp⟩ => by
    match xs, hl with
    | [x, y], _ => exact ⟨b, _, ev, hb, rfl, x, _, rfl, y, _, rfl, rfl, k x y H1 u (hp x (by simp)) (hp y (by simp))⟩
theorem ss_par {i j : Nat} {ta : TA} (s : Src H a) (h : EvSA a ta σ H 2 P) (k : ∀ x y H1, Up a H H1 → P x H1 → P y H1 → D.nx ((σ.set i (some x)).set j (some y)) H1) : tPar i j ta D σ H :=
  h H (.refl s) _ fun vs H1 u hl hp => by
    match vs, hl with
    | [x, y], _ => exact ⟨x, y, rfl, k x y H1 u (hp x (by simp)) (hp y (by simp))⟩
end
end Own


namespace Own
open PySem PySem.Spec PyProof.Rows L2
open Evl
section
variable {K : PySem.W.Frag} {a : Addr} {σ : L2.St} {H H' : Hp} {te ta tb : TE} {P R S : VP} {D : Ends} {tz tu t : TS}
/-- the tuple of just these -/
def PSq (K : PySem.W.Frag) (xs : List V) : VP := fun v H => ∃ b, v = .ref b ∧ SqT K H b xs
theorem monoK_sq {xs : List V} : MonoK (PSq K xs) := fun _ _ _ e ⟨b, ev, hb⟩ => ⟨b, ev, e.sqT hb⟩
theorem cut_whole {xs : List V} {lo hi : Option Int} (h1 : HT.sIx xs.length 0 lo = 0) (h2 : HT.sIx xs.length xs.length hi = xs.length) : cutV xs lo hi = xs := by
  unfold cutV
  rw [h1, h2]
  simp
theorem es_cutX {xs : List V} {tl th : TO} {lo hi : Option Int} (h : EvS a te σ H (PSq K xs)) (hl : ∀ H1, Up a H H1 → ∀ Q : Option Int → Hp → Prop, (∀ H2, Up a H1 H2 → Q lo H2) → tl σ H1 Q) (hh : ∀ H1, Up a H H1 → ∀ Q : Option Int → Hp → Prop, (∀ H2, Up a H1 H2 → Q hi H2) → th σ H1 Q) :
    EvS a (tSl (rSlA K) te tl th) σ H (PSq K (cutV xs lo hi)) :=
  fun H1 u Q q => h H1 u _ fun x H2 u2 px => hl H2 (u.trans u2) _ fun H3 u3 => hh H3 ((u.trans u2).trans u3) _ fun H4 u4 => by
    obtain ⟨b, ex, hx⟩ := monoK_sq.up x H2 H4 u2.src (u3.trans u4) px
    exact ⟨b, xs, ex, hx, fun ⟨h1, h2⟩ => q _ H4 ((u2.trans u3).trans u4) ⟨b, rfl, by rw [cut_whole h1 h2]; exact hx⟩, fun _ p np => q _ _ (((u2.trans u3).trans u4).trans (.ex (Ex.new np) u4.src)) ⟨p, rfl, st_of upd_same⟩⟩
theorem cp_none : ∀ H1, Up a H H1 → ∀ Q : Option Int → Hp → Prop, (∀ H2, Up a H1 H2 → Q none H2) → tNoPart σ H1 Q := fun H1 u Q q => q H1 (.refl u.src)
theorem cp_some {i : Int} (h : EvS a te σ H (PInt i i)) : ∀ H1, Up a H H1 → ∀ Q : Option Int → Hp → Prop, (∀ H2, Up a H1 H2 → Q (some i) H2) → tPart te σ H1 Q :=
  fun H1 u Q q => h H1 u _ fun v H2 u2 ⟨j, e, h1, h2⟩ => ⟨j, e, by rw [show j = i by omega]; exact q H2 u2⟩
theorem es_catX {xs ys : List V} (ha : EvS a ta σ H (PSq K xs)) (hb : EvS a tb σ H (PSq K ys)) (hz : xs.length + ys.length ≤ 1000) : EvS a (tOp (rCatA K) ta tb) σ H (PSq K (xs ++ ys)) :=
  es_op ha hb monoK_sq.up fun x y H1 u ⟨b, ex, hx⟩ ⟨c, ey, hy⟩ Q q => ⟨b, c, xs, ys, ex, ey, hx, hy, sz_of (by omega),
    fun z => q _ H1 (.refl u.src) ⟨c, rfl, by rw [z]; exact hy⟩, fun _ z => q _ H1 (.refl u.src) ⟨b, rfl, by rw [z, List.append_nil]; exact hx⟩, fun _ _ p np => q _ _ (.ex (Ex.new np) u.src) ⟨p, rfl, st_of upd_same⟩⟩
theorem es_oneX {i : Nat} {v : V} (e : σ[i]? = some (some v)) : EvS a (tTup (tCons (tVar i) tNil)) σ H (PSq K [v]) :=
  fun H1 u Q q => ⟨v, e, ⟨by show 1 ≤ sizeLine; decide, fun p np => q _ _ (.ex (Ex.new np) u.src) ⟨p, rfl, st_of upd_same⟩⟩⟩
theorem cut_lo {xs : List V} {w : Nat} (h : w ≤ xs.length) : cutV xs none (some (w : Int)) = xs.take w := by
  unfold cutV
  rw [HT.sIx_none, HT.sIx_nat, Nat.min_eq_left h]
  simp
theorem cut_hi {xs : List V} {w : Nat} (h : w ≤ xs.length) : cutV xs (some (w : Int)) none = xs.drop w := by
  unfold cutV
  rw [HT.sIx_none, HT.sIx_nat, Nat.min_eq_left h]
  exact List.take_of_length_le (by rw [List.length_drop]; omega)
/-! ### lists of data, kept in a list -/
structure Men (K : PySem.W.Frag) (a l : Addr) (n : Nat) (H : Hp) : Prop where
  ne : l ≠ a
  all : ∃ items, H l = some (.lst items) ∧ items.length = n ∧ ∀ x ∈ items, ∃ b ys, x = .ref b ∧ b ≠ a ∧ b ≠ l ∧ H b = some (.lst ys) ∧ 0 < ys.length ∧ ys.length ≤ 20 ∧ ∀ y ∈ ys, PDat K 1 y H
theorem Men.up {l : Addr} {n : Nat} (s : Src H a) (u : Up a H H') (m : Men K a l n H) : Men K a l n H' :=
  let ⟨ne, items, h, hl, hp⟩ := m
  ⟨ne, items, u.keep l _ ne h, hl, fun x hx => let ⟨b, ys, e, n1, n2, hb, l0, l1, py⟩ := hp x hx; ⟨b, ys, e, n1, n2, u.keep b _ n1 hb, l0, l1, fun y hy => monoK_dat y _ _ (u.kp s) (py y hy)⟩⟩
theorem men_add {H0 : Hp} {l : Addr} {n m i : Nat} {ta : TA} (s : Src H0 a) (u0 : Up a H0 H) (nl : H0 l = none) (M : Men K a l n H) (hv : σ[i]? = some (some (.ref l))) (h : EvSA a ta σ H m (PDat K 1)) (h1 : 0 < m) (hm : m ≤ 20) (hn : n < 100)
    (k : ∀ H1, Up a H0 H1 → Men K a l (n + 1) H1 → tz D σ H1) : tSeq (tDrop (tBM K "list" rAppend (tVar i) (tCons (tLst ta) tNil))) tz D σ H := by
  obtain ⟨ne, items, hi, hl, hp⟩ := M
  refine ⟨_, hv, .inl ⟨rfl, _, sq_of hi⟩, h H (.refl u0.src) _ fun vs H2 u2 hvs pv => ⟨sz_of (by omega), fun p np => ?_⟩⟩
  have hi2 := u2.keep l _ ne hi
  have pl : p ≠ l := fun z => by subst z; rw [hi2] at np; cases np
  have pa : p ≠ a := u2.src.new np
  have k1 : Kp H2 (upd H2 p (.lst vs)) := .new np
  have hi3 : (upd H2 p (.lst vs)) l = some (.lst items) := by rw [upd_ne pl.symm]; exact hi2
  have k2 : Kp (upd H2 p (.lst vs)) (upd (upd H2 p (.lst vs)) l (.lst (items ++ [.ref p]))) := .lst hi3
  refine ⟨l, items, .ref p, rfl, rfl, hi3, sz_lt (by omega), k _ ⟨fun b o nb hb => ?_, ?_⟩ ⟨ne, items ++ [.ref p], upd_same, by rw [List.length_append, hl]; rfl, fun x hx => ?_⟩⟩
  · have bl : b ≠ l := ne_of_none hb nl
    have h2 := u2.keep b o nb (u0.keep b o nb hb)
    rw [upd_ne bl, upd_ne (ne_of_none h2 np)]
    exact h2
  · obtain ⟨big, mixed, e, r⟩ := u2.src
    exact ⟨big, mixed, by rw [upd_ne ne.symm, upd_ne pa.symm]; exact e, r⟩
  · rcases List.mem_append.mp hx with z | z
    · obtain ⟨b, ys, e, n1, n2, hb, l0, l1, py⟩ := hp x z
      have hb2 := u2.keep b _ n1 hb
      exact ⟨b, ys, e, n1, n2, by rw [upd_ne n2, upd_ne (ne_of_none hb2 np)]; exact hb2, l0, l1, fun y hy => monoK_dat y _ _ (((u2.kp u0.src).trans k1).trans k2) (py y hy)⟩
    · rw [List.mem_singleton.mp z]
      exact ⟨p, vs, rfl, pa, pl, by rw [upd_ne pl]; exact upd_same, by omega, by omega, fun y hy => monoK_dat y _ _ (k1.trans k2) (pv y hy)⟩
/-- [[..]] -/
theorem ss_first {i n : Nat} {ta : TA} (s : Src H a) (h : EvSA a ta σ H n P) (hn : n ≤ 1000) (k : ∀ vs H1, Up a H H1 → vs.length = n → (∀ v ∈ vs, P v H1) → ∀ p, H1 p = none → ∀ l, (upd H1 p (.lst vs)) l = none → tz D (σ.set i (some (.ref l))) (upd (upd H1 p (.lst vs)) l (.lst [.ref p]))) :
    tSeq (tAsg (tLst (tCons (tLst ta) tNil)) (gName i)) tz D σ H :=
  h H (.refl s) _ fun vs H1 u1 hl pv => ⟨sz_of (by omega), fun p np => ⟨by show 1 ≤ sizeLine; decide, fun l nl => k vs H1 u1 hl pv p np l nl⟩⟩
/-- one of the j-th list -/
theorem es_men {l : Addr} {n s0 s1 s2 : Nat} {w : Int} {E : XK} (e0 : σ[s0]? = some (some (.ref a))) (e1 : σ[s1]? = some (some (.ref l))) (e2 : σ[s2]? = some (some (.int w))) (M : ∀ H1, Up a H H1 → Men K a l n H1) (h0 : 0 ≤ w) (h1 : w < (n : Int)) :
    EvS a (tCall (spOne K) [] E (tCons (tVar s0) (tCons (tOp (rIxL K) (tVar s1) (tVar s2)) tNil))) σ H (PDat K 1) := fun H1 u Q q => by
  obtain ⟨ne, items, hi, hl, hp⟩ := M H1 u
  have hw : w.toNat < items.length := by omega
  obtain ⟨b, ys, e, n1, n2, hb, l0, l1, py⟩ := hp items[w.toNat] (List.getElem_mem hw)
  refine ⟨_, e0, _, e1, _, e2, l, items, w, .ref b, rfl, rfl, sq_of hi, ?_, a, b, ys, rfl, n1, u.src, sq_of hb, (fun z => by rw [z] at l0; cases l0), by omega, fun x hx H3 u3 => q _ _ u3 (monoK_dat x _ _ (u3.kp u.src) (py x hx))⟩
  exact at_of (j := w.toNat) (by omega) (by rw [List.getElem?_eq_getElem hw, e])
end
end Own


namespace Own
open PySem PySem.Spec PyProof.Rows L2
open Evl
/-! ### the same without a source -/
def EvX (te : TE) (σ : L2.St) (H : Hp) (P : VP) : Prop := ∀ H1, Ex H H1 → ∀ Q : VK, (∀ v H2, Ex H1 H2 → P v H2 → Q v H2) → te σ H1 Q
def EvXA (ta : TA) (σ : L2.St) (H : Hp) (n : Nat) (P : VP) : Prop := ∀ H1, Ex H H1 → ∀ Q : List V → Hp → Prop, (∀ vs H2, Ex H1 H2 → vs.length = n → (∀ v ∈ vs, P v H2) → Q vs H2) → ta σ H1 Q
def PLx (n : Nat) (P : VP) : VP := fun v H => ∃ b xs, v = .ref b ∧ H b = some (.lst xs) ∧ xs.length = n ∧ ∀ x ∈ xs, P x H
section
variable {K : PySem.W.Frag} {σ : L2.St} {H H' : Hp} {te ta tb : TE} {P R S : VP} {D : Ends} {tz tu t : TS}
theorem ex_c {v : V} (h : ∀ H1, P v H1) : EvX (tC v) σ H P := fun H1 u Q q => q v H1 (.refl H1) (h H1)
theorem ex_dint {i : Int} {k : Nat} (h : i.natAbs < 2 ^ 64) : EvX (tC (.int i)) σ H (PDat K k) := ex_c fun _ => ⟨_, (gd_int h).up (Nat.zero_le k)⟩
theorem ex_dnon {k : Nat} : EvX (tC .non) σ H (PDat K k) := ex_c fun _ => ⟨_, gd_non.up (Nat.zero_le k)⟩
theorem ex_imp (h : EvX te σ H P) (i : ∀ v H1, P v H1 → R v H1) : EvX te σ H R := fun H1 u Q q => h H1 u Q fun v H2 u2 p => q v H2 u2 (i v H2 p)
theorem xa_nil : EvXA tNil σ H 0 P := fun H1 u Q q => q [] H1 (.refl H1) rfl fun _ h => absurd h List.not_mem_nil
theorem xa_cons {ta : TA} {n : Nat} (h : EvX te σ H P) (hr : EvXA ta σ H n P) (m : MonoK P) : EvXA (tCons te ta) σ H (n + 1) P :=
  fun H1 u Q q => h H1 u _ fun v H2 u2 p => hr H2 (u.trans u2) _ fun vs H3 u3 hl hp => q (v :: vs) H3 (u2.trans u3) (by rw [List.length_cons, hl]) fun x hx => by
    rcases List.mem_cons.mp hx with e | e
    · rw [e]; exact m v H2 H3 (.ex u3) p
    · exact hp x e
theorem ex_tup {ta : TA} {n : Nat} (h : EvXA ta σ H n P) (hn : n ≤ 1000) (m : MonoK P) : EvX (tTup ta) σ H (PTup K n P) :=
  fun H1 u Q q => h H1 u _ fun vs H2 u2 hl hp => ⟨sz_of (by omega), fun p np => q _ _ (u2.trans (Ex.new np)) ⟨p, vs, rfl, st_of upd_same, hl, fun x hx => m x _ _ (.new np) (hp x hx)⟩⟩
theorem ex_dtup {ta : TA} {n k : Nat} (h : EvXA ta σ H n (PDat K k)) (hn : n ≤ 20) : EvX (tTup ta) σ H (PDat K (k + 1)) := ex_imp (ex_tup h (by omega) monoK_dat) fun _ _ p => tup_dat hn p
theorem ex_up {k j : Nat} (h : EvX te σ H (PDat K k)) (l : k ≤ j) : EvX te σ H (PDat K j) := ex_imp h fun _ _ p => dat_up l p
theorem ex_lst {ta : TA} {n : Nat} (h : EvXA ta σ H n P) (hn : n ≤ 1000) (m : MonoK P) : EvX (tLst ta) σ H (PLx n P) :=
  fun H1 u Q q => h H1 u _ fun vs H2 u2 hl hp => ⟨sz_of (by omega), fun p np => q _ _ (u2.trans (Ex.new np)) ⟨p, vs, rfl, upd_same, hl, fun x hx => m x _ _ (.new np) (hp x hx)⟩⟩
/-- (e,) * c, c written -/
theorem ex_rep {c : Int} (h : EvX te σ H P) (h1 : 2 ≤ c) (h2 : c ≤ 20) (mk : MonoK P) : EvX (tOp (rTimes K) (tTup (tCons te tNil)) (tC (.int c))) σ H (PTs K 20 P) :=
  fun H1 u Q q => h H1 u _ fun v H2 u2 pv => ⟨by show 1 ≤ sizeLine; decide, fun p np => .inl ⟨p, c, [v], rfl, rfl, st_of upd_same, by simp, h1, by omega, by show 1 ≤ 1000; decide, fun r nr =>
    q _ _ (u2.trans ((Ex.new np).trans (Ex.new nr))) ⟨r, _, rfl, st_of upd_same, by rw [PyProof.Rows.lm_len_rep_flat]; show c.toNat * 1 ≤ 20; omega, fun z hz => by
      obtain ⟨l, hl, hz⟩ := List.mem_flatten.mp hz
      rw [List.eq_of_mem_replicate hl] at hz
      rw [List.mem_singleton.mp hz]
      exact mk v _ _ ((Kp.new np).trans (.new nr)) pv⟩⟩⟩
theorem ex_catL {n k : Nat} (ha : EvX ta σ H (PLx n P)) (hb : EvX tb σ H (PLx k P)) (mk : MonoK P) (hz : n + k ≤ 1000) : EvX (tOp rCat ta tb) σ H (PLx (n + k) P) :=
  fun H1 u Q q => ha H1 u _ fun x H2 u2 ⟨b, xs, ex, hx, lx, px⟩ => hb H2 (u.trans u2) _ fun y H3 u3 ⟨c, ys, ey, hy, ly, py⟩ => ⟨b, c, xs, ys, ex, ey, u3 b _ hx, hy, sz_of (by omega), fun p np => q _ _ (u2.trans (u3.trans (Ex.new np)))
    ⟨p, xs ++ ys, rfl, upd_same, by rw [List.length_append]; omega, fun z hz => by
      rcases List.mem_append.mp hz with w | w
      · exact mk z _ _ ((Kp.ex u3).trans (.new np)) (px z w)
      · exact mk z _ _ (.new np) (py z w)⟩⟩
theorem ex_vl {i n : Nat} {v : V} (e : σ[i]? = some (some v)) (h : PLx n P v H) (mk : MonoK P) : EvX (tVar i) σ H (PLx n P) := fun H1 u Q q => ⟨v, e, q v H1 (.refl H1) (let ⟨b, xs, ev, hb, hl, hp⟩ := h; ⟨b, xs, ev, u b _ hb, hl, fun x hx => mk x _ _ (.ex u) (hp x hx)⟩)⟩
theorem sx_asg {i : Nat} (h : EvX te σ H P) (k : ∀ v H1, Ex H H1 → P v H1 → tz D (σ.set i (some v)) H1) : tSeq (tAsg te (gName i)) tz D σ H := h H (.refl H) _ fun v H2 u p => k v H2 u p
/-- xs.append(e) -/
theorem sx_app {i : Nat} {l : Addr} {xs : List V} (hl : H l = some (.lst xs)) (hv : σ[i]? = some (some (.ref l))) (h : EvX te σ H P) (hz : xs.length < 100000)
    (k : ∀ y H1, Ex H H1 → P y H1 → tz D σ (upd H1 l (.lst (xs ++ [y])))) : tSeq (tDrop (tBM K "list" rAppend (tVar i) (tCons te tNil))) tz D σ H :=
  ⟨_, hv, .inl ⟨rfl, _, sq_of hl⟩, h H (.refl H) _ fun y H2 u p => ⟨l, xs, y, rfl, rfl, u l _ hl, sz_lt hz, k y H2 u p⟩⟩
end
end Own


namespace My
open PySem PySem.Spec PyProof.Rows L2 Own
def topS (i : Nat) : Stmt := PySem.Challenge.pw_twicemany_k01_shapes_made_and_refused.main.body.getD i (.Pass ⟨0, 0, 0, 0⟩)
abbrev s_init : Stmt := inClass (topS 1) 0
theorem sc_init : FnScope ["self", "what"] ["self", "what"] (defScope s_init) := ⟨rfl, rfl, rfl, by decide +kernel, rfl, by decide +kernel, by decide +kernel⟩
abbrev s_number_within : Stmt := topS 4
abbrev n_number_within : List Str := ["thing", "low", "high"]
theorem sc_number_within : FnScope n_number_within ["thing", "low", "high"] (defScope s_number_within) := ⟨rfl, rfl, rfl, by decide +kernel, rfl, by decide +kernel, by decide +kernel⟩
abbrev s_tuple_of : Stmt := topS 5
abbrev n_tuple_of : List Str := ["thing", "many"]
theorem sc_tuple_of : FnScope n_tuple_of ["thing", "many"] (defScope s_tuple_of) := ⟨rfl, rfl, rfl, by decide +kernel, rfl, by decide +kernel, by decide +kernel⟩
abbrev s_is_prime : Stmt := topS 8
abbrev n_is_prime : List Str := ["p", "divisor"]
theorem sc_is_prime : FnScope n_is_prime ["p"] (defScope s_is_prime) := ⟨rfl, rfl, rfl, by decide +kernel, rfl, by decide +kernel, by decide +kernel⟩
abbrev s_made_shape : Stmt := topS 10
abbrev n_made_shape : List Str := ["thing", "fault"]
theorem sc_made_shape : FnScope n_made_shape ["thing"] (defScope s_made_shape) := ⟨rfl, rfl, rfl, by decide +kernel, rfl, by decide +kernel, by decide +kernel⟩
abbrev s_is_shape : Stmt := topS 11
abbrev n_is_shape : List Str := ["thing"]
theorem sc_is_shape : FnScope n_is_shape ["thing"] (defScope s_is_shape) := ⟨rfl, rfl, rfl, by decide +kernel, rfl, by decide +kernel, by decide +kernel⟩
abbrev s_shape_fault : Stmt := topS 12
abbrev n_shape_fault : List Str := ["thing", "p", "wide", "n", "k", "e", "manner", "table"]
theorem sc_shape_fault : FnScope n_shape_fault ["thing"] (defScope s_shape_fault) := ⟨rfl, rfl, rfl, by decide +kernel, rfl, by decide +kernel, by decide +kernel⟩
abbrev s_table_fits : Stmt := topS 13
abbrev n_table_fits : List Str := ["table", "n", "p", "row"]
theorem sc_table_fits : FnScope n_table_fits ["table", "n", "p"] (defScope s_table_fits) := ⟨rfl, rfl, rfl, by decide +kernel, rfl, by decide +kernel, by decide +kernel⟩
abbrev s_numbers_fit : Stmt := topS 14
abbrev n_numbers_fit : List Str := ["thing", "many", "p", "number"]
theorem sc_numbers_fit : FnScope n_numbers_fit ["thing", "many", "p"] (defScope s_numbers_fit) := ⟨rfl, rfl, rfl, by decide +kernel, rfl, by decide +kernel, by decide +kernel⟩
abbrev s_law_pool : Stmt := topS 16
abbrev n_law_pool : List Str := ["script", "k", "cell", "big", "mixed"]
theorem sc_law_pool : FnScope n_law_pool ["script", "k"] (defScope s_law_pool) := ⟨rfl, rfl, rfl, by decide +kernel, rfl, by decide +kernel, by decide +kernel⟩
abbrev s_law_take : Stmt := topS 17
abbrev n_law_take : List Str := ["source", "top", "drawn"]
theorem sc_law_take : FnScope n_law_take ["source", "top"] (defScope s_law_take) := ⟨rfl, rfl, rfl, by decide +kernel, rfl, by decide +kernel, by decide +kernel⟩
abbrev s_law_one : Stmt := topS 18
abbrev n_law_one : List Str := ["source", "things"]
theorem sc_law_one : FnScope n_law_one ["source", "things"] (defScope s_law_one) := ⟨rfl, rfl, rfl, by decide +kernel, rfl, by decide +kernel, by decide +kernel⟩
abbrev s_law_is_number : Stmt := topS 19
abbrev n_law_is_number : List Str := ["thing", "low", "high"]
theorem sc_law_is_number : FnScope n_law_is_number ["thing", "low", "high"] (defScope s_law_is_number) := ⟨rfl, rfl, rfl, by decide +kernel, rfl, by decide +kernel, by decide +kernel⟩
abbrev s_law_is_prime : Stmt := topS 20
abbrev n_law_is_prime : List Str := ["p", "d"]
theorem sc_law_is_prime : FnScope n_law_is_prime ["p"] (defScope s_law_is_prime) := ⟨rfl, rfl, rfl, by decide +kernel, rfl, by decide +kernel, by decide +kernel⟩
abbrev s_law_is_table : Stmt := topS 21
abbrev n_law_is_table : List Str := ["thing", "n", "p", "line", "number"]
theorem sc_law_is_table : FnScope n_law_is_table ["thing", "n", "p"] (defScope s_law_is_table) := ⟨rfl, rfl, rfl, by decide +kernel, rfl, by decide +kernel, by decide +kernel⟩
abbrev s_law_fault : Stmt := topS 22
abbrev n_law_fault : List Str := ["thing", "p", "wide", "n", "k", "e", "manner", "table"]
theorem sc_law_fault : FnScope n_law_fault ["thing"] (defScope s_law_fault) := ⟨rfl, rfl, rfl, by decide +kernel, rfl, by decide +kernel, by decide +kernel⟩
abbrev s_law_thing_right : Stmt := topS 23
abbrev n_law_thing_right : List Str := ["thing", "fault", "turn", "told", "refusal"]
theorem sc_law_thing_right : FnScope n_law_thing_right ["thing"] (defScope s_law_thing_right) := ⟨rfl, rfl, rfl, by decide +kernel, rfl, by decide +kernel, by decide +kernel⟩
abbrev s_law_drawn_prime : Stmt := topS 24
abbrev n_law_drawn_prime : List Str := ["source", "some", "number", "turn"]
theorem sc_law_drawn_prime : FnScope n_law_drawn_prime ["source"] (defScope s_law_drawn_prime) := ⟨rfl, rfl, rfl, by decide +kernel, rfl, by decide +kernel, by decide +kernel⟩
abbrev s_law_drawn_shape : Stmt := topS 25
abbrev n_law_drawn_shape : List Str := ["source", "p", "wide", "n", "k", "manner", "e", "table", "j", "x"]
theorem sc_law_drawn_shape : FnScope n_law_drawn_shape ["source"] (defScope s_law_drawn_shape) := ⟨rfl, rfl, rfl, by decide +kernel, rfl, by decide +kernel, by decide +kernel⟩
abbrev s_law_bent_table : Stmt := topS 26
abbrev n_law_bent_table : List Str := ["source", "shape", "p", "n", "table", "line", "some"]
theorem sc_law_bent_table : FnScope n_law_bent_table ["source", "shape"] (defScope s_law_bent_table) := ⟨rfl, rfl, rfl, by decide +kernel, rfl, by decide +kernel, by decide +kernel⟩
abbrev s_law_bent : Stmt := topS 27
abbrev n_law_bent : List Str := ["source", "shape", "at", "some", "thing"]
theorem sc_law_bent : FnScope n_law_bent ["source", "shape", "at"] (defScope s_law_bent) := ⟨rfl, rfl, rfl, by decide +kernel, rfl, by decide +kernel, by decide +kernel⟩
abbrev s_law : Stmt := topS 28
abbrev n_law : List Str := ["script", "told", "source", "second", "shape", "turn", "thing"]
theorem sc_law : FnScope n_law ["script"] (defScope s_law) := ⟨rfl, rfl, rfl, by decide +kernel, rfl, by decide +kernel, by decide +kernel⟩
section
/-- what the top has written -/
structure Txt (K : PySem.W.Frag) (mg : Str → Option Value) where
  f_number_within : Addr
  fd_number_within : FuncData
  d_number_within : DefAt K mg "number_within" s_number_within ["thing", "low", "high"] f_number_within fd_number_within
  f_tuple_of : Addr
  fd_tuple_of : FuncData
  d_tuple_of : DefAt K mg "tuple_of" s_tuple_of ["thing", "many"] f_tuple_of fd_tuple_of
  f_is_prime : Addr
  fd_is_prime : FuncData
  d_is_prime : DefAt K mg "is_prime" s_is_prime ["p"] f_is_prime fd_is_prime
  f_made_shape : Addr
  fd_made_shape : FuncData
  d_made_shape : DefAt K mg "made_shape" s_made_shape ["thing"] f_made_shape fd_made_shape
  f_is_shape : Addr
  fd_is_shape : FuncData
  d_is_shape : DefAt K mg "is_shape" s_is_shape ["thing"] f_is_shape fd_is_shape
  f_shape_fault : Addr
  fd_shape_fault : FuncData
  d_shape_fault : DefAt K mg "shape_fault" s_shape_fault ["thing"] f_shape_fault fd_shape_fault
  f_table_fits : Addr
  fd_table_fits : FuncData
  d_table_fits : DefAt K mg "table_fits" s_table_fits ["table", "n", "p"] f_table_fits fd_table_fits
  f_numbers_fit : Addr
  fd_numbers_fit : FuncData
  d_numbers_fit : DefAt K mg "numbers_fit" s_numbers_fit ["thing", "many", "p"] f_numbers_fit fd_numbers_fit
  f_law_pool : Addr
  fd_law_pool : FuncData
  d_law_pool : DefAt K mg "_law_pool" s_law_pool ["script", "k"] f_law_pool fd_law_pool
  f_law_take : Addr
  fd_law_take : FuncData
  d_law_take : DefAt K mg "_law_take" s_law_take ["source", "top"] f_law_take fd_law_take
  f_law_one : Addr
  fd_law_one : FuncData
  d_law_one : DefAt K mg "_law_one" s_law_one ["source", "things"] f_law_one fd_law_one
  f_law_is_number : Addr
  fd_law_is_number : FuncData
  d_law_is_number : DefAt K mg "_law_is_number" s_law_is_number ["thing", "low", "high"] f_law_is_number fd_law_is_number
  f_law_is_prime : Addr
  fd_law_is_prime : FuncData
  d_law_is_prime : DefAt K mg "_law_is_prime" s_law_is_prime ["p"] f_law_is_prime fd_law_is_prime
  f_law_is_table : Addr
  fd_law_is_table : FuncData
  d_law_is_table : DefAt K mg "_law_is_table" s_law_is_table ["thing", "n", "p"] f_law_is_table fd_law_is_table
  f_law_fault : Addr
  fd_law_fault : FuncData
  d_law_fault : DefAt K mg "_law_fault" s_law_fault ["thing"] f_law_fault fd_law_fault
  f_law_thing_right : Addr
  fd_law_thing_right : FuncData
  d_law_thing_right : DefAt K mg "_law_thing_right" s_law_thing_right ["thing"] f_law_thing_right fd_law_thing_right
  f_law_drawn_prime : Addr
  fd_law_drawn_prime : FuncData
  d_law_drawn_prime : DefAt K mg "_law_drawn_prime" s_law_drawn_prime ["source"] f_law_drawn_prime fd_law_drawn_prime
  f_law_drawn_shape : Addr
  fd_law_drawn_shape : FuncData
  d_law_drawn_shape : DefAt K mg "_law_drawn_shape" s_law_drawn_shape ["source"] f_law_drawn_shape fd_law_drawn_shape
  f_law_bent_table : Addr
  fd_law_bent_table : FuncData
  d_law_bent_table : DefAt K mg "_law_bent_table" s_law_bent_table ["source", "shape"] f_law_bent_table fd_law_bent_table
  f_law_bent : Addr
  fd_law_bent : FuncData
  d_law_bent : DefAt K mg "_law_bent" s_law_bent ["source", "shape", "at"] f_law_bent fd_law_bent
  f_law : Addr
  fd_law : FuncData
  d_law : DefAt K mg "law" s_law ["script"] f_law fd_law
  k_made_shape : ∀ (s : Shared) (ws : List Value), K.In s.heap → ws.length = (["thing"] : List Str).length → BindsTo s fd_made_shape ⟨[], (["thing"] : List Str).zip ws⟩ ((["thing"] : List Str).zip ws)
  c_Refused : Addr
  g_Refused : mg "Refused" = some (.ref c_Refused)
  c_BadShape : Addr
  g_BadShape : mg "BadShape" = some (.ref c_BadShape)
  f_init : Addr
  fd_init : FuncData
  d_init : Fun K "__init__" "Refused.__init__" s_init f_init fd_init
  b_init : Binds K fd_init ["self", "what"] []
  ti : PySem.W.typeIn K (.ref f_init) = some (.type "function")
  o_BadShape : OexC K c_BadShape
  i_BadShape : PySem.W.findIn K (.ref c_BadShape) "__init__" = some (some (.ref f_init))
  n_BadShape_what : WhC K c_BadShape
  x_BadShape : XfC K c_BadShape
  e_BadShape : ExcC K c_BadShape
  te_BadShape_Refused : PySem.W.exmOne K (.ref c_BadShape) (.ref c_Refused) = some true
  ki_BadShape_BadShape : PySem.W.kitOne K (.ref c_BadShape) (.ref c_BadShape) = some true
  m_all : mg "all" = none
  m_bool : mg "bool" = none
  m_int : mg "int" = none
  m_isinstance : mg "isinstance" = none
  m_len : mg "len" = none
  m_list : mg "list" = none
  m_max : mg "max" = none
  m_min : mg "min" = none
  m_range : mg "range" = none
  m_repr : mg "repr" = none
  m_tuple : mg "tuple" = none
  tk_GREATEST_PRIME : Tok
  v_GREATEST_PRIME : mg "GREATEST_PRIME" = some (.int 1000003 tk_GREATEST_PRIME)
end

/-- the law, of any script -/
def sp_law (K : PySem.W.Frag) : Sp := fun vs H Q _ => ∃ (a : Addr) (ns : List Int), vs = [.ref a] ∧ SqL K H a (ns.map V.int) ∧ ns.length ≤ 63 ∧ (∀ xs, H a ≠ some (.lst xs)) ∧ ∀ H', Q (.bl true) H'
theorem law_sp {K : PySem.W.Frag} {H : Hp} {a : Addr} {ns : List Int} (h1 : ns.length ≤ 63) (h2 : Only H) (h3 : SqL K H a (ns.map V.int)) : sp_law K [.ref a] H (fun v _ => v = .bl true) E0 :=
  ⟨a, ns, rfl, h3, h1, (fun xs e => by rcases h2 a with z | ⟨o, ys, z⟩ <;> (rw [e] at z; cases z)), fun _ => rfl⟩
end My


set_option maxHeartbeats 1000000
namespace My
open PySem PySem.Spec PyProof.Rows L2 Own
open Evl (Ex RetV)
section
variable {P : Program} {w : World} {K : PySem.W.Frag} {mg : Str → Option Value} {base : Heap}

open Evl
/-! ### the checks -/
def sp_number_within (T : Txt K mg) : Sp := fun vs H Q _ => ∃ k x d lo hi, vs = [x, .int lo, .int hi] ∧ Gd K H k x d ∧ RetV (.bl (within d lo hi)) H Q
def sp_law_is_number (T : Txt K mg) : Sp := sp_number_within T
theorem len_number_within (T : Txt K mg) {vs H Q E} (h : sp_number_within T vs H Q E) : vs.length = 3 := by obtain ⟨_, _, _, _, _, rfl, _⟩ := h; rfl
theorem len_law_is_number (T : Txt K mg) {vs H Q E} (h : sp_law_is_number T vs H Q E) : vs.length = 3 := len_number_within T h
theorem v_number_within (T : Txt K mg) {H : Hp} {k : Nat} {x : V} {d : PyData} {lo hi : Int} (g : Gd K H k x d) : SpV (sp_number_within T) [x, .int lo, .int hi] H (.bl (within d lo hi)) := spv fun H1 e Q q E => ⟨k, x, d, lo, hi, rfl, g.ex e, q⟩
theorem v_law_is_number (T : Txt K mg) {H : Hp} {k : Nat} {x : V} {d : PyData} {lo hi : Int} (g : Gd K H k x d) : SpV (sp_law_is_number T) [x, .int lo, .int hi] H (.bl (within d lo hi)) := v_number_within T g
def t_number_within (T : Txt K mg) : TS := (tRet (tAndV (tCB (rIsi K) (tCons (tVar 0) (tCons (tC (.ty "int")) tNil))) (tAndV (tNotV (tCB (rIsi K) (tCons (tVar 0) (tCons (tC (.ty "bool")) tNil)))) (tChain rLeI rLeI (tVar 1) (tVar 0) (tVar 2)))))

theorem pure_number_within (T : Txt K mg) {vs H Q} {E : XK} (h : sp_number_within T vs H Q E) : t_number_within T { nx := fun _ H' => Q .non H', rt := Q } (L2.start n_number_within vs) H := by
  obtain ⟨k, x, d, lo, hi, rfl, g, q⟩ := h
  refine s_ret (v := .bl (within d lo hi)) ?_ fun H1 e => q H1 e
  have e0 : Ev (tVar 0) (L2.start n_number_within [x, .int lo, .int hi]) H x := ev_var rfl
  have e1 := ev_isI e0 g
  have e2 := ev_notV (ev_isB e0 g)
  cases d with
  | int i =>
    cases g.dp
    exact ev_is (ev_andV e1 fun _ => ev_andV e2 fun _ => ev_chain (ev_var rfl) e0 (ev_var rfl)) (by simp [isI, isB, within])
  | bool b => exact ev_is (ev_andV (b := false) e1 fun _ => ev_andV (b := false) e2 fun z => by simp [isB] at z) (by simp [isI, isB, within])
  | none => exact ev_is (ev_andV (b := false) e1 fun z => by simp [isI] at z) (by simp [isI, within])
  | str b => exact ev_is (ev_andV (b := false) e1 fun z => by simp [isI] at z) (by simp [isI, within])
  | tuple b => exact ev_is (ev_andV (b := false) e1 fun z => by simp [isI] at z) (by simp [isI, within])
  | list b => exact ev_is (ev_andV (b := false) e1 fun z => by simp [isI] at z) (by simp [isI, within])
  | dict b => exact ev_is (ev_andV (b := false) e1 fun z => by simp [isI] at z) (by simp [isI, within])
theorem ok_number_within (T : Txt K mg) : FnOk P w K mg base CX0 1 T.f_number_within T.fd_number_within ["thing", "low", "high"] (sp_number_within T) :=
  T.d_number_within.F.ok sc_number_within (fun vs H Q E h => len_number_within T h) fun cdv A outer s H vs Q E hr h => ⟨t_number_within T, by
    exact (pss_one (ps_ret (pe_and (pe_callB call_isi (by rfl) T.m_isinstance (by decide +kernel) (pa_cons (pv 0) (pa_cons (pe_bltn (v := .ty "int") (by rfl) T.m_int (by decide +kernel) rfl) pa_nil))) (pe_and (pe_not (pe_callB call_isi (by rfl) T.m_isinstance (by decide +kernel) (pa_cons (pv 0) (pa_cons (pe_bltn (v := .ty "bool") (by rfl) T.m_bool (by decide +kernel) rfl) pa_nil)))) (pe_one (pe_chain op_le op_le (pv 1) (pv 0) (pv 2))))))), pure_number_within T h⟩

def t_law_is_number (T : Txt K mg) : TS := (tRet (tAndV (tCB (rIsi K) (tCons (tVar 0) (tCons (tC (.ty "int")) tNil))) (tAndV (tNotV (tCB (rIsi K) (tCons (tVar 0) (tCons (tC (.ty "bool")) tNil)))) (tChain rLeI rLeI (tVar 1) (tVar 0) (tVar 2)))))

theorem pure_law_is_number (T : Txt K mg) {vs H Q} {E : XK} (h : sp_law_is_number T vs H Q E) : t_law_is_number T { nx := fun _ H' => Q .non H', rt := Q } (L2.start n_law_is_number vs) H := pure_number_within T h
theorem ok_law_is_number (T : Txt K mg) : FnOk P w K mg base CX0 1 T.f_law_is_number T.fd_law_is_number ["thing", "low", "high"] (sp_law_is_number T) :=
  T.d_law_is_number.F.ok sc_law_is_number (fun vs H Q E h => len_law_is_number T h) fun cdv A outer s H vs Q E hr h => ⟨t_law_is_number T, by
    exact (pss_one (ps_ret (pe_and (pe_callB call_isi (by rfl) T.m_isinstance (by decide +kernel) (pa_cons (pv 0) (pa_cons (pe_bltn (v := .ty "int") (by rfl) T.m_int (by decide +kernel) rfl) pa_nil))) (pe_and (pe_not (pe_callB call_isi (by rfl) T.m_isinstance (by decide +kernel) (pa_cons (pv 0) (pa_cons (pe_bltn (v := .ty "bool") (by rfl) T.m_bool (by decide +kernel) rfl) pa_nil)))) (pe_one (pe_chain op_le op_le (pv 1) (pv 0) (pv 2))))))), pure_law_is_number T h⟩

def isLen (d : PyData) (m : Int) : Bool := match d with
  | .tuple xs => decide ((xs.length : Int) = m)
  | _ => false
def sp_tuple_of (T : Txt K mg) : Sp := fun vs H Q _ => ∃ k x d m, vs = [x, .int m] ∧ Gd K H k x d ∧ RetV (.bl (isLen d m)) H Q
theorem len_tuple_of (T : Txt K mg) {vs H Q E} (h : sp_tuple_of T vs H Q E) : vs.length = 2 := by obtain ⟨_, _, _, _, rfl, _⟩ := h; rfl
theorem v_tuple_of (T : Txt K mg) {H : Hp} {k : Nat} {x : V} {d : PyData} {m : Int} (g : Gd K H k x d) : SpV (sp_tuple_of T) [x, .int m] H (.bl (isLen d m)) := spv fun H1 e Q q E => ⟨k, x, d, m, rfl, g.ex e, q⟩
def t_tuple_of (T : Txt K mg) : TS := (tRet (tAndV (tCB (rIsi K) (tCons (tVar 0) (tCons (tC (.ty "tuple")) tNil))) (tOp rEq (tCB (rLenV K) (tCons (tVar 0) tNil)) (tVar 1))))

theorem pure_tuple_of (T : Txt K mg) {vs H Q} {E : XK} (h : sp_tuple_of T vs H Q E) : t_tuple_of T { nx := fun _ H' => Q .non H', rt := Q } (L2.start n_tuple_of vs) H := by
  obtain ⟨k, x, d, m, rfl, g, q⟩ := h
  refine s_ret (v := .bl (isLen d m)) ?_ fun H1 e => q H1 e
  have e0 : Ev (tVar 0) (L2.start n_tuple_of [x, .int m]) H x := ev_var rfl
  have e1 := ev_isT e0 g
  cases d with
  | tuple ds =>
    obtain ⟨a, xs, j, rfl, rfl, hs, hl, _⟩ := g.tup
    exact ev_is (ev_andV e1 fun _ => ev_eqI (ev_lenT e0 hs) (ev_var rfl)) (by simp [isT, isLen, hl])
  | bool b => exact ev_is (ev_andV (b := false) e1 fun z => by simp [isT] at z) (by simp [isT, isLen])
  | int b => exact ev_is (ev_andV (b := false) e1 fun z => by simp [isT] at z) (by simp [isT, isLen])
  | none => exact ev_is (ev_andV (b := false) e1 fun z => by simp [isT] at z) (by simp [isT, isLen])
  | str b => exact ev_is (ev_andV (b := false) e1 fun z => by simp [isT] at z) (by simp [isT, isLen])
  | list b => exact ev_is (ev_andV (b := false) e1 fun z => by simp [isT] at z) (by simp [isT, isLen])
  | dict b => exact ev_is (ev_andV (b := false) e1 fun z => by simp [isT] at z) (by simp [isT, isLen])
theorem ok_tuple_of (T : Txt K mg) : FnOk P w K mg base CX0 1 T.f_tuple_of T.fd_tuple_of ["thing", "many"] (sp_tuple_of T) :=
  T.d_tuple_of.F.ok sc_tuple_of (fun vs H Q E h => len_tuple_of T h) fun cdv A outer s H vs Q E hr h => ⟨t_tuple_of T, by
    exact (pss_one (ps_ret (pe_and (pe_callB call_isi (by rfl) T.m_isinstance (by decide +kernel) (pa_cons (pv 0) (pa_cons (pe_bltn (v := .ty "tuple") (by rfl) T.m_tuple (by decide +kernel) rfl) pa_nil))) (pe_one (pe_cmpR op_eq (pe_callB call_len (by rfl) T.m_len (by decide +kernel) (pa_cons (pv 0) pa_nil)) (pv 1) (nomark _)))))), pure_tuple_of T h⟩

end
end My


set_option maxHeartbeats 1000000
namespace My
open PySem PySem.Spec PyProof.Rows L2 Own
open Evl (Ex RetV)
section
variable {P : Program} {w : World} {K : PySem.W.Frag} {mg : Str → Option Value} {base : Heap}

open Evl
def primeD (d : PyData) : Bool := match d with
  | .int p => decide (2 ≤ p) && decide (p ≤ 1000003) && noDiv p
  | _ => false
def sp_is_prime (T : Txt K mg) : Sp := fun vs H Q _ => ∃ k x d, vs = [x] ∧ Gd K H k x d ∧ RetV (.bl (primeD d)) H Q
theorem len_is_prime (T : Txt K mg) {vs H Q E} (h : sp_is_prime T vs H Q E) : vs.length = 1 := by obtain ⟨_, _, _, rfl, _⟩ := h; rfl
theorem v_is_prime (T : Txt K mg) {H : Hp} {k : Nat} {x : V} {d : PyData} (g : Gd K H k x d) : SpV (sp_is_prime T) [x] H (.bl (primeD d)) := spv fun H1 e Q q E => ⟨k, x, d, rfl, g.ex e, q⟩
def t_is_prime (T : Txt K mg) : TS := (tSeq (tIfS (tNot (tB (tCall (sp_number_within T) [] E0 (tCons (tVar 0) (tCons (tC (.int 2)) (tCons (tC (.int 1000003)) tNil)))))) (tRet (tC (.bl false))) tNext) (tSeq (tIfS (tTest (tOp rLtI (tVar 0) (tC (.int 4)))) (tRet (tC (.bl true))) tNext) (tSeq (tIfS (tTest (tOp rEq (tOp rModI (tVar 0) (tC (.int 2))) (tC (.int 0)))) (tRet (tC (.bl false))) tNext) (tSeq (tAsg (tC (.int 3)) (gName 1)) (tSeq (tWhile (tTest (tOp rLeI (tOp rMulI (tVar 1) (tVar 1)) (tVar 0))) (tSeq (tIfS (tTest (tOp rEq (tOp rModI (tVar 0) (tVar 1)) (tC (.int 0)))) (tRet (tC (.bl false))) tNext) (tAug 1 (tC (.int 2)) (ipI fun i j => i + j)))) (tRet (tC (.bl true))))))))

theorem within_int {d : PyData} {lo hi : Int} (h : within d lo hi = true) : ∃ i, d = .int i ∧ lo ≤ i ∧ i ≤ hi := by
  cases d <;> simp [within] at h
  exact ⟨_, rfl, h.1, h.2⟩
theorem pure_is_prime (T : Txt K mg) {vs H Q} {E : XK} (h : sp_is_prime T vs H Q E) : t_is_prime T { nx := fun _ H' => Q .non H', rt := Q } (L2.start n_is_prime vs) H := by
  obtain ⟨k, x, d, rfl, g, q⟩ := h
  -- if not number_within(p, 2, GREATEST_PRIME)
  refine q_when (et_not (et_B (ev_call (ea_3 (ev_var rfl) ev_c ev_c) (v_number_within T g)))) (fun c H1 e1 => ?_) (fun c H1 e1 => ?_)
  · refine s_ret ev_c fun H2 e2 => ?_
    have z : primeD d = false := by
      have c' : within d 2 1000003 = false := by simpa using c
      cases d <;> simp [primeD, within] at c' ⊢
      intro h1 h2
      exact absurd h2 (by have := c' h1; omega)
    rw [← z]
    exact q H2 (e1.trans e2)
  · obtain ⟨p, rfl, h2, h3⟩ := within_int (by simpa using c : within d 2 1000003 = true)
    have g1 := g.ex e1
    cases g.dp
    have P : primeD (.int p) = noDiv p := by simp [primeD, h2, h3]
    rw [P] at q
    have q1 := fun H2 (e : Ex H1 H2) => q H2 (e1.trans e)
    -- if p < 4
    refine q_when (ev_ltI (ev_var rfl) ev_c) (fun c H2 e2 => ?_) (fun c H2 e2 => ?_)
    · refine s_ret ev_c fun H3 e3 => ?_
      rw [← noDiv_small h2 (of_decide_eq_true c)]
      exact q1 H3 (e2.trans e3)
    · have h4 : 4 ≤ p := by have := of_decide_eq_false c; omega
      -- if p % 2 == 0
      refine q_when (et_eqI (ev_modI (ev_var rfl) ev_c (by decide)) ev_c) (fun c H3 e3 => ?_) (fun c H3 e3 => ?_)
      · refine s_ret ev_c fun H4 e4 => ?_
        rw [← noDiv_even h4 h3 (of_decide_eq_true c)]
        exact q1 H4 ((e2.trans e3).trans e4)
      · have odd : p % 2 ≠ 0 := of_decide_eq_false c
        -- divisor = 3
        refine q_asg ev_c fun H4 e4 => ?_
        have E4 := (e2.trans e3).trans e4
        refine q_while (fun m σ' H' => ∃ v : Int, σ' = [some (.int p), some (.int v)] ∧ Sought p v ∧ v ≤ 1003 ∧ m = (1100 - v).toNat ∧ Ex H1 H') (1100 - 3 : Int).toNat ⟨3, rfl, Sought.start odd, by omega, rfl, E4⟩ ?_
        rintro m σ' H' ⟨v, rfl, s, hv, rfl, e'⟩
        have s3 := s.2.1
        refine ⟨_, ev_leI (ev_mulI (ev_var rfl) (ev_var rfl) (.inl ⟨by omega, by omega⟩)) (ev_var rfl), fun c H5 e5 => ?_, fun c H5 e5 => ?_⟩
        · have le := of_decide_eq_true c
          have small := s.small h3 le
          refine ⟨fun σ' H' => ∃ v' : Int, v' = v + 2 ∧ σ' = [some (.int p), some (.int v')] ∧ Sought p v' ∧ Ex H1 H', ?_, ?_⟩
          · rintro σ2 H2' ⟨v', rfl, rfl, s', e''⟩
            exact ⟨(1100 - (v + 2)).toNat, by omega, v + 2, rfl, s', by omega, rfl, e''⟩
          · refine q_when (et_eqI (ev_modI (ev_var rfl) (ev_var rfl) (by omega)) ev_c) (fun c H6 e6 => ?_) (fun c H6 e6 => ?_)
            · refine s_ret ev_c fun H7 e7 => ?_
              rw [← noDiv_found h3 (by omega) le (of_decide_eq_true c)]
              exact q1 H7 (((e'.trans e5).trans e6).trans e7)
            · exact ⟨_, rfl, v, 2, rfl, rfl, v + 2, rfl, rfl, s.next odd (of_decide_eq_false c), (e'.trans e5).trans e6⟩
        · refine s_ret ev_c fun H6 e6 => ?_
          rw [← s.done h3 (of_decide_eq_false c)]
          exact q1 H6 ((e'.trans e5).trans e6)
theorem ok_is_prime (T : Txt K mg) : FnOk P w K mg base CX0 2 T.f_is_prime T.fd_is_prime ["p"] (sp_is_prime T) :=
  T.d_is_prime.F.ok sc_is_prime (fun vs H Q E h => len_is_prime T h) fun cdv A outer s H vs Q E hr h => ⟨t_is_prime T, by
    exact (pss_cons (ps_if (pt_not (pt_val (pe_call (ok_number_within T) (hr.mono (by decide)) (by rfl) T.d_number_within.g T.d_number_within.F.kp T.d_number_within.b .nil pass0 (pa_cons (pv 0) (pa_cons pe_int (pa_cons (pe_glob (v := .int 1000003) (by rfl) T.v_GREATEST_PRIME ⟨_, rfl⟩) pa_nil)))))) (pss_one (ps_ret pe_bl)) pss_nil) (pss_cons (ps_if (pt_cmpR op_lt (pv 0) pe_int (nomark _)) (pss_one (ps_ret pe_bl)) pss_nil) (pss_cons (ps_if (pt_cmpR op_eq (pe_op op_mod (pv 0) pe_int) pe_int (nomark _)) (pss_one (ps_ret pe_bl)) pss_nil) (pss_cons (ps_set (i := 1) sc_is_prime.nd rfl (Or.inl rfl) pe_int) (pss_cons (ps_while PassesOwn.never (pt_cmpR op_le (pe_op op_mul (pv 1) (pv 1)) (pv 0) (nomark _)) (pss_cons (ps_if (pt_cmpR op_eq (pe_op op_mod (pv 0) (pv 1)) pe_int (nomark _)) (pss_one (ps_ret pe_bl)) pss_nil) (pss_one (ps_aug (i := 1) sc_is_prime.nd rfl (Or.inl rfl) pe_int ip_add)))) (pss_one (ps_ret pe_bl))))))), pure_is_prime T h⟩

def lawPrime (d : PyData) : Bool := within d 5 1000003 && primeD d
def sp_law_is_prime (T : Txt K mg) : Sp := fun vs H Q _ => ∃ k x d, vs = [x] ∧ Gd K H k x d ∧ RetV (.bl (lawPrime d)) H Q
theorem len_law_is_prime (T : Txt K mg) {vs H Q E} (h : sp_law_is_prime T vs H Q E) : vs.length = 1 := by obtain ⟨_, _, _, rfl, _⟩ := h; rfl
theorem v_law_is_prime (T : Txt K mg) {H : Hp} {k : Nat} {x : V} {d : PyData} (g : Gd K H k x d) : SpV (sp_law_is_prime T) [x] H (.bl (lawPrime d)) := spv fun H1 e Q q E => ⟨k, x, d, rfl, g.ex e, q⟩
def t_law_is_prime (T : Txt K mg) : TS := (tSeq (tIfS (tNot (tB (tCall (sp_law_is_number T) [] E0 (tCons (tVar 0) (tCons (tC (.int 5)) (tCons (tC (.int 1000003)) tNil)))))) (tRet (tC (.bl false))) tNext) (tRet (tOp (rEqD K) (tLc (iRng2 (tCons (tC (.int 2)) (tCons (tC (.int 1001)) tNil))) (gName 1) (tAnd (tTest (tOp rLeI (tOp rMulI (tVar 1) (tVar 1)) (tVar 0))) (tTest (tOp rEq (tOp rModI (tCB rInt1 (tCons (tVar 0) tNil)) (tVar 1)) (tC (.int 0))))) (tVar 1) [1]) (tLst tNil))))

theorem pure_law_is_prime (T : Txt K mg) {vs H Q} {E : XK} (h : sp_law_is_prime T vs H Q E) : t_law_is_prime T { nx := fun _ H' => Q .non H', rt := Q } (L2.start n_law_is_prime vs) H := by
  obtain ⟨k, x, d, rfl, g, q⟩ := h
  refine q_when (et_not (et_B (ev_call (ea_3 (ev_var rfl) ev_c ev_c) (v_law_is_number T g)))) (fun c H1 e1 => ?_) (fun c H1 e1 => ?_)
  · refine s_ret ev_c fun H2 e2 => ?_
    have c' : within d 5 1000003 = false := by simpa using c
    have z : lawPrime d = false := by simp [lawPrime, c']
    rw [← z]
    exact q H2 (e1.trans e2)
  · have c' : within d 5 1000003 = true := by simpa using c
    obtain ⟨p, rfl, h2, h3⟩ := within_int c'
    cases g.dp
    have P : lawPrime (.int p) = noDiv p := by simp [lawPrime, primeD, c', h3, show (2 : Int) ≤ p by omega]
    rw [P] at q
    have f : ∀ i : Nat, (i : Int) < 1001 - 2 → ∀ H1 : Hp, EvT (tAnd (tTest (tOp rLeI (tOp rMulI (tVar 1) (tVar 1)) (tVar 0))) (tTest (tOp rEq (tOp rModI (tCB rInt1 (tCons (tVar 0) tNil)) (tVar 1)) (tC (.int 0)))))
        ((wipe (L2.start n_law_is_prime [.int p]) [1]).set 1 (some (.int (2 + (i : Int))))) H1 (decide ((2 + (i : Int)) * (2 + (i : Int)) ≤ p) && decide (p % (2 + (i : Int)) = 0)) := fun i hi H1 =>
      et_and (ev_leI (ev_mulI (ev_var rfl) (ev_var rfl) (.inl ⟨by omega, by omega⟩)) (ev_var rfl)) fun _ => et_eqI (ev_modI (ev_int1 (ev_var rfl)) (ev_var rfl) (by omega)) ev_c
    refine s_ret (v := .bl (noDiv p)) ?_ fun H2 e2 => q H2 (e1.trans e2)
    obtain ⟨ds, gs⟩ := gdAll_of (K := K) (H := H1) (k := 0) (vs := given (1001 - 2 : Int).toNat (fun i => decide ((2 + (i : Int)) * (2 + (i : Int)) ≤ p) && decide (p % (2 + (i : Int)) = 0)) (fun i => V.int (2 + (i : Int)))) fun y hy => by
      obtain ⟨i, hi, _, rfl⟩ := given_mem hy
      exact ⟨_, gd_int (by omega)⟩
    refine ev_is (ev_eqNil (k := 0) (by decide) (el_lcRg _ (fun i => V.int (2 + (i : Int))) (ea_2 ev_c ev_c) (by decide) (by decide) (fun x => rfl) (fun i H1 _ hi => f i hi H1) (fun i H1 _ hi _ => ev_var rfl)) gs) ?_
    rw [given_empty]
    rfl
theorem ok_law_is_prime (T : Txt K mg) : FnOk P w K mg base CX0 2 T.f_law_is_prime T.fd_law_is_prime ["p"] (sp_law_is_prime T) :=
  T.d_law_is_prime.F.ok sc_law_is_prime (fun vs H Q E h => len_law_is_prime T h) fun cdv A outer s H vs Q E hr h => ⟨t_law_is_prime T, by
    exact (pss_cons (ps_if (pt_not (pt_val (pe_call (ok_law_is_number T) (hr.mono (by decide)) (by rfl) T.d_law_is_number.g T.d_law_is_number.F.kp T.d_law_is_number.b .nil pass0 (pa_cons (pv 0) (pa_cons pe_int (pa_cons pe_int pa_nil)))))) (pss_one (ps_ret pe_bl)) pss_nil) (pss_one (ps_ret (pe_cmpR (op_eqD hr.units) (pe_lc (own := [("d", 1)]) (g := (gName 1)) (tt := (tAnd (tTest (tOp rLeI (tOp rMulI (tVar 1) (tVar 1)) (tVar 0))) (tTest (tOp rEq (tOp rModI (tCB rInt1 (tCons (tVar 0) tNil)) (tVar 1)) (tC (.int 0)))))) (te := (tVar 1)) rfl sc_law_is_prime.nd (pi_range2 (by rfl) T.m_range (pa_cons pe_int (pa_cons pe_int pa_nil))) (blkOk_by (own := [("d", 1)]) (N := n_law_is_prime) (sc := defScope s_law_is_prime) (by decide +kernel)) (fun _ _ _ _ _ => (pg_name (i := 1) sc_law_is_prime.nd rfl (Or.inl rfl))) (fun _ _ _ _ _ => pts_one (PW.pt (pw_and (pt_cmpR op_le (pe_op op_mul (pv 1) (pv 1)) (pv 0) (nomark _)) (pw_and1 (pt_cmpR op_eq (pe_op op_mod (pe_callTy call_int1 (by rfl) T.m_int (by decide +kernel) (pa_cons (pv 0) pa_nil)) (pv 1)) pe_int (nomark _)))))) (fun _ _ _ _ _ => (pv 1))) (pe_lst pa_nil) (nomark _))))), pure_law_is_prime T h⟩

end
end My


set_option maxHeartbeats 1000000
namespace My
open PySem PySem.Spec PyProof.Rows L2 Own
open Evl (Ex RetV)
section
variable {P : Program} {w : World} {K : PySem.W.Frag} {mg : Str → Option Value} {base : Heap}

open Evl
def rowD (d : PyData) (n p : Int) : Bool := match d with
  | .tuple xs => decide ((xs.length : Int) = n) && xs.all fun x => within x 0 (p - 1)
  | _ => false
def tableD (d : PyData) (n p : Int) : Bool := match d with
  | .tuple rows => decide (rows.length ≤ 8) && rows.all fun r => rowD r n p
  | _ => false
def sp_numbers_fit (T : Txt K mg) : Sp := fun vs H Q _ => ∃ k x d n p, vs = [x, .int n, .int p] ∧ Gd K H k x d ∧ RetV (.bl (rowD d n p)) H Q
theorem len_numbers_fit (T : Txt K mg) {vs H Q E} (h : sp_numbers_fit T vs H Q E) : vs.length = 3 := by obtain ⟨_, _, _, _, _, rfl, _⟩ := h; rfl
theorem v_numbers_fit (T : Txt K mg) {H : Hp} {k : Nat} {x : V} {d : PyData} {n p : Int} (g : Gd K H k x d) : SpV (sp_numbers_fit T) [x, .int n, .int p] H (.bl (rowD d n p)) := spv fun H1 e Q q E => ⟨k, x, d, n, p, rfl, g.ex e, q⟩
def t_numbers_fit (T : Txt K mg) : TS := (tRet (tAndV (tCall (sp_tuple_of T) [] E0 (tCons (tVar 0) (tCons (tVar 1) tNil))) (tCB (rAll K) (tCons (tLc (iTup K (tVar 0)) (gName 3) tYes (tCall (sp_number_within T) [] E0 (tCons (tVar 3) (tCons (tC (.int 0)) (tCons (tOp rSubI (tVar 2) (tC (.int 1))) tNil)))) [3]) tNil))))

theorem pure_numbers_fit (T : Txt K mg) {vs H Q} {E : XK} (h : sp_numbers_fit T vs H Q E) : t_numbers_fit T { nx := fun _ H' => Q .non H', rt := Q } (L2.start n_numbers_fit vs) H := by
  obtain ⟨k, x, d, n, p, rfl, g, q⟩ := h
  refine s_ret (v := .bl (rowD d n p)) ?_ fun H1 e => q H1 e
  have e1 : Ev (tCall (sp_tuple_of T) [] E0 (tCons (tVar 0) (tCons (tVar 1) tNil))) (L2.start n_numbers_fit [x, .int n, .int p]) H (.bl (isLen d n)) := ev_call (ea_2 (ev_var rfl) (ev_var rfl)) (v_tuple_of T g)
  cases d with
  | tuple ds =>
    obtain ⟨a, xs, j, rfl, rfl, hs, hl, h20, _, _, hx⟩ := g.tup
    refine ev_is (ev_andV (b := ds.all fun d => within d 0 (p - 1)) e1 fun _ => ?_) (by simp [isLen, rowD])
    rw [← all_id]
    refine ev_allB ?_
    rw [← given_bools ds .none, ← hl]
    refine el_lcTp _ _ (ev_var rfl) hs (by omega) (fun x => rfl) (fun i y H1 e hy => et_yes) fun i y H1 e hy _ => ?_
    obtain ⟨d, hd, gd⟩ := hx i y hy
    rw [getD_at hd]
    exact ev_call (ea_3 (ev_var rfl) ev_c (ev_subI (ev_var rfl) ev_c)) (v_number_within T (gd.ex e))
  | bool b => exact ev_is (ev_andV (b := false) e1 fun z => by simp [isLen] at z) (by simp [isLen, rowD])
  | int b => exact ev_is (ev_andV (b := false) e1 fun z => by simp [isLen] at z) (by simp [isLen, rowD])
  | none => exact ev_is (ev_andV (b := false) e1 fun z => by simp [isLen] at z) (by simp [isLen, rowD])
  | str b => exact ev_is (ev_andV (b := false) e1 fun z => by simp [isLen] at z) (by simp [isLen, rowD])
  | list b => exact ev_is (ev_andV (b := false) e1 fun z => by simp [isLen] at z) (by simp [isLen, rowD])
  | dict b => exact ev_is (ev_andV (b := false) e1 fun z => by simp [isLen] at z) (by simp [isLen, rowD])
theorem ok_numbers_fit (T : Txt K mg) : FnOk P w K mg base CX0 2 T.f_numbers_fit T.fd_numbers_fit ["thing", "many", "p"] (sp_numbers_fit T) :=
  T.d_numbers_fit.F.ok sc_numbers_fit (fun vs H Q E h => len_numbers_fit T h) fun cdv A outer s H vs Q E hr h => ⟨t_numbers_fit T, by
    exact (pss_one (ps_ret (pe_and (pe_call (ok_tuple_of T) (hr.mono (by decide)) (by rfl) T.d_tuple_of.g T.d_tuple_of.F.kp T.d_tuple_of.b .nil pass0 (pa_cons (pv 0) (pa_cons (pv 1) pa_nil))) (pe_one (pe_callB (cr_all rfl) (by rfl) T.m_all (by decide +kernel) (pa_cons (pe_lc (own := [("number", 3)]) (g := (gName 3)) (tt := tYes) (te := (tCall (sp_number_within T) [] E0 (tCons (tVar 3) (tCons (tC (.int 0)) (tCons (tOp rSubI (tVar 2) (tC (.int 1))) tNil))))) rfl sc_numbers_fit.nd (pi_tup (pv 0)) (blkOk_by (own := [("number", 3)]) (N := n_numbers_fit) (sc := defScope s_numbers_fit) (by decide +kernel)) (fun _ _ _ _ _ => (pg_name (i := 3) sc_numbers_fit.nd rfl (Or.inl rfl))) (fun _ _ _ _ _ => pts_nil) (fun _ _ _ _ _ => (pe_call (ok_number_within T) (hr.mono (by decide)) (by rfl) T.d_number_within.g T.d_number_within.F.kp T.d_number_within.b .nil pass0 (pa_cons (pv 3) (pa_cons pe_int (pa_cons (pe_op op_sub (pv 2) pe_int) pa_nil)))))) pa_nil)))))), pure_numbers_fit T h⟩

def sp_table_fits (T : Txt K mg) : Sp := fun vs H Q _ => ∃ k x d n p, vs = [x, .int n, .int p] ∧ Gd K H k x d ∧ RetV (.bl (tableD d n p)) H Q
theorem len_table_fits (T : Txt K mg) {vs H Q E} (h : sp_table_fits T vs H Q E) : vs.length = 3 := by obtain ⟨_, _, _, _, _, rfl, _⟩ := h; rfl
theorem v_table_fits (T : Txt K mg) {H : Hp} {k : Nat} {x : V} {d : PyData} {n p : Int} (g : Gd K H k x d) : SpV (sp_table_fits T) [x, .int n, .int p] H (.bl (tableD d n p)) := spv fun H1 e Q q E => ⟨k, x, d, n, p, rfl, g.ex e, q⟩
/-- isinstance(x, tuple) and no more than 8 -/
theorem table_first {d : PyData} {n p : Int} (h : isT d = false) : tableD d n p = false := by cases d <;> simp [isT, tableD] at h ⊢
theorem row_first {d : PyData} {n p : Int} (h : isT d = false) : rowD d n p = false := by cases d <;> simp [isT, rowD] at h ⊢
theorem isT_tuple {d : PyData} (h : isT d = true) : ∃ ds, d = .tuple ds := by cases d <;> simp [isT] at h; exact ⟨_, rfl⟩
def t_table_fits (T : Txt K mg) : TS := (tSeq (tIfS (tOr (tNot (tB (tCB (rIsi K) (tCons (tVar 0) (tCons (tC (.ty "tuple")) tNil))))) (tTest (tOp rGtI (tCB (rLenV K) (tCons (tVar 0) tNil)) (tC (.int 8))))) (tRet (tC (.bl false))) tNext) (tRet (tCB (rAll K) (tCons (tLc (iTup K (tVar 0)) (gName 3) tYes (tCall (sp_numbers_fit T) [] E0 (tCons (tVar 3) (tCons (tVar 1) (tCons (tVar 2) tNil)))) [3]) tNil))))

theorem pure_table_fits (T : Txt K mg) {vs H Q} {E : XK} (h : sp_table_fits T vs H Q E) : t_table_fits T { nx := fun _ H' => Q .non H', rt := Q } (L2.start n_table_fits vs) H := by
  obtain ⟨k, x, d, n, p, rfl, g, q⟩ := h
  have i1 : EvT (tNot (tB (tCB (rIsi K) (tCons (tVar 0) (tCons (tC (.ty "tuple")) tNil))))) (L2.start n_table_fits [x, .int n, .int p]) H (!isT d) := et_not (et_B (ev_isT (ev_var rfl) g))
  cases hT : isT d with
  | false =>
    refine q_when (et_false_or i1 (by rw [hT]; rfl)) (fun c H1 e1 => ?_) (fun c => by cases c)
    refine s_ret ev_c fun H2 e2 => ?_
    rw [← table_first (n := n) (p := p) hT]
    exact q H2 (e1.trans e2)
  | true =>
    obtain ⟨ds, rfl⟩ := isT_tuple hT
    obtain ⟨a, xs, j, rfl, rfl, hs, hl, h20, _, _, hx⟩ := g.tup
    refine q_when (et_or i1 fun _ => ev_gtI (ev_lenT (ev_var rfl) hs) ev_c) (fun c H1 e1 => ?_) (fun c H1 e1 => ?_)
    · refine s_ret ev_c fun H2 e2 => ?_
      have z : tableD (.tuple ds) n p = false := by
        have c' : 8 < (xs.length : Int) := by simpa [isT] using c
        have : ¬ ds.length ≤ 8 := by omega
        simp [tableD, this]
      rw [← z]
      exact q H2 (e1.trans e2)
    · have c' : ds.length ≤ 8 := by
        have c' : (xs.length : Int) ≤ 8 := by simpa [isT] using c
        omega
      have z : tableD (.tuple ds) n p = ds.all fun r => rowD r n p := by simp [tableD, c']
      rw [z] at q
      refine s_ret (v := .bl (ds.all fun r => rowD r n p)) ?_ fun H2 e2 => q H2 (e1.trans e2)
      rw [← all_id]
      refine ev_allB ?_
      rw [← given_bools ds .none, ← hl]
      refine el_lcTp _ _ (ev_var rfl) (ex_t e1 hs) (by omega) (fun x => rfl) (fun i y H1 e hy => et_yes) fun i y H2 e hy _ => ?_
      obtain ⟨d, hd, gd⟩ := hx i y hy
      rw [getD_at hd]
      exact ev_call (ea_3 (ev_var rfl) (ev_var rfl) (ev_var rfl)) (v_numbers_fit T ((gd.ex e1).ex e))
theorem ok_table_fits (T : Txt K mg) : FnOk P w K mg base CX0 3 T.f_table_fits T.fd_table_fits ["table", "n", "p"] (sp_table_fits T) :=
  T.d_table_fits.F.ok sc_table_fits (fun vs H Q E h => len_table_fits T h) fun cdv A outer s H vs Q E hr h => ⟨t_table_fits T, by
    exact (pss_cons (ps_if (PW.pt (pw_or (pt_not (pt_val (pe_callB call_isi (by rfl) T.m_isinstance (by decide +kernel) (pa_cons (pv 0) (pa_cons (pe_bltn (v := .ty "tuple") (by rfl) T.m_tuple (by decide +kernel) rfl) pa_nil))))) (pw_or1 (pt_cmpR op_gt (pe_callB call_len (by rfl) T.m_len (by decide +kernel) (pa_cons (pv 0) pa_nil)) pe_int (nomark _))))) (pss_one (ps_ret pe_bl)) pss_nil) (pss_one (ps_ret (pe_callB (cr_all rfl) (by rfl) T.m_all (by decide +kernel) (pa_cons (pe_lc (own := [("row", 3)]) (g := (gName 3)) (tt := tYes) (te := (tCall (sp_numbers_fit T) [] E0 (tCons (tVar 3) (tCons (tVar 1) (tCons (tVar 2) tNil))))) rfl sc_table_fits.nd (pi_tup (pv 0)) (blkOk_by (own := [("row", 3)]) (N := n_table_fits) (sc := defScope s_table_fits) (by decide +kernel)) (fun _ _ _ _ _ => (pg_name (i := 3) sc_table_fits.nd rfl (Or.inl rfl))) (fun _ _ _ _ _ => pts_nil) (fun _ _ _ _ _ => (pe_call (ok_numbers_fit T) (hr.mono (by decide)) (by rfl) T.d_numbers_fit.g T.d_numbers_fit.F.kp T.d_numbers_fit.b .nil pass0 (pa_cons (pv 3) (pa_cons (pv 1) (pa_cons (pv 2) pa_nil)))))) pa_nil))))), pure_table_fits T h⟩

def sp_law_is_table (T : Txt K mg) : Sp := fun vs H Q _ => ∃ k x d n p, vs = [x, .int n, .int p] ∧ k ≤ 50 ∧ Gd K H k x d ∧ RetV (.bl (tableD d n p)) H Q
theorem len_law_is_table (T : Txt K mg) {vs H Q E} (h : sp_law_is_table T vs H Q E) : vs.length = 3 := by obtain ⟨_, _, _, _, _, rfl, _⟩ := h; rfl
theorem v_law_is_table (T : Txt K mg) {H : Hp} {k : Nat} {x : V} {d : PyData} {n p : Int} (hk : k ≤ 50) (g : Gd K H k x d) : SpV (sp_law_is_table T) [x, .int n, .int p] H (.bl (tableD d n p)) := spv fun H1 e Q q E => ⟨k, x, d, n, p, rfl, hk, g.ex e, q⟩
def t_law_is_table (T : Txt K mg) : TS := (tSeq (tIfS (tOr (tNot (tB (tCB (rIsi K) (tCons (tVar 0) (tCons (tC (.ty "tuple")) tNil))))) (tTest (tOp rGtI (tCB (rLenV K) (tCons (tVar 0) tNil)) (tC (.int 8))))) (tRet (tC (.bl false))) tNext) (tSeq (tFor (iTup K (tVar 0)) (gName 3) (tSeq (tIfS (tOr (tNot (tB (tCB (rIsi K) (tCons (tVar 3) (tCons (tC (.ty "tuple")) tNil))))) (tTest (tOp rNe (tCB (rLenV K) (tCons (tVar 3) tNil)) (tVar 1)))) (tRet (tC (.bl false))) tNext) (tIfS (tTest (tOp (rNeD K) (tLc (iTup K (tVar 3)) (gName 4) (tNot (tB (tCall (sp_law_is_number T) [] E0 (tCons (tVar 4) (tCons (tC (.int 0)) (tCons (tOp rSubI (tVar 2) (tC (.int 1))) tNil)))))) (tVar 4) [4]) (tLst tNil))) (tRet (tC (.bl false))) tNext))) (tRet (tC (.bl true)))))

theorem all_take {α : Type} {ds : List α} {f : α → Bool} {i : Nat} {d : α} (h : ds[i]? = some d) (h1 : (ds.take i).all f = true) (h2 : f d = true) : (ds.take (i + 1)).all f = true := by
  rw [List.take_add_one, h]
  simp [h1, h2]
theorem all_no {α : Type} {ds : List α} {f : α → Bool} {i : Nat} {d : α} (h : ds[i]? = some d) (h2 : f d = false) : ds.all f = false :=
  Bool.eq_false_iff.mpr fun z => by
    have := List.all_eq_true.mp z d (List.mem_of_getElem? h)
    rw [h2] at this
    cases this
theorem pure_law_is_table (T : Txt K mg) {vs H Q} {E : XK} (h : sp_law_is_table T vs H Q E) : t_law_is_table T { nx := fun _ H' => Q .non H', rt := Q } (L2.start n_law_is_table vs) H := by
  obtain ⟨k, x, d, n, p, rfl, hk, g, q⟩ := h
  have i1 : EvT (tNot (tB (tCB (rIsi K) (tCons (tVar 0) (tCons (tC (.ty "tuple")) tNil))))) (L2.start n_law_is_table [x, .int n, .int p]) H (!isT d) := et_not (et_B (ev_isT (ev_var rfl) g))
  cases hT : isT d with
  | false =>
    refine q_when (et_false_or i1 (by rw [hT]; rfl)) (fun c H1 e1 => ?_) (fun c => by cases c)
    refine s_ret ev_c fun H2 e2 => ?_
    rw [← table_first (n := n) (p := p) hT]
    exact q H2 (e1.trans e2)
  | true =>
    obtain ⟨ds, rfl⟩ := isT_tuple hT
    obtain ⟨a, xs, j, rfl, rfl, hs, hl, h20, _, _, hx⟩ := g.tup
    refine q_when (et_or i1 fun _ => ev_gtI (ev_lenT (ev_var rfl) hs) ev_c) (fun c H1 e1 => ?_) (fun c H1 e1 => ?_)
    · refine s_ret ev_c fun H2 e2 => ?_
      have z : tableD (.tuple ds) n p = false := by
        have c' : 8 < (xs.length : Int) := by simpa [isT] using c
        have : ¬ ds.length ≤ 8 := by omega
        simp [tableD, this]
      rw [← z]
      exact q H2 (e1.trans e2)
    · have c' : ds.length ≤ 8 := by
        have c' : (xs.length : Int) ≤ 8 := by simpa [isT] using c
        omega
      have z : tableD (.tuple ds) n p = ds.all fun r => rowD r n p := by simp [tableD, c']
      rw [z] at q
      refine q_forT (ev_var rfl) (ex_t e1 hs) (fun i σ' H' => ∃ u4 u5, σ' = [some (.ref a), some (.int n), some (.int p), u4, u5] ∧ Ex H1 H' ∧ (ds.take i).all (fun r => rowD r n p) = true) (fun H2 e2 => ⟨none, none, rfl, e2, rfl⟩)
        (fun i σ' H' _ ⟨_, _, _, e, _⟩ => ex_t (e1.trans e) hs) ?_ ?_
      · rintro i y σ' H' hy ⟨u4, u5, rfl, e', ok⟩
        obtain ⟨d, hd, gd0⟩ := hx i y hy
        have gd := gd0.ex (e1.trans e')
        have i2 : EvT (tNot (tB (tCB (rIsi K) (tCons (tVar 3) (tCons (tC (.ty "tuple")) tNil))))) [some (.ref a), some (.int n), some (.int p), some y, u5] H' (!isT d) := et_not (et_B (ev_isT (ev_var rfl) gd))
        cases hT2 : isT d with
        | false =>
          refine q_when (et_false_or i2 (by rw [hT2]; rfl)) (fun c H2 e2 => ?_) (fun c => by cases c)
          refine s_ret ev_c fun H3 e3 => ?_
          rw [← all_no (f := fun r => rowD r n p) hd (row_first hT2)]
          exact q H3 (((e1.trans e').trans e2).trans e3)
        | true =>
          obtain ⟨es, rfl⟩ := isT_tuple hT2
          obtain ⟨b, ys, j2, rfl, rfl, hs2, hl2, h202, _, _, hx2⟩ := gd.tup
          refine q_when (et_or i2 fun _ => et_neI (ev_lenT (ev_var rfl) hs2) (ev_var rfl)) (fun c H2 e2 => ?_) (fun c H2 e2 => ?_)
          · refine s_ret ev_c fun H3 e3 => ?_
            have c2 : ¬ (ys.length : Int) = n := by simpa [isT] using c
            have z2 : rowD (.tuple es) n p = false := by
              have : ¬ (es.length : Int) = n := by omega
              simp [rowD, this]
            rw [← all_no (f := fun r => rowD r n p) hd z2]
            exact q H3 (((e1.trans e').trans e2).trans e3)
          · have c2 : (ys.length : Int) = n := by simpa [isT] using c
            have z2 : rowD (.tuple es) n p = es.all fun x => within x 0 (p - 1) := by
              have : (es.length : Int) = n := by omega
              simp [rowD, this]
            have lc : EvL (tLc (iTup K (tVar 3)) (gName 4) (tNot (tB (tCall (sp_law_is_number T) [] E0 (tCons (tVar 4) (tCons (tC (.int 0)) (tCons (tOp rSubI (tVar 2) (tC (.int 1))) tNil)))))) (tVar 4) [4])
                [some (.ref a), some (.int n), some (.int p), some (.ref b), u5] H2 (given ys.length (fun i => !within (es.getD i .none) 0 (p - 1)) (fun i => ys.getD i .non)) := by
              refine el_lcTp _ _ (ev_var rfl) (ex_t e2 hs2) (by omega) (fun x => rfl) (fun i y H3 e3 hy => ?_) fun i y H3 e3 hy _ => ?_
              · obtain ⟨d, hd, gd⟩ := hx2 i y hy
                rw [getD_at hd]
                exact et_not (et_B (ev_call (ea_3 (ev_var rfl) ev_c (ev_subI (ev_var rfl) ev_c)) (v_law_is_number T ((gd.ex e2).ex e3))))
              · rw [List.getD_eq_getElem?_getD, hy]
                exact ev_var rfl
            obtain ⟨bad, gs⟩ := gdAll_of (K := K) (H := H2) (k := j2) (vs := given ys.length (fun i => !within (es.getD i .none) 0 (p - 1)) (fun i => ys.getD i .non)) fun y hy => by
              obtain ⟨i, hi, _, rfl⟩ := given_mem hy
              obtain ⟨d, hd, gd⟩ := hx2 i ys[i] (List.getElem?_eq_getElem hi)
              rw [List.getD_eq_getElem?_getD, List.getElem?_eq_getElem hi]
              exact ⟨d, gd.ex e2⟩
            have em : (given ys.length (fun i => !within (es.getD i .none) 0 (p - 1)) (fun i => ys.getD i V.non)).isEmpty = rowD (.tuple es) n p := by
              rw [given_empty, z2, hl2, ← all_id]
              simp only [Bool.not_not]
              rw [Own.range_getD es .none (fun x => within x 0 (p - 1)), all_id]
            refine s_when (et_test (ev_neNil (by omega) lc gs)) (fun c H3 e3 => ?_) (fun c H3 e3 => ?_)
            · refine s_ret ev_c fun H4 e4 => ?_
              rw [em] at c
              rw [← all_no (f := fun r => rowD r n p) hd (by simpa using c)]
              exact q H4 ((((e1.trans e').trans e2).trans e3).trans e4)
            · rw [em] at c
              exact ⟨_, _, rfl, (e'.trans e2).trans e3, all_take hd ok (by simpa using c)⟩
      · rintro σ' H' ⟨u4, u5, rfl, e', ok⟩
        refine s_ret ev_c fun H2 e2 => ?_
        rw [hl, List.take_length] at ok
        rw [← ok]
        exact q H2 ((e1.trans e').trans e2)
theorem ok_law_is_table (T : Txt K mg) : FnOk P w K mg base CX0 2 T.f_law_is_table T.fd_law_is_table ["thing", "n", "p"] (sp_law_is_table T) :=
  T.d_law_is_table.F.ok sc_law_is_table (fun vs H Q E h => len_law_is_table T h) fun cdv A outer s H vs Q E hr h => ⟨t_law_is_table T, by
    exact (pss_cons (ps_if (PW.pt (pw_or (pt_not (pt_val (pe_callB call_isi (by rfl) T.m_isinstance (by decide +kernel) (pa_cons (pv 0) (pa_cons (pe_bltn (v := .ty "tuple") (by rfl) T.m_tuple (by decide +kernel) rfl) pa_nil))))) (pw_or1 (pt_cmpR op_gt (pe_callB call_len (by rfl) T.m_len (by decide +kernel) (pa_cons (pv 0) pa_nil)) pe_int (nomark _))))) (pss_one (ps_ret pe_bl)) pss_nil) (pss_cons (ps_for PassesOwn.never rfl (pi_tup (pv 0)) (pg_name (i := 3) sc_law_is_table.nd rfl (Or.inl rfl)) (pss_cons (ps_if (PW.pt (pw_or (pt_not (pt_val (pe_callB call_isi (by rfl) T.m_isinstance (by decide +kernel) (pa_cons (pv 3) (pa_cons (pe_bltn (v := .ty "tuple") (by rfl) T.m_tuple (by decide +kernel) rfl) pa_nil))))) (pw_or1 (pt_cmpR op_ne (pe_callB call_len (by rfl) T.m_len (by decide +kernel) (pa_cons (pv 3) pa_nil)) (pv 1) (nomark _))))) (pss_one (ps_ret pe_bl)) pss_nil) (pss_one (ps_if (pt_cmpR (op_neD hr.units) (pe_lc (own := [("number", 4)]) (g := (gName 4)) (tt := (tNot (tB (tCall (sp_law_is_number T) [] E0 (tCons (tVar 4) (tCons (tC (.int 0)) (tCons (tOp rSubI (tVar 2) (tC (.int 1))) tNil))))))) (te := (tVar 4)) rfl sc_law_is_table.nd (pi_tup (pv 3)) (blkOk_by (own := [("number", 4)]) (N := n_law_is_table) (sc := defScope s_law_is_table) (by decide +kernel)) (fun _ _ _ _ _ => (pg_name (i := 4) sc_law_is_table.nd rfl (Or.inl rfl))) (fun _ _ _ _ _ => pts_one (pt_not (pt_val (pe_call (ok_law_is_number T) (hr.mono (by decide)) (by rfl) T.d_law_is_number.g T.d_law_is_number.F.kp T.d_law_is_number.b .nil pass0 (pa_cons (pv 4) (pa_cons pe_int (pa_cons (pe_op op_sub (pv 2) pe_int) pa_nil))))))) (fun _ _ _ _ _ => (pv 4))) (pe_lst pa_nil) (nomark _)) (pss_one (ps_ret pe_bl)) pss_nil)))) (pss_one (ps_ret pe_bl)))), pure_law_is_table T h⟩

end
end My


set_option maxHeartbeats 1000000
namespace My
open PySem PySem.Spec PyProof.Rows L2 Own
open Evl (Ex RetV)
section
variable {P : Program} {w : World} {K : PySem.W.Frag} {mg : Str → Option Value} {base : Heap}

open Evl
def intOf : PyData → Int
  | .int i => i
  | _ => 0
def kOk (k n : PyData) : Bool := within k 1 3 && decide (intOf k ≤ intOf n)
def mOk (m e : PyData) : Bool := within m 0 1 && !(decide (intOf m = 1) && decide (0 < intOf e))
theorem mOk_int {a b : Int} : mOk (.int a) (.int b) = (within (.int a) 0 1 && !(decide (a = 1) && decide (0 < b))) := rfl
def fault7 (p w n k e m t : PyData) : Option Int :=
  if lawPrime p = false then some 0 else if within w 1 16 = false then some 1 else if within n 1 8 = false then some 2 else if kOk k n = false then some 3
  else if within e 0 2 = false then some 4 else if mOk m e = false then some 5 else if tableD t (intOf n) (intOf p) = false then some 6 else none
def fault : PyData → Option Int
  | .tuple [p, w, n, k, e, m, t] => fault7 p w n k e m t
  | _ => some (-1)
theorem fault_no {d : PyData} (h : isLen d 7 = false) : fault d = some (-1) := by
  cases d with
  | tuple ds =>
    match ds, h with
    | [], _ => rfl
    | [_], _ => rfl
    | [_, _], _ => rfl
    | [_, _, _], _ => rfl
    | [_, _, _, _], _ => rfl
    | [_, _, _, _, _], _ => rfl
    | [_, _, _, _, _, _], _ => rfl
    | [_, _, _, _, _, _, _], h => simp [isLen] at h
    | _ :: _ :: _ :: _ :: _ :: _ :: _ :: _ :: _, _ => rfl
  | _ => rfl
theorem seven {d : PyData} (h : isLen d 7 = true) : ∃ p w n k e m t, d = .tuple [p, w, n, k, e, m, t] := by
  cases d with
  | tuple ds =>
    have l : ds.length = 7 := by
      have : (ds.length : Int) = 7 := by simpa [isLen] using h
      omega
    match ds, l with
    | [p, w, n, k, e, m, t], _ => exact ⟨p, w, n, k, e, m, t, rfl⟩
  | _ => simp [isLen] at h
theorem gdAll7 {K : PySem.W.Frag} {H : Hp} {k : Nat} {xs : List V} {p w n l e m t : PyData} (hl : xs.length = 7) (h : ∀ (i : Nat) (x : V), xs[i]? = some x → ∃ d, [p, w, n, l, e, m, t][i]? = some d ∧ Gd K H k x d) :
    ∃ x0 x1 x2 x3 x4 x5 x6, xs = [x0, x1, x2, x3, x4, x5, x6] ∧ Gd K H k x0 p ∧ Gd K H k x1 w ∧ Gd K H k x2 n ∧ Gd K H k x3 l ∧ Gd K H k x4 e ∧ Gd K H k x5 m ∧ Gd K H k x6 t := by
  match xs, hl with
  | [x0, x1, x2, x3, x4, x5, x6], _ =>
    have f : ∀ (i : Nat) (x : V) (d : PyData), [x0, x1, x2, x3, x4, x5, x6][i]? = some x → [p, w, n, l, e, m, t][i]? = some d → Gd K H k x d := fun i x d h1 h2 => by
      obtain ⟨d', h3, g⟩ := h i x h1
      rw [h2] at h3
      injection h3 with h3
      rw [h3]
      exact g
    exact ⟨x0, x1, x2, x3, x4, x5, x6, rfl, f 0 _ _ rfl rfl, f 1 _ _ rfl rfl, f 2 _ _ rfl rfl, f 3 _ _ rfl rfl, f 4 _ _ rfl rfl, f 5 _ _ rfl rfl, f 6 _ _ rfl rfl⟩
theorem lawPrime_int {d : PyData} (h : lawPrime d = true) : ∃ p, d = .int p ∧ 5 ≤ p ∧ p ≤ 1000003 := by
  obtain ⟨h1, _⟩ := Bool.and_eq_true_iff.mp h
  exact within_int h1
/-- the program's two questions of a prime are the law's one -/
theorem prime_five {d : PyData} {i : Int} (h : primeD d = true) (e : d = .int i) : lawPrime d = !decide (i < 5) := by
  subst e
  have h' := h
  simp only [primeD, Bool.and_eq_true, decide_eq_true_eq] at h'
  unfold lawPrime
  rw [h, Bool.and_true]
  by_cases c : i < 5
  · simp [within, c]; omega
  · simp [within, c]; omega
theorem prime_int {d : PyData} (h : primeD d = true) : ∃ i, d = .int i := by cases d <;> simp [primeD] at h; exact ⟨_, rfl⟩
theorem prime_no {d : PyData} (h : primeD d = false) : lawPrime d = false := by simp [lawPrime, h]
theorem kOk_prog {k n : PyData} {i : Int} (e : n = .int i) : within k 1 (if i < 3 then i else 3) = kOk k n := by
  subst e
  cases k <;> simp [within, kOk, intOf]
  rename_i j
  split <;> rename_i c <;> · by_cases h1 : 1 ≤ j <;> by_cases h2 : j ≤ i <;> by_cases h3 : j ≤ 3 <;> simp [h1, h2, h3] <;> omega
def sp_shape_fault (T : Txt K mg) : Sp := fun vs H Q _ => ∃ k x d, vs = [x] ∧ Gd K H k x d ∧ RetV (optV (fault d)) H Q
theorem len_shape_fault (T : Txt K mg) {vs H Q E} (h : sp_shape_fault T vs H Q E) : vs.length = 1 := by obtain ⟨_, _, _, rfl, _⟩ := h; rfl
theorem v_shape_fault (T : Txt K mg) {H : Hp} {k : Nat} {x : V} {d : PyData} (g : Gd K H k x d) : SpV (sp_shape_fault T) [x] H (optV (fault d)) := spv fun H1 e Q q E => ⟨k, x, d, rfl, g.ex e, q⟩
theorem ev_neg1 {σ : L2.St} {H : Hp} : Ev (tUn rNegI (tC (.int 1))) σ H (.int (-1)) := fun H1 e Q q => ⟨1, rfl, q H1 (.refl _)⟩
def t_shape_fault (T : Txt K mg) : TS := (tSeq (tIfS (tNot (tB (tCall (sp_tuple_of T) [] E0 (tCons (tVar 0) (tCons (tC (.int 7)) tNil))))) (tRet (tUn rNegI (tC (.int 1)))) tNext) (tSeq (tAsg (tVar 0) (gTup K 7 (gCons (gName 1) (gCons (gName 2) (gCons (gName 3) (gCons (gName 4) (gCons (gName 5) (gCons (gName 6) (gCons (gName 7) gNil))))))))) (tSeq (tIfS (tOr (tNot (tB (tCall (sp_is_prime T) [] E0 (tCons (tVar 1) tNil)))) (tTest (tOp rLtI (tVar 1) (tC (.int 5))))) (tRet (tC (.int 0))) tNext) (tSeq (tIfS (tNot (tB (tCall (sp_number_within T) [] E0 (tCons (tVar 2) (tCons (tC (.int 1)) (tCons (tC (.int 16)) tNil)))))) (tRet (tC (.int 1))) tNext) (tSeq (tIfS (tNot (tB (tCall (sp_number_within T) [] E0 (tCons (tVar 3) (tCons (tC (.int 1)) (tCons (tC (.int 8)) tNil)))))) (tRet (tC (.int 2))) tNext) (tSeq (tIfS (tNot (tB (tCall (sp_number_within T) [] E0 (tCons (tVar 4) (tCons (tC (.int 1)) (tCons (tCB rMin2 (tCons (tC (.int 3)) (tCons (tVar 3) tNil))) tNil)))))) (tRet (tC (.int 3))) tNext) (tSeq (tIfS (tNot (tB (tCall (sp_number_within T) [] E0 (tCons (tVar 5) (tCons (tC (.int 0)) (tCons (tC (.int 2)) tNil)))))) (tRet (tC (.int 4))) tNext) (tSeq (tIfS (tOr (tNot (tB (tCall (sp_number_within T) [] E0 (tCons (tVar 6) (tCons (tC (.int 0)) (tCons (tC (.int 1)) tNil)))))) (tAnd (tTest (tOp rEq (tVar 6) (tC (.int 1)))) (tTest (tOp rGtI (tVar 5) (tC (.int 0)))))) (tRet (tC (.int 5))) tNext) (tSeq (tIfS (tNot (tB (tCall (sp_table_fits T) [] E0 (tCons (tVar 7) (tCons (tVar 3) (tCons (tVar 1) tNil)))))) (tRet (tC (.int 6))) tNext) (tRet (tC .non)))))))))))

theorem pure_shape_fault (T : Txt K mg) {vs H Q} {E : XK} (h : sp_shape_fault T vs H Q E) : t_shape_fault T { nx := fun _ H' => Q .non H', rt := Q } (L2.start n_shape_fault vs) H := by
  obtain ⟨k, x, d, rfl, g, q⟩ := h
  refine q_when (et_not (et_B (ev_call (ea_2 (ev_var rfl) ev_c) (v_tuple_of T g)))) (fun c H1 e1 => ?_) (fun c H1 e1 => ?_)
  · refine s_ret ev_neg1 fun H2 e2 => ?_
    have z := fault_no (show isLen d 7 = false by simpa using c)
    rw [z] at q
    exact q H2 (e1.trans e2)
  · obtain ⟨p, w', n, l, e, m, t, rfl⟩ := seven (show isLen d 7 = true by simpa using c)
    obtain ⟨a, xs, j, rfl, rfl, hs, hl, _, _, _, hx⟩ := (g.ex e1).tup
    obtain ⟨x0, x1, x2, x3, x4, x5, x6, rfl, g0, g1, g2, g3, g4, g5, g6⟩ := gdAll7 hl hx
    have q1 : RetV (optV (fault7 p w' n l e m t)) H1 Q := fun H2 e2 => q H2 (e1.trans e2)
    refine ⟨.ref a, rfl, a, _, rfl, hs, rfl, x0, _, rfl, x1, _, rfl, x2, _, rfl, x3, _, rfl, x4, _, rfl, x5, _, rfl, x6, _, rfl, rfl, ?_⟩
    -- if not is_prime(p) or p < 5
    have i1 : EvT (tOr (tNot (tB (tCall (sp_is_prime T) [] E0 (tCons (tVar 1) tNil)))) (tTest (tOp rLtI (tVar 1) (tC (.int 5))))) [some (.ref a), some x0, some x1, some x2, some x3, some x4, some x5, some x6] H1 (!lawPrime p) := by
      have i0 : EvT (tNot (tB (tCall (sp_is_prime T) [] E0 (tCons (tVar 1) tNil)))) [some (.ref a), some x0, some x1, some x2, some x3, some x4, some x5, some x6] H1 (!primeD p) := et_not (et_B (ev_call (ea_1 (ev_var rfl)) (v_is_prime T g0)))
      cases hP : primeD p with
      | false => exact et_is (et_false_or i0 (by rw [hP]; rfl)) (by rw [prime_no hP]; rfl)
      | true =>
        obtain ⟨i, rfl⟩ := prime_int hP
        cases g0.dp
        exact et_is (et_or i0 fun _ => ev_ltI (ev_var rfl) ev_c) (by rw [prime_five hP rfl, hP]; simp)
    refine q_when i1 (fun c H2 e2 => ?_) (fun c H2 e2 => ?_)
    · refine s_ret ev_c fun H3 e3 => ?_
      rw [show fault7 p w' n l e m t = some 0 by have c : lawPrime p = false := by simpa using c
                                                 simp [fault7, c]] at q1
      exact q1 H3 (e2.trans e3)
    · have hp : lawPrime p = true := by simpa using c
      obtain ⟨i, rfl, _, _⟩ := lawPrime_int hp
      cases g0.dp
      have q2 : RetV (optV (fault7 (.int i) w' n l e m t)) H2 Q := fun H3 e3 => q1 H3 (e2.trans e3)
      clear q1 q i1
      replace g1 := g1.ex e2; replace g2 := g2.ex e2; replace g3 := g3.ex e2; replace g4 := g4.ex e2; replace g5 := g5.ex e2; replace g6 := g6.ex e2
      -- wide
      refine q_when (et_not (et_B (ev_call (ea_3 (ev_var rfl) ev_c ev_c) (v_number_within T g1)))) (fun c H3 e3 => ?_) (fun c H3 e3 => ?_)
      · refine s_ret ev_c fun H4 e4 => ?_
        rw [show fault7 (.int i) w' n l e m t = some 1 by have c : within w' 1 16 = false := by simpa using c
                                                          simp [fault7, hp, c]] at q2
        exact q2 H4 (e3.trans e4)
      have c1 : within w' 1 16 = true := by simpa using c
      -- n
      refine q_when (et_not (et_B (ev_call (ea_3 (ev_var rfl) ev_c ev_c) (v_number_within T (g2.ex e3))))) (fun c H4 e4 => ?_) (fun c H4 e4 => ?_)
      · refine s_ret ev_c fun H5 e5 => ?_
        rw [show fault7 (.int i) w' n l e m t = some 2 by have c : within n 1 8 = false := by simpa using c
                                                          simp [fault7, hp, c1, c]] at q2
        exact q2 H5 ((e3.trans e4).trans e5)
      have c2 : within n 1 8 = true := by simpa using c
      obtain ⟨ni, rfl, n1, n8⟩ := within_int c2
      cases g2.dp
      have E4 := e3.trans e4
      -- k
      refine q_when (et_not (et_B (ev_call (ea_3 (ev_var rfl) ev_c (ev_min2 ev_c (ev_var rfl))) (v_number_within T (g3.ex E4))))) (fun c H5 e5 => ?_) (fun c H5 e5 => ?_)
      · refine s_ret ev_c fun H6 e6 => ?_
        rw [kOk_prog (n := .int ni) rfl] at c
        rw [show fault7 (.int i) w' (.int ni) l e m t = some 3 by have c : kOk l (.int ni) = false := by simpa using c
                                                                  simp [fault7, hp, c1, c2, c]] at q2
        exact q2 H6 ((E4.trans e5).trans e6)
      rw [kOk_prog (n := .int ni) rfl] at c
      have c3 : kOk l (.int ni) = true := by simpa using c
      have E5 := E4.trans e5
      -- e
      refine q_when (et_not (et_B (ev_call (ea_3 (ev_var rfl) ev_c ev_c) (v_number_within T (g4.ex E5))))) (fun c H6 e6 => ?_) (fun c H6 e6 => ?_)
      · refine s_ret ev_c fun H7 e7 => ?_
        rw [show fault7 (.int i) w' (.int ni) l e m t = some 4 by have c : within e 0 2 = false := by simpa using c
                                                                  simp [fault7, hp, c1, c2, c3, c]] at q2
        exact q2 H7 ((E5.trans e6).trans e7)
      have c4 : within e 0 2 = true := by simpa using c
      obtain ⟨ei, rfl, _, _⟩ := within_int c4
      cases g4.dp
      have E6 := E5.trans e6
      -- manner
      have i5 : EvT (tOr (tNot (tB (tCall (sp_number_within T) [] E0 (tCons (tVar 6) (tCons (tC (.int 0)) (tCons (tC (.int 1)) tNil)))))) (tAnd (tTest (tOp rEq (tVar 6) (tC (.int 1)))) (tTest (tOp rGtI (tVar 5) (tC (.int 0))))))
          [some (.ref a), some (.int i), some x1, some (.int ni), some x3, some (.int ei), some x5, some x6] H6 (!mOk m (.int ei)) := by
        have i0 := et_not (et_B (ev_call (E := E0) (ea_3 (ev_var (σ := [some (.ref a), some (.int i), some x1, some (.int ni), some x3, some (.int ei), some x5, some x6]) (i := 6) rfl) (ev_c (v := .int 0)) (ev_c (v := .int 1))) (v_number_within T (g5.ex E6))))
        cases hM : within m 0 1 with
        | false => exact et_is (et_false_or i0 (by rw [hM]; rfl)) (by simp [mOk, hM])
        | true =>
          obtain ⟨mi, rfl, _, _⟩ := within_int hM
          cases g5.dp
          exact et_is (et_or i0 fun _ => et_and (et_eqI (ev_var rfl) ev_c) fun _ => ev_gtI (ev_var rfl) ev_c) (by rw [mOk_int, hM]; simp)
      refine q_when i5 (fun c H7 e7 => ?_) (fun c H7 e7 => ?_)
      · refine s_ret ev_c fun H8 e8 => ?_
        rw [show fault7 (.int i) w' (.int ni) l (.int ei) m t = some 5 by have c : mOk m (.int ei) = false := by simpa using c
                                                                          simp [fault7, hp, c1, c2, c3, c4, c]] at q2
        exact q2 H8 ((E6.trans e7).trans e8)
      · have c5 : mOk m (.int ei) = true := by simpa using c
        have E7 := E6.trans e7
        -- table
        refine q_when (et_not (et_B (ev_call (ea_3 (ev_var rfl) (ev_var rfl) (ev_var rfl)) (v_table_fits T (g6.ex E7))))) (fun c H8 e8 => ?_) (fun c H8 e8 => ?_)
        · refine s_ret ev_c fun H9 e9 => ?_
          rw [show fault7 (.int i) w' (.int ni) l (.int ei) m t = some 6 by
            have c : tableD t ni i = false := by simpa using c
            simp [fault7, hp, c1, c2, c3, c4, c5, intOf, c]] at q2
          exact q2 H9 ((E7.trans e8).trans e9)
        · refine s_ret ev_c fun H9 e9 => ?_
          rw [show fault7 (.int i) w' (.int ni) l (.int ei) m t = none by
            have c : tableD t ni i = true := by simpa using c
            simp [fault7, hp, c1, c2, c3, c4, c5, intOf, c]] at q2
          exact q2 H9 ((E7.trans e8).trans e9)
theorem ok_shape_fault (T : Txt K mg) : FnOk P w K mg base CX0 4 T.f_shape_fault T.fd_shape_fault ["thing"] (sp_shape_fault T) :=
  T.d_shape_fault.F.ok sc_shape_fault (fun vs H Q E h => len_shape_fault T h) fun cdv A outer s H vs Q E hr h => ⟨t_shape_fault T, by
    exact (pss_cons (ps_if (pt_not (pt_val (pe_call (ok_tuple_of T) (hr.mono (by decide)) (by rfl) T.d_tuple_of.g T.d_tuple_of.F.kp T.d_tuple_of.b .nil pass0 (pa_cons (pv 0) (pa_cons pe_int pa_nil))))) (pss_one (ps_ret (pe_un un_neg pe_int))) pss_nil) (pss_cons (ps_asg (pv 0) (pg_tup rfl (pgs_cons (pg_name (i := 1) sc_shape_fault.nd rfl (Or.inl rfl)) (pgs_cons (pg_name (i := 2) sc_shape_fault.nd rfl (Or.inl rfl)) (pgs_cons (pg_name (i := 3) sc_shape_fault.nd rfl (Or.inl rfl)) (pgs_cons (pg_name (i := 4) sc_shape_fault.nd rfl (Or.inl rfl)) (pgs_cons (pg_name (i := 5) sc_shape_fault.nd rfl (Or.inl rfl)) (pgs_cons (pg_name (i := 6) sc_shape_fault.nd rfl (Or.inl rfl)) (pgs_cons (pg_name (i := 7) sc_shape_fault.nd rfl (Or.inl rfl)) pgs_nil))))))))) (pss_cons (ps_if (PW.pt (pw_or (pt_not (pt_val (pe_call (ok_is_prime T) (hr.mono (by decide)) (by rfl) T.d_is_prime.g T.d_is_prime.F.kp T.d_is_prime.b .nil pass0 (pa_cons (pv 1) pa_nil)))) (pw_or1 (pt_cmpR op_lt (pv 1) pe_int (nomark _))))) (pss_one (ps_ret pe_int)) pss_nil) (pss_cons (ps_if (pt_not (pt_val (pe_call (ok_number_within T) (hr.mono (by decide)) (by rfl) T.d_number_within.g T.d_number_within.F.kp T.d_number_within.b .nil pass0 (pa_cons (pv 2) (pa_cons pe_int (pa_cons pe_int pa_nil)))))) (pss_one (ps_ret pe_int)) pss_nil) (pss_cons (ps_if (pt_not (pt_val (pe_call (ok_number_within T) (hr.mono (by decide)) (by rfl) T.d_number_within.g T.d_number_within.F.kp T.d_number_within.b .nil pass0 (pa_cons (pv 3) (pa_cons pe_int (pa_cons pe_int pa_nil)))))) (pss_one (ps_ret pe_int)) pss_nil) (pss_cons (ps_if (pt_not (pt_val (pe_call (ok_number_within T) (hr.mono (by decide)) (by rfl) T.d_number_within.g T.d_number_within.F.kp T.d_number_within.b .nil pass0 (pa_cons (pv 4) (pa_cons pe_int (pa_cons (pe_callB (call_min2 rfl) (by rfl) T.m_min (by decide +kernel) (pa_cons pe_int (pa_cons (pv 3) pa_nil))) pa_nil)))))) (pss_one (ps_ret pe_int)) pss_nil) (pss_cons (ps_if (pt_not (pt_val (pe_call (ok_number_within T) (hr.mono (by decide)) (by rfl) T.d_number_within.g T.d_number_within.F.kp T.d_number_within.b .nil pass0 (pa_cons (pv 5) (pa_cons pe_int (pa_cons pe_int pa_nil)))))) (pss_one (ps_ret pe_int)) pss_nil) (pss_cons (ps_if (PW.pt (pw_or (pt_not (pt_val (pe_call (ok_number_within T) (hr.mono (by decide)) (by rfl) T.d_number_within.g T.d_number_within.F.kp T.d_number_within.b .nil pass0 (pa_cons (pv 6) (pa_cons pe_int (pa_cons pe_int pa_nil)))))) (pw_or1 (PW.pt (pw_and (pt_cmpR op_eq (pv 6) pe_int (nomark _)) (pw_and1 (pt_cmpR op_gt (pv 5) pe_int (nomark _)))))))) (pss_one (ps_ret pe_int)) pss_nil) (pss_cons (ps_if (pt_not (pt_val (pe_call (ok_table_fits T) (hr.mono (by decide)) (by rfl) T.d_table_fits.g T.d_table_fits.F.kp T.d_table_fits.b .nil pass0 (pa_cons (pv 7) (pa_cons (pv 3) (pa_cons (pv 1) pa_nil)))))) (pss_one (ps_ret pe_int)) pss_nil) (pss_one (ps_ret pe_non))))))))))), pure_shape_fault T h⟩

end
end My


set_option maxHeartbeats 1000000
namespace My
open PySem PySem.Spec PyProof.Rows L2 Own
open Evl (Ex RetV)
section
variable {P : Program} {w : World} {K : PySem.W.Frag} {mg : Str → Option Value} {base : Heap}

open Evl
theorem kOk_law {k n : PyData} {i j : Int} (e : n = .int i) (h : k = .int j) : (!within k 1 3 || decide (i < j)) = !kOk k n := by
  subst e h
  rw [show kOk (.int j) (.int i) = (within (.int j) 1 3 && decide (j ≤ i)) from rfl, Bool.not_and]
  by_cases c : i < j
  · simp [c, show ¬ j ≤ i by omega]
  · simp [c, show j ≤ i by omega]
def sp_law_fault (T : Txt K mg) : Sp := fun vs H Q _ => ∃ k x d, vs = [x] ∧ k ≤ 50 ∧ Gd K H k x d ∧ RetV (optV (fault d)) H Q
theorem len_law_fault (T : Txt K mg) {vs H Q E} (h : sp_law_fault T vs H Q E) : vs.length = 1 := by obtain ⟨_, _, _, rfl, _⟩ := h; rfl
theorem v_law_fault (T : Txt K mg) {H : Hp} {k : Nat} {x : V} {d : PyData} (hk : k ≤ 50) (g : Gd K H k x d) : SpV (sp_law_fault T) [x] H (optV (fault d)) := spv fun H1 e Q q E => ⟨k, x, d, rfl, hk, g.ex e, q⟩
def t_law_fault (T : Txt K mg) : TS := (tSeq (tIfS (tOr (tNot (tB (tCB (rIsi K) (tCons (tVar 0) (tCons (tC (.ty "tuple")) tNil))))) (tTest (tOp rNe (tCB (rLenV K) (tCons (tVar 0) tNil)) (tC (.int 7))))) (tRet (tUn rNegI (tC (.int 1)))) tNext) (tSeq (tAsg (tVar 0) (gTup K 7 (gCons (gName 1) (gCons (gName 2) (gCons (gName 3) (gCons (gName 4) (gCons (gName 5) (gCons (gName 6) (gCons (gName 7) gNil))))))))) (tSeq (tIfS (tNot (tB (tCall (sp_law_is_prime T) [] E0 (tCons (tVar 1) tNil)))) (tRet (tC (.int 0))) tNext) (tSeq (tIfS (tNot (tB (tCall (sp_law_is_number T) [] E0 (tCons (tVar 2) (tCons (tC (.int 1)) (tCons (tC (.int 16)) tNil)))))) (tRet (tC (.int 1))) tNext) (tSeq (tIfS (tNot (tB (tCall (sp_law_is_number T) [] E0 (tCons (tVar 3) (tCons (tC (.int 1)) (tCons (tC (.int 8)) tNil)))))) (tRet (tC (.int 2))) tNext) (tSeq (tIfS (tOr (tNot (tB (tCall (sp_law_is_number T) [] E0 (tCons (tVar 4) (tCons (tC (.int 1)) (tCons (tC (.int 3)) tNil)))))) (tTest (tOp rGtI (tVar 4) (tVar 3)))) (tRet (tC (.int 3))) tNext) (tSeq (tIfS (tNot (tB (tCall (sp_law_is_number T) [] E0 (tCons (tVar 5) (tCons (tC (.int 0)) (tCons (tC (.int 2)) tNil)))))) (tRet (tC (.int 4))) tNext) (tSeq (tIfS (tOr (tNot (tB (tCall (sp_law_is_number T) [] E0 (tCons (tVar 6) (tCons (tC (.int 0)) (tCons (tC (.int 1)) tNil)))))) (tAnd (tTest (tOp rEq (tVar 6) (tC (.int 1)))) (tTest (tOp rGtI (tVar 5) (tC (.int 0)))))) (tRet (tC (.int 5))) tNext) (tRet (tIf (tB (tCall (sp_law_is_table T) [] E0 (tCons (tVar 7) (tCons (tVar 3) (tCons (tVar 1) tNil))))) (tC .non) (tC (.int 6))))))))))))

theorem pure_law_fault (T : Txt K mg) {vs H Q} {E : XK} (h : sp_law_fault T vs H Q E) : t_law_fault T { nx := fun _ H' => Q .non H', rt := Q } (L2.start n_law_fault vs) H := by
  obtain ⟨k, x, d, rfl, hk, g, q⟩ := h
  have f0 : EvT (tOr (tNot (tB (tCB (rIsi K) (tCons (tVar 0) (tCons (tC (.ty "tuple")) tNil))))) (tTest (tOp rNe (tCB (rLenV K) (tCons (tVar 0) tNil)) (tC (.int 7))))) (L2.start n_law_fault [x]) H (!isLen d 7) := by
    have i1 : EvT (tNot (tB (tCB (rIsi K) (tCons (tVar 0) (tCons (tC (.ty "tuple")) tNil))))) (L2.start n_law_fault [x]) H (!isT d) := et_not (et_B (ev_isT (ev_var rfl) g))
    cases hT : isT d with
    | false => exact et_is (et_false_or i1 (by rw [hT]; rfl)) (by cases d <;> simp [isT, isLen] at hT ⊢)
    | true =>
      obtain ⟨ds, rfl⟩ := isT_tuple hT
      obtain ⟨a, xs, j, rfl, rfl, hs, hl, _⟩ := g.tup
      exact et_is (et_or i1 fun _ => et_neI (ev_lenT (ev_var rfl) hs) ev_c) (by simp [isT, isLen, hl])
  refine q_when f0 (fun c H1 e1 => ?_) (fun c H1 e1 => ?_)
  · refine s_ret ev_neg1 fun H2 e2 => ?_
    have z := fault_no (show isLen d 7 = false by simpa using c)
    rw [z] at q
    exact q H2 (e1.trans e2)
  · obtain ⟨p, w', n, l, e, m, t, rfl⟩ := seven (show isLen d 7 = true by simpa using c)
    obtain ⟨a, xs, j, rfl, rfl, hs, hl, _, _, _, hx⟩ := (g.ex e1).tup
    obtain ⟨x0, x1, x2, x3, x4, x5, x6, rfl, g0, g1, g2, g3, g4, g5, g6⟩ := gdAll7 hl hx
    have q1 : RetV (optV (fault7 p w' n l e m t)) H1 Q := fun H2 e2 => q H2 (e1.trans e2)
    refine ⟨.ref a, rfl, a, _, rfl, hs, rfl, x0, _, rfl, x1, _, rfl, x2, _, rfl, x3, _, rfl, x4, _, rfl, x5, _, rfl, x6, _, rfl, rfl, ?_⟩
    refine q_when (et_not (et_B (ev_call (ea_1 (ev_var rfl)) (v_law_is_prime T g0)))) (fun c H2 e2 => ?_) (fun c H2 e2 => ?_)
    · refine s_ret ev_c fun H3 e3 => ?_
      rw [show fault7 p w' n l e m t = some 0 by have c : lawPrime p = false := by simpa using c
                                                 simp [fault7, c]] at q1
      exact q1 H3 (e2.trans e3)
    · have hp : lawPrime p = true := by simpa using c
      obtain ⟨i, rfl, _, _⟩ := lawPrime_int hp
      cases g0.dp
      have q2 : RetV (optV (fault7 (.int i) w' n l e m t)) H2 Q := fun H3 e3 => q1 H3 (e2.trans e3)
      clear q1 q f0
      replace g1 := g1.ex e2; replace g2 := g2.ex e2; replace g3 := g3.ex e2; replace g4 := g4.ex e2; replace g5 := g5.ex e2; replace g6 := g6.ex e2
      -- wide
      refine q_when (et_not (et_B (ev_call (ea_3 (ev_var rfl) ev_c ev_c) (v_law_is_number T g1)))) (fun c H3 e3 => ?_) (fun c H3 e3 => ?_)
      · refine s_ret ev_c fun H4 e4 => ?_
        rw [show fault7 (.int i) w' n l e m t = some 1 by have c : within w' 1 16 = false := by simpa using c
                                                          simp [fault7, hp, c]] at q2
        exact q2 H4 (e3.trans e4)
      have c1 : within w' 1 16 = true := by simpa using c
      -- n
      refine q_when (et_not (et_B (ev_call (ea_3 (ev_var rfl) ev_c ev_c) (v_law_is_number T (g2.ex e3))))) (fun c H4 e4 => ?_) (fun c H4 e4 => ?_)
      · refine s_ret ev_c fun H5 e5 => ?_
        rw [show fault7 (.int i) w' n l e m t = some 2 by have c : within n 1 8 = false := by simpa using c
                                                          simp [fault7, hp, c1, c]] at q2
        exact q2 H5 ((e3.trans e4).trans e5)
      have c2 : within n 1 8 = true := by simpa using c
      obtain ⟨ni, rfl, n1, n8⟩ := within_int c2
      cases g2.dp
      have E4 := e3.trans e4
      -- k
      have i3 : EvT (tOr (tNot (tB (tCall (sp_law_is_number T) [] E0 (tCons (tVar 4) (tCons (tC (.int 1)) (tCons (tC (.int 3)) tNil)))))) (tTest (tOp rGtI (tVar 4) (tVar 3))))
          [some (.ref a), some (.int i), some x1, some (.int ni), some x3, some x4, some x5, some x6] H4 (!kOk l (.int ni)) := by
        have i0 := et_not (et_B (ev_call (E := E0) (ea_3 (ev_var (σ := [some (.ref a), some (.int i), some x1, some (.int ni), some x3, some x4, some x5, some x6]) (i := 4) rfl) (ev_c (v := .int 1)) (ev_c (v := .int 3))) (v_law_is_number T (g3.ex E4))))
        cases hL : within l 1 3 with
        | false => exact et_is (et_false_or i0 (by rw [hL]; rfl)) (by simp [kOk, hL])
        | true =>
          obtain ⟨li, rfl, _, _⟩ := within_int hL
          cases g3.dp
          exact et_is (et_or i0 fun _ => ev_gtI (ev_var rfl) (ev_var rfl)) (kOk_law rfl rfl)
      refine q_when i3 (fun c H5 e5 => ?_) (fun c H5 e5 => ?_)
      · refine s_ret ev_c fun H6 e6 => ?_
        rw [show fault7 (.int i) w' (.int ni) l e m t = some 3 by have c : kOk l (.int ni) = false := by simpa using c
                                                                  simp [fault7, hp, c1, c2, c]] at q2
        exact q2 H6 ((E4.trans e5).trans e6)
      have c3 : kOk l (.int ni) = true := by simpa using c
      have E5 := E4.trans e5
      -- e
      refine q_when (et_not (et_B (ev_call (ea_3 (ev_var rfl) ev_c ev_c) (v_law_is_number T (g4.ex E5))))) (fun c H6 e6 => ?_) (fun c H6 e6 => ?_)
      · refine s_ret ev_c fun H7 e7 => ?_
        rw [show fault7 (.int i) w' (.int ni) l e m t = some 4 by have c : within e 0 2 = false := by simpa using c
                                                                  simp [fault7, hp, c1, c2, c3, c]] at q2
        exact q2 H7 ((E5.trans e6).trans e7)
      have c4 : within e 0 2 = true := by simpa using c
      obtain ⟨ei, rfl, _, _⟩ := within_int c4
      cases g4.dp
      have E6 := E5.trans e6
      -- manner
      have i5 : EvT (tOr (tNot (tB (tCall (sp_law_is_number T) [] E0 (tCons (tVar 6) (tCons (tC (.int 0)) (tCons (tC (.int 1)) tNil)))))) (tAnd (tTest (tOp rEq (tVar 6) (tC (.int 1)))) (tTest (tOp rGtI (tVar 5) (tC (.int 0))))))
          [some (.ref a), some (.int i), some x1, some (.int ni), some x3, some (.int ei), some x5, some x6] H6 (!mOk m (.int ei)) := by
        have i0 := et_not (et_B (ev_call (E := E0) (ea_3 (ev_var (σ := [some (.ref a), some (.int i), some x1, some (.int ni), some x3, some (.int ei), some x5, some x6]) (i := 6) rfl) (ev_c (v := .int 0)) (ev_c (v := .int 1))) (v_law_is_number T (g5.ex E6))))
        cases hM : within m 0 1 with
        | false => exact et_is (et_false_or i0 (by rw [hM]; rfl)) (by simp [mOk, hM])
        | true =>
          obtain ⟨mi, rfl, _, _⟩ := within_int hM
          cases g5.dp
          exact et_is (et_or i0 fun _ => et_and (et_eqI (ev_var rfl) ev_c) fun _ => ev_gtI (ev_var rfl) ev_c) (by rw [mOk_int, hM]; simp)
      refine q_when i5 (fun c H7 e7 => ?_) (fun c H7 e7 => ?_)
      · refine s_ret ev_c fun H8 e8 => ?_
        rw [show fault7 (.int i) w' (.int ni) l (.int ei) m t = some 5 by have c : mOk m (.int ei) = false := by simpa using c
                                                                          simp [fault7, hp, c1, c2, c3, c4, c]] at q2
        exact q2 H8 ((E6.trans e7).trans e8)
      · have c5 : mOk m (.int ei) = true := by simpa using c
        have E7 := E6.trans e7
        -- table
        have i6 : EvT (tB (tCall (sp_law_is_table T) [] E0 (tCons (tVar 7) (tCons (tVar 3) (tCons (tVar 1) tNil))))) [some (.ref a), some (.int i), some x1, some (.int ni), some x3, some (.int ei), some x5, some x6] H7 (tableD t ni i) :=
          et_B (ev_call (ea_3 (ev_var rfl) (ev_var rfl) (ev_var rfl)) (v_law_is_table T (by omega) (g6.ex E7)))
        refine s_ret (ev_if i6 (v := optV (fault7 (.int i) w' (.int ni) l (.int ei) m t)) (fun c => ?_) (fun c => ?_)) fun H8 e8 => q2 H8 (E7.trans e8)
        · rw [show fault7 (.int i) w' (.int ni) l (.int ei) m t = none by simp [fault7, hp, c1, c2, c3, c4, c5, intOf, c]]
          exact ev_c
        · rw [show fault7 (.int i) w' (.int ni) l (.int ei) m t = some 6 by simp [fault7, hp, c1, c2, c3, c4, c5, intOf, c]]
          exact ev_c
theorem ok_law_fault (T : Txt K mg) : FnOk P w K mg base CX0 3 T.f_law_fault T.fd_law_fault ["thing"] (sp_law_fault T) :=
  T.d_law_fault.F.ok sc_law_fault (fun vs H Q E h => len_law_fault T h) fun cdv A outer s H vs Q E hr h => ⟨t_law_fault T, by
    exact (pss_cons (ps_if (PW.pt (pw_or (pt_not (pt_val (pe_callB call_isi (by rfl) T.m_isinstance (by decide +kernel) (pa_cons (pv 0) (pa_cons (pe_bltn (v := .ty "tuple") (by rfl) T.m_tuple (by decide +kernel) rfl) pa_nil))))) (pw_or1 (pt_cmpR op_ne (pe_callB call_len (by rfl) T.m_len (by decide +kernel) (pa_cons (pv 0) pa_nil)) pe_int (nomark _))))) (pss_one (ps_ret (pe_un un_neg pe_int))) pss_nil) (pss_cons (ps_asg (pv 0) (pg_tup rfl (pgs_cons (pg_name (i := 1) sc_law_fault.nd rfl (Or.inl rfl)) (pgs_cons (pg_name (i := 2) sc_law_fault.nd rfl (Or.inl rfl)) (pgs_cons (pg_name (i := 3) sc_law_fault.nd rfl (Or.inl rfl)) (pgs_cons (pg_name (i := 4) sc_law_fault.nd rfl (Or.inl rfl)) (pgs_cons (pg_name (i := 5) sc_law_fault.nd rfl (Or.inl rfl)) (pgs_cons (pg_name (i := 6) sc_law_fault.nd rfl (Or.inl rfl)) (pgs_cons (pg_name (i := 7) sc_law_fault.nd rfl (Or.inl rfl)) pgs_nil))))))))) (pss_cons (ps_if (pt_not (pt_val (pe_call (ok_law_is_prime T) (hr.mono (by decide)) (by rfl) T.d_law_is_prime.g T.d_law_is_prime.F.kp T.d_law_is_prime.b .nil pass0 (pa_cons (pv 1) pa_nil)))) (pss_one (ps_ret pe_int)) pss_nil) (pss_cons (ps_if (pt_not (pt_val (pe_call (ok_law_is_number T) (hr.mono (by decide)) (by rfl) T.d_law_is_number.g T.d_law_is_number.F.kp T.d_law_is_number.b .nil pass0 (pa_cons (pv 2) (pa_cons pe_int (pa_cons pe_int pa_nil)))))) (pss_one (ps_ret pe_int)) pss_nil) (pss_cons (ps_if (pt_not (pt_val (pe_call (ok_law_is_number T) (hr.mono (by decide)) (by rfl) T.d_law_is_number.g T.d_law_is_number.F.kp T.d_law_is_number.b .nil pass0 (pa_cons (pv 3) (pa_cons pe_int (pa_cons pe_int pa_nil)))))) (pss_one (ps_ret pe_int)) pss_nil) (pss_cons (ps_if (PW.pt (pw_or (pt_not (pt_val (pe_call (ok_law_is_number T) (hr.mono (by decide)) (by rfl) T.d_law_is_number.g T.d_law_is_number.F.kp T.d_law_is_number.b .nil pass0 (pa_cons (pv 4) (pa_cons pe_int (pa_cons pe_int pa_nil)))))) (pw_or1 (pt_cmpR op_gt (pv 4) (pv 3) (nomark _))))) (pss_one (ps_ret pe_int)) pss_nil) (pss_cons (ps_if (pt_not (pt_val (pe_call (ok_law_is_number T) (hr.mono (by decide)) (by rfl) T.d_law_is_number.g T.d_law_is_number.F.kp T.d_law_is_number.b .nil pass0 (pa_cons (pv 5) (pa_cons pe_int (pa_cons pe_int pa_nil)))))) (pss_one (ps_ret pe_int)) pss_nil) (pss_cons (ps_if (PW.pt (pw_or (pt_not (pt_val (pe_call (ok_law_is_number T) (hr.mono (by decide)) (by rfl) T.d_law_is_number.g T.d_law_is_number.F.kp T.d_law_is_number.b .nil pass0 (pa_cons (pv 6) (pa_cons pe_int (pa_cons pe_int pa_nil)))))) (pw_or1 (PW.pt (pw_and (pt_cmpR op_eq (pv 6) pe_int (nomark _)) (pw_and1 (pt_cmpR op_gt (pv 5) pe_int (nomark _)))))))) (pss_one (ps_ret pe_int)) pss_nil) (pss_one (ps_ret (pe_ifExp (pt_val (pe_call (ok_law_is_table T) (hr.mono (by decide)) (by rfl) T.d_law_is_table.g T.d_law_is_table.F.kp T.d_law_is_table.b .nil pass0 (pa_cons (pv 7) (pa_cons (pv 3) (pa_cons (pv 1) pa_nil))))) pe_non pe_int))))))))))), pure_law_fault T h⟩

def sp_is_shape (T : Txt K mg) : Sp := fun vs H Q _ => ∃ k x d, vs = [x] ∧ Gd K H k x d ∧ RetV (.bl (fault d).isNone) H Q
theorem len_is_shape (T : Txt K mg) {vs H Q E} (h : sp_is_shape T vs H Q E) : vs.length = 1 := by obtain ⟨_, _, _, rfl, _⟩ := h; rfl
theorem v_is_shape (T : Txt K mg) {H : Hp} {k : Nat} {x : V} {d : PyData} (g : Gd K H k x d) : SpV (sp_is_shape T) [x] H (.bl (fault d).isNone) := spv fun H1 e Q q E => ⟨k, x, d, rfl, g.ex e, q⟩
def t_is_shape (T : Txt K mg) : TS := (tRet (tOp rIsN (tCall (sp_shape_fault T) [] E0 (tCons (tVar 0) tNil)) (tC .non)))

theorem pure_is_shape (T : Txt K mg) {vs H Q} {E : XK} (h : sp_is_shape T vs H Q E) : t_is_shape T { nx := fun _ H' => Q .non H', rt := Q } (L2.start n_is_shape vs) H := by
  obtain ⟨k, x, d, rfl, g, q⟩ := h
  refine s_ret (v := .bl (fault d).isNone) ?_ fun H1 e => q H1 e
  exact ev_is (ev_isN (ev_call (ea_1 (ev_var rfl)) (v_shape_fault T g))) (by rw [optV_non])
theorem ok_is_shape (T : Txt K mg) : FnOk P w K mg base CX0 5 T.f_is_shape T.fd_is_shape ["thing"] (sp_is_shape T) :=
  T.d_is_shape.F.ok sc_is_shape (fun vs H Q E h => len_is_shape T h) fun cdv A outer s H vs Q E hr h => ⟨t_is_shape T, by
    exact (pss_one (ps_ret (pe_cmpR op_isN (pe_call (ok_shape_fault T) (hr.mono (by decide)) (by rfl) T.d_shape_fault.g T.d_shape_fault.F.kp T.d_shape_fault.b .nil pass0 (pa_cons (pv 0) pa_nil)) pe_non (nomark _)))), pure_is_shape T h⟩

/-- the errors' __init__ -/
theorem ok_init (T : Txt K mg) : FnOk P w K mg base CX0 1 T.f_init T.fd_init ["self", "what"] (spInit K) :=
  T.d_init.ok sc_init (fun vs H Q E h => by obtain ⟨_, _, _, _, rfl, _⟩ := h; rfl) fun cdv A outer s H vs Q E hr h =>
    ⟨tSeq (tOst K "what" (tVar 0) (tVar 1)) (tOst K "name" (tVar 0) (tNameOf K (tVar 0))), pss_cons (ps_ost (pv 0) (pv 1)) (pss_one (ps_ost (pv 0) (pe_nameOf (pv 0)))), by
    obtain ⟨a, C, v, nm, rfl, o, n, N, ea, q⟩ := h
    refine ⟨v, rfl, .ref a, rfl, a, C, rfl, o, n, .inl ⟨ea, fun dx ndx ne => ?_⟩⟩
    exact ⟨.ref a, rfl, a, C, dx, _, nm, rfl, N, upd_same, by rw [upd_ne ne, upd_same], .ref a, rfl, a, C, rfl, o, N.fn, .inr ⟨dx, _, upd_same, by rw [upd_ne ne, upd_same], by show 1 ≤ 900; decide, q dx ndx ne⟩⟩⟩
def sp_made_shape (T : Txt K mg) : Sp := fun vs H Q E => ∃ k x d, vs = [x] ∧ Gd K H k x d ∧ (fault d = none → ∀ H', Ex H H' → Q x H') ∧
  ∀ f, fault d = some f → ∀ H' dd, Ex H H' → Wh H' dd (.int f) → E (.ref T.c_BadShape) (some dd) H'
theorem len_made_shape (T : Txt K mg) {vs H Q E} (h : sp_made_shape T vs H Q E) : vs.length = 1 := by obtain ⟨_, _, _, rfl, _⟩ := h; rfl
def t_made_shape (T : Txt K mg) (E : XK) : TS := (tSeq (tAsg (tCall (sp_shape_fault T) [] E0 (tCons (tVar 0) tNil)) (gName 1)) (tSeq (tIfS (tTest (tOp rNotN (tVar 1) (tC .non))) (tRaise E (tMkO T.c_BadShape (spInit K) [] (tCons (tVar 1) tNil))) tNext) (tRet (tVar 0))))

/-- an error with its one argument is made -/
theorem made_what {C : Addr} {H1 : Hp} {Q : XK} {v : V} (o : OexC K C) (n : WhC K C)
    (k : ∀ d H2, Ex H1 H2 → Wh H2 d v → Q (.ref C) (some d) H2) :
    ([v] : List V).length ≤ 1000 ∧ ∀ a, H1 a = none → spInit K (.ref a :: ([v] ++ [])) (upd H1 a (exo a C none))
      (fun v H2 => v = .non ∧ ∃ (d : Addr) (fs : List (Str × V)), H2 a = some (exo a C (some d)) ∧ H2 d = some (exd d fs) ∧ H1 d = none ∧ Q (.ref C) (some d) (upd (del H2 a) d (.xd fs))) (fun _ _ _ => False) := by
  obtain ⟨n, nm, N⟩ := n
  refine ⟨by show 1 ≤ 1000; decide, fun a na => ⟨a, C, v, nm, rfl, o, n, N, upd_same, fun dx ndx ne => ⟨rfl, dx, _, by rw [upd_ne (Ne.symm ne), upd_same], upd_same, by rw [upd_ne ne] at ndx; exact ndx, ?_⟩⟩⟩
  rw [upd_ne ne] at ndx
  refine k dx _ (fun b u hb => ?_) ⟨nm, upd_same⟩
  have nb1 : b ≠ dx := ne_of_none hb ndx
  have nb2 : b ≠ a := ne_of_none hb na
  rw [upd_ne nb1, del_ne nb2, upd_ne nb1, upd_ne nb2, upd_ne nb1, upd_ne nb2]
  exact hb
theorem pure_made_shape (T : Txt K mg) {vs H Q} {E : XK} (h : sp_made_shape T vs H Q E) : t_made_shape T E { nx := fun _ H' => Q .non H', rt := Q } (L2.start n_made_shape vs) H := by
  obtain ⟨k, x, d, rfl, g, qv, qe⟩ := h
  refine q_asg (ev_call (ea_1 (ev_var rfl)) (v_shape_fault T g)) fun H1 e1 => ?_
  refine q_when (et_test (ev_notN (ev_var rfl))) (fun c H2 e2 => ?_) (fun c H2 e2 => ?_)
  · rw [optV_non] at c
    cases hf : fault d with
    | none => rw [hf] at c; cases c
    | some f =>
      refine ⟨_, rfl, ?_⟩
      exact made_what T.o_BadShape T.n_BadShape_what fun dd H3 e3 ed => qe f hf H3 dd ((e1.trans e2).trans e3) ed
  · rw [optV_non] at c
    have hf : fault d = none := by
      cases h : fault d with
      | none => rfl
      | some f => rw [h] at c; cases c
    exact s_ret (ev_var rfl) fun H3 e3 => qv hf H3 ((e1.trans e2).trans e3)
theorem ok_made_shape (T : Txt K mg) : FnOk P w K mg base (L2.CX P w) 5 T.f_made_shape T.fd_made_shape ["thing"] (sp_made_shape T) :=
  T.d_made_shape.F.okX sc_made_shape (fun vs H Q E h => len_made_shape T h) fun cdv A outer s H vs Q E hr h => ⟨t_made_shape T E, by
    exact (pss_cons (ps_set (i := 1) sc_made_shape.nd rfl (Or.inl rfl) (pe_call (ok_shape_fault T) (hr.mono (by decide)) (by rfl) T.d_shape_fault.g T.d_shape_fault.F.kp T.d_shape_fault.b .nil pass0 (pa_cons (pv 0) pa_nil))) (pss_cons (ps_if (pt_cmpR op_notN (pv 1) pe_non (nomark _)) (pss_one (ps_raise rfl (takes_of rfl rfl rfl rfl) (pmk_oex T.o_BadShape T.i_BadShape T.ti (ok_init T) (hr.mono (by decide)) T.b_init .nil pass0 (by rfl) T.g_BadShape (pa_cons (pv 1) pa_nil)))) pss_nil) (pss_one (ps_ret (pv 0))))), pure_made_shape T h⟩

end
end My


set_option maxHeartbeats 1000000
namespace My
open PySem PySem.Spec PyProof.Rows L2 Own
open Evl (Ex RetV)
section
variable {P : Program} {w : World} {K : PySem.W.Frag} {mg : Str → Option Value} {base : Heap}

open Evl
abbrev sp_law_take (T : Txt K mg) : Sp := spTake
abbrev sp_law_one (T : Txt K mg) : Sp := spOne K
abbrev sp_law_pool (T : Txt K mg) : Sp := spPool K
theorem len_law_take (T : Txt K mg) {vs H Q E} (h : sp_law_take T vs H Q E) : vs.length = 2 := by obtain ⟨_, _, rfl, _⟩ := h; rfl
theorem len_law_one (T : Txt K mg) {vs H Q E} (h : sp_law_one T vs H Q E) : vs.length = 2 := by obtain ⟨_, _, _, rfl, _⟩ := h; rfl
theorem len_law_pool (T : Txt K mg) {vs H Q E} (h : sp_law_pool T vs H Q E) : vs.length = 2 := by obtain ⟨_, _, _, rfl, _⟩ := h; rfl
def t_law_take (T : Txt K mg) : TS := (tSeq (tIfS (tTest (tOp rGtI (tOp (rIxL K) (tVar 0) (tC (.int 0))) (tC (.int 0)))) (tSeq (tAsg (tOp rModI (tCB rInt1 (tCons (tOp (rIxL K) (tVar 0) (tC (.int 0))) tNil)) (tVar 1)) (gName 2)) (tSeq (tAsg (tOp rDivI (tOp (rIxL K) (tVar 0) (tC (.int 0))) (tVar 1)) (gSub (tVar 0) (tC (.int 0)) rSetL)) (tRet (tVar 2)))) tNext) (tSeq (tAsg (tOp rModI (tCB rInt1 (tCons (tOp rAddI (tOp rMulI (tOp (rIxL K) (tVar 0) (tC (.int 1))) (tC (.int 39373))) (tC (.int 7))) tNil)) (tC (.int 2147483647))) (gSub (tVar 0) (tC (.int 1)) rSetL)) (tRet (tOp rModI (tCB rInt1 (tCons (tOp rDivI (tOp rModI (tCB rInt1 (tCons (tOp rMulI (tOp (rIxL K) (tVar 0) (tC (.int 1))) (tOp (rIxL K) (tVar 0) (tC (.int 1)))) tNil)) (tC (.int 2147483629))) (tC (.int 32))) tNil)) (tVar 1)))))

theorem up_set {a : Addr} {H H1 : Hp} {big mixed : Int} (e : Ex H H1) (h1 : 0 ≤ big) (h2 : 0 ≤ mixed) (h3 : mixed < 2147483647) : Up a H (upd H1 a (.lst [.int big, .int mixed])) :=
  ⟨fun b o nb hb => by rw [upd_ne nb]; exact e b o hb, big, mixed, upd_same, h1, h2, h3⟩
theorem pure_law_take (T : Txt K mg) {vs H Q} {E : XK} (h : sp_law_take T vs H Q E) : t_law_take T { nx := fun _ H' => Q .non H', rt := Q } (L2.start n_law_take vs) H := by
  obtain ⟨a, top, rfl, ⟨big, mixed, hs, hb, hm, hm2⟩, h0, h1, q⟩ := h
  have at0 : ∀ H1, Ex H H1 → ∀ (σ : L2.St), σ[0]? = some (some (.ref a)) → Ev (tOp (rIxL K) (tVar 0) (tC (.int 0))) σ H1 (.int big) := fun H1 e σ e0 => ev_ixL (ev_var e0) ev_c (sq_of (e a _ hs)) (atI_nat (j := 0) rfl)
  have at1 : ∀ H1, Ex H H1 → ∀ (σ : L2.St), σ[0]? = some (some (.ref a)) → Ev (tOp (rIxL K) (tVar 0) (tC (.int 1))) σ H1 (.int mixed) := fun H1 e σ e0 => ev_ixL (ev_var e0) ev_c (sq_of (e a _ hs)) (atI_nat (j := 1) rfl)
  refine q_when (ev_gtI (at0 H (Ex.refl H) _ rfl) ev_c) (fun c H1 e1 => ?_) (fun c H1 e1 => ?_)
  · refine q_asg (ev_modI (ev_int1 (at0 H1 e1 _ rfl)) (ev_var rfl) h0) fun H2 e2 => ?_
    have E2 := e1.trans e2
    refine q_setL (j := 0) (E2 a _ hs) (ev_divI (at0 H2 E2 _ rfl) (ev_var rfl) ⟨h0, h1⟩) (ev_var rfl) ev_c (by show 0 < 2; decide) fun H3 e3 => ?_
    refine s_ret (ev_var rfl) fun H4 e4 => ?_
    have m0 := Int.emod_nonneg big (show top ≠ 0 by omega)
    have m1 := Int.emod_lt_of_pos big h0
    have d0 : 0 ≤ big / top := Int.ediv_nonneg hb (by omega)
    have u := up_set (a := a) (E2.trans e3) d0 hm hm2
    exact q _ _ m0 m1 (u.trans (.ex e4 u.src))
  · have b0 : big = 0 := by have := of_decide_eq_false c; omega
    have r0 : 0 ≤ (mixed * 39373 + 7) % 2147483647 := Int.emod_nonneg _ (by decide)
    have r1 : (mixed * 39373 + 7) % 2147483647 < 2147483647 := Int.emod_lt_of_pos _ (by decide)
    refine q_setL (j := 1) (e1 a _ hs) (ev_modI (ev_int1 (ev_addI (ev_mulI (at1 H1 e1 _ rfl) ev_c (.inr ⟨by decide, by decide⟩)) ev_c)) ev_c (by decide)) (ev_var rfl) ev_c (by show 1 < 2; decide) fun H3 e3 => ?_
    have u := up_set (a := a) (e1.trans e3) hb r0 r1
    have a1 : ∀ (σ : L2.St), σ[0]? = some (some (.ref a)) → Ev (tOp (rIxL K) (tVar 0) (tC (.int 1))) σ (upd H3 a (.lst [.int big, .int ((mixed * 39373 + 7) % 2147483647)])) (.int ((mixed * 39373 + 7) % 2147483647)) :=
      fun σ e0 => ev_ixL (ev_var e0) ev_c (sq_of upd_same) (atI_nat (j := 1) rfl)
    refine s_ret (ev_modI (ev_int1 (ev_divI (ev_modI (ev_int1 (ev_mulI (a1 _ rfl) (a1 _ rfl) (.inl ⟨by omega, by omega⟩))) ev_c (by decide)) ev_c ⟨by decide, by decide⟩)) (ev_var rfl) h0) fun H4 e4 => ?_
    exact q _ _ (Int.emod_nonneg _ (by omega)) (Int.emod_lt_of_pos _ h0) (u.trans (.ex e4 u.src))
theorem ok_law_take (T : Txt K mg) : FnOk P w K mg base CX0 1 T.f_law_take T.fd_law_take ["source", "top"] (sp_law_take T) :=
  T.d_law_take.F.ok sc_law_take (fun vs H Q E h => len_law_take T h) fun cdv A outer s H vs Q E hr h => ⟨t_law_take T, by
    exact (pss_cons (ps_if (pt_cmpR op_gt (pe_ix ix_list (pv 0) pe_int (fun _ _ => rfl)) pe_int (nomark _)) (pss_cons (ps_set (i := 2) sc_law_take.nd rfl (Or.inl rfl) (pe_op op_mod (pe_callTy call_int1 (by rfl) T.m_int (by decide +kernel) (pa_cons (pe_ix ix_list (pv 0) pe_int (fun _ _ => rfl)) pa_nil)) (pv 1))) (pss_cons (ps_asg (pe_op op_fdiv (pe_ix ix_list (pv 0) pe_int (fun _ _ => rfl)) (pv 1)) (pg_sub (pv 0) pe_int set_list)) (pss_one (ps_ret (pv 2))))) pss_nil) (pss_cons (ps_asg (pe_op op_mod (pe_callTy call_int1 (by rfl) T.m_int (by decide +kernel) (pa_cons (pe_op op_add (pe_op op_mul (pe_ix ix_list (pv 0) pe_int (fun _ _ => rfl)) pe_int) pe_int) pa_nil)) pe_int) (pg_sub (pv 0) pe_int set_list)) (pss_one (ps_ret (pe_op op_mod (pe_callTy call_int1 (by rfl) T.m_int (by decide +kernel) (pa_cons (pe_op op_fdiv (pe_op op_mod (pe_callTy call_int1 (by rfl) T.m_int (by decide +kernel) (pa_cons (pe_op op_mul (pe_ix ix_list (pv 0) pe_int (fun _ _ => rfl)) (pe_ix ix_list (pv 0) pe_int (fun _ _ => rfl))) pa_nil)) pe_int) pe_int) pa_nil)) (pv 1)))))), pure_law_take T h⟩

def t_law_one (T : Txt K mg) : TS := (tRet (tOp (rIxL K) (tVar 1) (tCall (sp_law_take T) [] E0 (tCons (tVar 0) (tCons (tCB (rLenV K) (tCons (tVar 1) tNil)) tNil)))))

theorem pure_law_one (T : Txt K mg) {vs H Q} {E : XK} (h : sp_law_one T vs H Q E) : t_law_one T { nx := fun _ H' => Q .non H', rt := Q } (L2.start n_law_one vs) H := by
  obtain ⟨a, b, xs, rfl, nb, s, hx, ne, hl, q⟩ := h
  have h0 : 0 < xs.length := List.length_pos_iff.mpr ne
  refine ⟨_, rfl, _, rfl, _, rfl, _, _, rfl, .inl ⟨xs, hx, rfl⟩, ?_⟩
  refine ⟨a, xs.length, rfl, s, by omega, by omega, fun r H' r0 r1 u => ?_⟩
  have hr : r.toNat < xs.length := by omega
  have er : (r.toNat : Int) = r := by omega
  have hx' : SqL K H' b xs := by
    rcases hx with (z | ⟨o, z⟩) | z
    · exact .inl (.inl (u.keep b _ nb z))
    · exact .inl (.inr ⟨o, u.keep b _ nb z⟩)
    · exact .inr z
  refine ⟨b, xs, r, xs[r.toNat], rfl, rfl, hx', ?_, q _ (List.getElem_mem hr) H' u⟩
  exact at_of er.symm (List.getElem?_eq_getElem hr)
theorem ok_law_one (T : Txt K mg) : FnOk P w K mg base CX0 2 T.f_law_one T.fd_law_one ["source", "things"] (sp_law_one T) :=
  T.d_law_one.F.ok sc_law_one (fun vs H Q E h => len_law_one T h) fun cdv A outer s H vs Q E hr h => ⟨t_law_one T, by
    exact (pss_one (ps_ret (pe_ix ix_list (pv 1) (pe_call (ok_law_take T) (hr.mono (by decide)) (by rfl) T.d_law_take.g T.d_law_take.F.kp T.d_law_take.b .nil pass0 (pa_cons (pv 0) (pa_cons (pe_callB call_len (by rfl) T.m_len (by decide +kernel) (pa_cons (pv 1) pa_nil)) pa_nil))) (fun _ _ => rfl)))), pure_law_one T h⟩

def t_law_pool (T : Txt K mg) : TS := (tSeq (tAsg (tC (.int 0)) (gName 2)) (tSeq (tIfS (tTest (tOp rLtI (tVar 1) (tCB (rLenV K) (tCons (tVar 0) tNil)))) (tAsg (tOp (rIxL K) (tVar 0) (tVar 1)) (gName 2)) (tIfS (tTest (tOp (rNeD K) (tVar 0) (tLst tNil))) (tAsg (tOp (rIxL K) (tVar 0) (tC (.int 0))) (gName 2)) tNext)) (tSeq (tAsg (tCB Own.rMax2 (tCons (tCB rInt1 (tCons (tVar 2) tNil)) (tCons (tCB rInt1 (tCons (tOp rSubI (tUn rNegI (tC (.int 1))) (tVar 2)) tNil)) tNil))) (gName 3)) (tSeq (tAsg (tOp rModI (tCB rInt1 (tCons (tOp rMulI (tOp rAddI (tOp rAddI (tOp rAddI (tOp rModI (tCB rInt1 (tCons (tVar 3) tNil)) (tC (.int 2147483629))) (tOp rMulI (tOp rMulI (tC (.int 7919)) (tVar 1)) (tVar 1))) (tOp rMulI (tC (.int 31)) (tVar 1))) (tC (.int 17))) (tC (.int 48271))) tNil)) (tC (.int 2147483647))) (gName 4)) (tRet (tLst (tCons (tOp rMulI (tVar 3) (tCB rInt1 (tCons (tAndV (tOp rGeI (tVar 3) (tOp rPowI (tC (.int 10)) (tC (.int 18)))) (tOp rLtI (tVar 1) (tCB (rLenV K) (tCons (tVar 0) tNil)))) tNil))) (tCons (tVar 4) tNil))))))))

theorem pure_law_pool (T : Txt K mg) {vs H Q} {E : XK} (h : sp_law_pool T vs H Q E) : t_law_pool T { nx := fun _ H' => Q .non H', rt := Q } (L2.start n_law_pool vs) H := by
  obtain ⟨b, ns, k, rfl, hs, hl, k0, k1, q⟩ := h
  have len : ∀ H1, Ex H H1 → ∀ (σ : L2.St), σ[0]? = some (some (.ref b)) → Ev (tCB (rLenV K) (tCons (tVar 0) tNil)) σ H1 (.int (ns.length : Int)) := fun H1 e σ e0 => by
    have := ev_lenL (K := K) (ev_var e0) (ex_l e hs)
    rwa [List.length_map] at this
  refine q_asg ev_c fun H1 e1 => ?_
  refine q_split (fun σ' H' => ∃ c : Int, σ' = [some (.ref b), some (.int k), some (.int c), none, none] ∧ Ex H H') ?_ (fun R => ?_)
  · rintro σ' H2 ⟨c, rfl, e2⟩
    -- big
    refine q_asg (Own.ev_max2 (ev_int1 (ev_var rfl)) (ev_int1 (ev_subI (ev_negI ev_c) (ev_var rfl)))) fun H3 e3 => ?_
    generalize hbig : (if -1 - c > c then -1 - c else c) = big
    have b0 : 0 ≤ big := by rw [← hbig]; split <;> omega
    have m0 : 0 ≤ big % 2147483629 := Int.emod_nonneg _ (by decide)
    have m1 : big % 2147483629 < 2147483629 := Int.emod_lt_of_pos _ (by decide)
    -- mixed
    refine q_asg (ev_modI (ev_int1 (ev_mulI (ev_addI (ev_addI (ev_addI (ev_modI (ev_int1 (ev_var rfl)) ev_c (by decide)) (ev_mulI (ev_mulI ev_c (ev_var rfl) (.inl ⟨by decide, by decide⟩)) (ev_var rfl) (.inr ⟨by omega, by omega⟩)))
      (ev_mulI ev_c (ev_var rfl) (.inl ⟨by decide, by decide⟩))) ev_c) ev_c (.inr ⟨by decide, by decide⟩))) ev_c (by decide)) fun H4 e4 => ?_
    generalize hmix : ((big % 2147483629 + 7919 * k * k + 31 * k + 17) * 48271) % 2147483647 = mixed
    have x0 : 0 ≤ mixed := by rw [← hmix]; exact Int.emod_nonneg _ (by decide)
    have x1 : mixed < 2147483647 := by rw [← hmix]; exact Int.emod_lt_of_pos _ (by decide)
    have E4 := (e2.trans e3).trans e4
    refine s_retL (el_lst (ea_2 (ev_mulI (ev_var rfl) (ev_intB (ev_andV (ev_geV (ev_var rfl) (ev_powI ev_c ev_c ⟨by decide, by decide, by decide⟩)) fun _ => ev_ltV (ev_var rfl) (len H4 E4 _ rfl))) (.inr ?_)) (ev_var rfl)) (by show 2 ≤ 100000; decide)) fun p H5 hp e5 h5 => ?_
    · split <;> exact ⟨by decide, by decide⟩
    · refine q p H5 ?_ (E4.trans e5) ⟨_, mixed, h5, ?_, x0, x1⟩
      · exact fresh_back E4 hp
      · refine Int.mul_nonneg b0 ?_
        split <;> decide
  · refine s_if (ev_ltI (ev_var rfl) (len H1 e1 _ rfl)) ?_ ?_
    · intro c H2 e2
      have c := of_decide_eq_true c
      have hk : k.toNat < ns.length := by omega
      refine s_asg (v := .int ns[k.toNat]) (ev_ixL (ev_var rfl) (ev_var rfl) (ex_l (e1.trans e2) hs) ?_) fun H3 e3 => R _ _ ⟨_, rfl, (e1.trans e2).trans e3⟩
      refine at_of (j := k.toNat) (by omega) ?_
      rw [List.getElem?_map, List.getElem?_eq_getElem hk]
      rfl
    · intro c H2 e2
      refine s_when (et_neInts (ev_var rfl) (ex_l (e1.trans e2) hs)) (fun c H3 e3 => ?_) (fun c H3 e3 => R _ _ ⟨0, rfl, (e1.trans e2).trans e3⟩)
      cases hn : ns with
      | nil => rw [hn] at c; cases c
      | cons n r =>
        refine s_asg (v := .int n) (ev_ixL (ev_var rfl) ev_c (ex_l ((e1.trans e2).trans e3) hs) (atI_nat (j := 0) (by rw [hn]; rfl))) fun H4 e4 => R _ _ ⟨n, rfl, ((e1.trans e2).trans e3).trans e4⟩
theorem ok_law_pool (T : Txt K mg) : FnOk P w K mg base CX0 1 T.f_law_pool T.fd_law_pool ["script", "k"] (sp_law_pool T) :=
  T.d_law_pool.F.ok sc_law_pool (fun vs H Q E h => len_law_pool T h) fun cdv A outer s H vs Q E hr h => ⟨t_law_pool T, by
    exact (pss_cons (ps_set (i := 2) sc_law_pool.nd rfl (Or.inl rfl) pe_int) (pss_cons (ps_if (pt_cmpR op_lt (pv 1) (pe_callB call_len (by rfl) T.m_len (by decide +kernel) (pa_cons (pv 0) pa_nil)) (nomark _)) (pss_one (ps_set (i := 2) sc_law_pool.nd rfl (Or.inl rfl) (pe_ix ix_list (pv 0) (pv 1) (fun _ _ => rfl)))) (pss_one (ps_if (pt_cmpR (op_neD hr.units) (pv 0) (pe_lst pa_nil) (nomark _)) (pss_one (ps_set (i := 2) sc_law_pool.nd rfl (Or.inl rfl) (pe_ix ix_list (pv 0) pe_int (fun _ _ => rfl)))) pss_nil))) (pss_cons (ps_set (i := 3) sc_law_pool.nd rfl (Or.inl rfl) (pe_callB (call_max2 rfl) (by rfl) T.m_max (by decide +kernel) (pa_cons (pe_callTy call_int1 (by rfl) T.m_int (by decide +kernel) (pa_cons (pv 2) pa_nil)) (pa_cons (pe_callTy call_int1 (by rfl) T.m_int (by decide +kernel) (pa_cons (pe_op op_sub (pe_un un_neg pe_int) (pv 2)) pa_nil)) pa_nil)))) (pss_cons (ps_set (i := 4) sc_law_pool.nd rfl (Or.inl rfl) (pe_op op_mod (pe_callTy call_int1 (by rfl) T.m_int (by decide +kernel) (pa_cons (pe_op op_mul (pe_op op_add (pe_op op_add (pe_op op_add (pe_op op_mod (pe_callTy call_int1 (by rfl) T.m_int (by decide +kernel) (pa_cons (pv 3) pa_nil)) pe_int) (pe_op op_mul (pe_op op_mul pe_int (pv 1)) (pv 1))) (pe_op op_mul pe_int (pv 1))) pe_int) pe_int) pa_nil)) pe_int)) (pss_one (ps_ret (pe_lst (pa_cons (pe_op op_mul (pv 3) (pe_callTy call_int1 (by rfl) T.m_int (by decide +kernel) (pa_cons (pe_and (pe_cmpR op_ge (pv 3) (pe_op op_pow pe_int pe_int) (nomark _)) (pe_one (pe_cmpR op_lt (pv 1) (pe_callB call_len (by rfl) T.m_len (by decide +kernel) (pa_cons (pv 0) pa_nil)) (nomark _)))) pa_nil))) (pa_cons (pv 4) pa_nil))))))))), pure_law_pool T h⟩

end
end My


set_option maxHeartbeats 1000000
namespace My
open PySem PySem.Spec PyProof.Rows L2 Own
open Evl (Ex RetV)
section
variable {P : Program} {w : World} {K : PySem.W.Frag} {mg : Str → Option Value} {base : Heap}

open Evl
/-! ### drawn shapes -/
def sp_law_drawn_prime (T : Txt K mg) : Sp := fun vs H Q _ => ∃ a, vs = [.ref a] ∧ Src H a ∧ ∀ v H', Up a H H' → PInt 5 1000003 v H' → Q v H'
theorem len_law_drawn_prime (T : Txt K mg) {vs H Q E} (h : sp_law_drawn_prime T vs H Q E) : vs.length = 1 := by obtain ⟨_, rfl, _⟩ := h; rfl
def t_law_drawn_prime (T : Txt K mg) : TS := (tSeq (tAsg (tLst (tCons (tC (.int 5)) (tCons (tC (.int 7)) (tCons (tC (.int 257)) (tCons (tC (.int 1000003)) (tCons (tC (.int 65521)) (tCons (tOp rAddI (tC (.int 5)) (tCall (sp_law_take T) [] E0 (tCons (tVar 0) (tCons (tC (.int 999998)) tNil)))) (tCons (tOp rAddI (tC (.int 5)) (tCall (sp_law_take T) [] E0 (tCons (tVar 0) (tCons (tC (.int 90)) tNil)))) tNil)))))))) (gName 1)) (tSeq (tAsg (tCall (sp_law_one T) [] E0 (tCons (tVar 0) (tCons (tVar 1) tNil))) (gName 2)) (tSeq (tFor (iRng1 (tCons (tC (.int 200)) tNil)) (gName 3) (tSeq (tIfS (tB (tCall (sp_law_is_prime T) [] E0 (tCons (tVar 2) tNil))) tBreak tNext) (tAsg (tOp rSubI (tVar 2) (tC (.int 1))) (gName 2)))) (tRet (tVar 2)))))

theorem five : lawPrime (.int 5) = true := by
  have : noDiv 5 = true := (noDiv_iff (by decide)).mpr fun e h2 hm => by
    have h3 : e < 3 := by
      refine Int.not_le.mp fun c => ?_
      have : 3 * 3 ≤ e * e := Int.mul_le_mul c c (by omega) (by omega)
      omega
    have : e = 2 := by omega
    subst this
    decide
  simp [lawPrime, primeD, within, this]
theorem pure_law_drawn_prime (T : Txt K mg) {vs H Q} {E : XK} (h : sp_law_drawn_prime T vs H Q E) : t_law_drawn_prime T { nx := fun _ H' => Q .non H', rt := Q } (L2.start n_law_drawn_prime vs) H := by
  obtain ⟨a, rfl, s, q⟩ := h
  have c : ∀ {i : Int} {σ : L2.St}, 5 ≤ i → i ≤ 1000003 → EvS a (tC (.int i)) σ H (PInt 5 1000003) := fun h1 h2 => es_int h1 h2
  refine ss_asg s (es_lst (ea_consS (c (by decide) (by decide)) (ea_consS (c (by decide) (by decide)) (ea_consS (c (by decide) (by decide)) (ea_consS (c (by decide) (by decide)) (ea_consS (c (by decide) (by decide))
    (ea_consS (es_wide (es_add (es_int (lo := 5) (hi := 5) (by decide) (by decide)) (es_take (lo := 999998) (hi := 999998) rfl (es_int (by decide) (by decide)) (by decide) (by decide))) (by decide) (by decide))
    (ea_consS (es_wide (es_add (es_int (lo := 5) (hi := 5) (by decide) (by decide)) (es_take (lo := 90) (hi := 90) rfl (es_int (by decide) (by decide)) (by decide) (by decide))) (by decide) (by decide)) ea_nilS mono_int) mono_int) mono_int) mono_int) mono_int) mono_int) mono_int) (by decide) mono_int) fun v H1 u1 p1 => ?_
  refine ss_asg u1.src (es_one rfl (es_var rfl fun H2 u2 => mono_lst mono_int v H1 H2 u1.src u2 p1) (by decide) (by decide) mono_int) fun v2 H2 u2 ⟨num, ev2, n5, n6⟩ => ?_
  subst ev2
  have U2 := u1.trans u2
  refine q_forR1 (ea_1 ev_c) (by decide) (fun i σ' H' => ∃ (num : Int) (u3 : Option V), σ' = [some (.ref a), some v, some (.int num), u3] ∧ 5 ≤ num ∧ num ≤ 1000003 ∧ Ex H2 H') (fun H3 e3 => ⟨num, none, rfl, n5, n6, e3⟩) ?_ ?_
  · rintro i σ' H' hi ⟨num, u3, rfl, a5, a6, e'⟩
    have g : Gd K H' 0 (.int num) (.int num) := gd_int (by omega)
    refine q_when (et_B (ev_call (ea_1 (ev_var rfl)) (v_law_is_prime T g))) (fun c H3 e3 => ?_) (fun c H3 e3 => ?_)
    · refine s_ret (ev_var rfl) fun H4 e4 => ?_
      exact q _ _ (U2.trans (.ex ((e'.trans e3).trans e4) U2.src)) ⟨num, rfl, a5, a6⟩
    · have n5 : num ≠ 5 := fun z => by rw [z, five] at c; cases c
      exact s_asg (ev_subI (ev_var rfl) ev_c) fun H4 e4 => ⟨num - 1, _, rfl, by omega, by omega, (e'.trans e3).trans e4⟩
  · rintro σ' H' ⟨num, u3, rfl, a5, a6, e'⟩
    refine s_ret (ev_var rfl) fun H4 e4 => ?_
    exact q _ _ (U2.trans (.ex (e'.trans e4) U2.src)) ⟨num, rfl, a5, a6⟩
theorem ok_law_drawn_prime (T : Txt K mg) : FnOk P w K mg base CX0 3 T.f_law_drawn_prime T.fd_law_drawn_prime ["source"] (sp_law_drawn_prime T) :=
  T.d_law_drawn_prime.F.ok sc_law_drawn_prime (fun vs H Q E h => len_law_drawn_prime T h) fun cdv A outer s H vs Q E hr h => ⟨t_law_drawn_prime T, by
    exact (pss_cons (ps_set (i := 1) sc_law_drawn_prime.nd rfl (Or.inl rfl) (pe_lst (pa_cons pe_int (pa_cons pe_int (pa_cons pe_int (pa_cons pe_int (pa_cons pe_int (pa_cons (pe_op op_add pe_int (pe_call (ok_law_take T) (hr.mono (by decide)) (by rfl) T.d_law_take.g T.d_law_take.F.kp T.d_law_take.b .nil pass0 (pa_cons (pv 0) (pa_cons pe_int pa_nil)))) (pa_cons (pe_op op_add pe_int (pe_call (ok_law_take T) (hr.mono (by decide)) (by rfl) T.d_law_take.g T.d_law_take.F.kp T.d_law_take.b .nil pass0 (pa_cons (pv 0) (pa_cons pe_int pa_nil)))) pa_nil))))))))) (pss_cons (ps_set (i := 2) sc_law_drawn_prime.nd rfl (Or.inl rfl) (pe_call (ok_law_one T) (hr.mono (by decide)) (by rfl) T.d_law_one.g T.d_law_one.F.kp T.d_law_one.b .nil pass0 (pa_cons (pv 0) (pa_cons (pv 1) pa_nil)))) (pss_cons (ps_for PassesOwn.never rfl (pi_range1 (by rfl) T.m_range (pa_cons pe_int pa_nil)) (pg_name (i := 3) sc_law_drawn_prime.nd rfl (Or.inl rfl)) (pss_cons (ps_if (pt_val (pe_call (ok_law_is_prime T) (hr.mono (by decide)) (by rfl) T.d_law_is_prime.g T.d_law_is_prime.F.kp T.d_law_is_prime.b .nil pass0 (pa_cons (pv 2) pa_nil))) (pss_one ps_break) pss_nil) (pss_one (ps_set (i := 2) sc_law_drawn_prime.nd rfl (Or.inl rfl) (pe_op op_sub (pv 2) pe_int))))) (pss_one (ps_ret (pv 2)))))), pure_law_drawn_prime T h⟩

/-- a thing of the form of a shape, whose first and third parts are numbers of use -/
def Shp (K : PySem.W.Frag) (H : Hp) (t : Addr) (xs : List V) : Prop := SqT K H t xs ∧ xs.length = 7 ∧ (∀ x ∈ xs, PDat K 2 x H) ∧ (∃ p : Int, xs[0]? = some (.int p) ∧ 1 ≤ p ∧ p ≤ 1000003) ∧ ∃ n : Int, xs[2]? = some (.int n) ∧ 1 ≤ n ∧ n ≤ 8
def Tab (K : PySem.W.Frag) (H : Hp) (xs : List V) : Prop := ∃ x6, xs[6]? = some x6 ∧ PTs K 8 (PDat K 1) x6 H
theorem Shp.kp {H H' : Hp} {t : Addr} {xs : List V} (e : Kp H H') (h : Shp K H t xs) : Shp K H' t xs := ⟨e.sqT h.1, h.2.1, fun x hx => monoK_dat x _ _ e (h.2.2.1 x hx), h.2.2.2⟩
theorem Tab.kp {H H' : Hp} {xs : List V} (e : Kp H H') (h : Tab K H xs) : Tab K H' xs := let ⟨x, h1, h2⟩ := h; ⟨x, h1, monoK_tups monoK_dat x _ _ e h2⟩
def sp_law_drawn_shape (T : Txt K mg) : Sp := fun vs H Q _ => ∃ a, vs = [.ref a] ∧ Src H a ∧ ∀ t xs H', Up a H H' → Shp K H' t xs → Tab K H' xs → Q (.ref t) H'
theorem len_law_drawn_shape (T : Txt K mg) {vs H Q E} (h : sp_law_drawn_shape T vs H Q E) : vs.length = 1 := by obtain ⟨_, rfl, _⟩ := h; rfl
def t_law_drawn_shape (T : Txt K mg) : TS := (tSeq (tAsg (tTup (tCons (tCall (sp_law_drawn_prime T) [] E0 (tCons (tVar 0) tNil)) (tCons (tCall (sp_law_one T) [] E0 (tCons (tVar 0) (tCons (tLst (tCons (tC (.int 1)) (tCons (tC (.int 2)) (tCons (tC (.int 7)) (tCons (tC (.int 16)) (tCons (tOp rAddI (tC (.int 1)) (tCall (sp_law_take T) [] E0 (tCons (tVar 0) (tCons (tC (.int 16)) tNil)))) tNil)))))) tNil))) tNil))) (gTup K 2 (gCons (gName 1) (gCons (gName 2) gNil)))) (tSeq (tAsg (tOp rAddI (tC (.int 1)) (tCall (sp_law_take T) [] E0 (tCons (tVar 0) (tCons (tC (.int 8)) tNil)))) (gName 3)) (tSeq (tPar 4 5 (tCons (tOp rAddI (tC (.int 1)) (tCall (sp_law_take T) [] E0 (tCons (tVar 0) (tCons (tCB rMin2 (tCons (tC (.int 3)) (tCons (tVar 3) tNil))) tNil)))) (tCons (tCall (sp_law_take T) [] E0 (tCons (tVar 0) (tCons (tC (.int 2)) tNil))) tNil))) (tSeq (tPar 6 7 (tCons (tIf (tTest (tOp rEq (tVar 5) (tC (.int 1)))) (tC (.int 0)) (tCall (sp_law_take T) [] E0 (tCons (tVar 0) (tCons (tC (.int 3)) tNil)))) (tCons (tLst tNil) tNil))) (tSeq (tFor (iRng1 (tCons (tCall (sp_law_take T) [] E0 (tCons (tVar 0) (tCons (tC (.int 9)) tNil))) tNil)) (gName 8) (tDrop (tBM K "list" rAppend (tVar 7) (tCons (tCB (rTupOf K) (tCons (tLc (iRng1 (tCons (tVar 3) tNil)) (gName 9) tYes (tCall (sp_law_one T) [] E0 (tCons (tVar 0) (tCons (tLst (tCons (tC (.int 0)) (tCons (tC (.int 1)) (tCons (tOp rSubI (tVar 1) (tC (.int 1))) (tCons (tCall (sp_law_take T) [] E0 (tCons (tVar 0) (tCons (tVar 1) tNil))) tNil))))) tNil))) [9]) tNil)) tNil)))) (tRet (tTup (tCons (tVar 1) (tCons (tVar 2) (tCons (tVar 3) (tCons (tVar 4) (tCons (tVar 6) (tCons (tVar 5) (tCons (tCB (rTupOf K) (tCons (tVar 7) tNil)) tNil))))))))))))))

theorem es_callPrime (T : Txt K mg) {a : Addr} {σ : L2.St} {H : Hp} {s0 : Nat} {E : XK} (e0 : σ[s0]? = some (some (.ref a))) : EvS a (tCall (sp_law_drawn_prime T) [] E (tCons (tVar s0) tNil)) σ H (PInt 5 1000003) :=
  fun H1 u Q q => ⟨_, e0, a, rfl, u.src, q⟩
theorem pure_law_drawn_shape (T : Txt K mg) {vs H Q} {E : XK} (h : sp_law_drawn_shape T vs H Q E) : t_law_drawn_shape T { nx := fun _ H' => Q .non H', rt := Q } (L2.start n_law_drawn_shape vs) H := by
  obtain ⟨a, rfl, s, q⟩ := h
  have c : ∀ {i : Int} {σ : L2.St} {H : Hp}, 1 ≤ i → i ≤ 1000003 → EvS a (tC (.int i)) σ H (PInt 1 1000003) := fun h1 h2 => es_int h1 h2
  -- p, wide
  refine ss_tup2 s (es_tup (ea_consS (es_wide (es_callPrime T rfl) (by decide) (by decide)) (ea_consS (es_one rfl (es_lst (ea_consS (c (by decide) (by decide)) (ea_consS (c (by decide) (by decide)) (ea_consS (c (by decide) (by decide)) (ea_consS (c (by decide) (by decide))
    (ea_consS (es_wide (es_add (es_int (lo := 1) (hi := 1) (by decide) (by decide)) (es_take (lo := 16) (hi := 16) rfl (es_int (by decide) (by decide)) (by decide) (by decide))) (by decide) (by decide)) ea_nilS mono_int) mono_int) mono_int) mono_int) mono_int) (by decide) mono_int)
    (by decide) (by decide) mono_int) ea_nilS mono_int) mono_int) (by decide) mono_int) fun x y H1 u1 ⟨p, ep, p1, p2⟩ ⟨wd, ew, w1, w2⟩ => ?_
  subst ep ew
  -- n
  refine ss_asg u1.src (es_add (es_int (lo := 1) (hi := 1) (by decide) (by decide)) (es_take (lo := 8) (hi := 8) rfl (es_int (by decide) (by decide)) (by decide) (by decide))) fun v2 H2 u2 ⟨n, en, n1, n2⟩ => ?_
  subst en
  -- k, manner
  refine ss_par (P := PInt 0 1000003) u2.src (ea_consS (es_wide (es_add (es_int (lo := 1) (hi := 1) (by decide) (by decide)) (es_take (lo := 1) (hi := 3) rfl (es_wide (es_min (es_int (lo := 3) (hi := 3) (by decide) (by decide)) (es_vint (lo := 1) (hi := 8) rfl (by omega) (by omega))) (by decide) (by decide)) (by decide) (by decide))) (by decide) (by decide))
    (ea_consS (es_wide (es_take (lo := 2) (hi := 2) rfl (es_int (by decide) (by decide)) (by decide) (by decide)) (by decide) (by decide)) ea_nilS mono_int) mono_int) fun x y H3 u3 ⟨k, ek, k1, k2⟩ ⟨m, em, m1, m2⟩ => ?_
  subst ek em
  -- e, table
  have U3 := (u1.trans u2).trans u3
  have ee : EvS a (tIf (tTest (tOp rEq (tVar 5) (tC (.int 1)))) (tC (.int 0)) (tCall (sp_law_take T) [] E0 (tCons (tVar 0) (tCons (tC (.int 3)) tNil)))) [some (.ref a), some (.int p), some (.int wd), some (.int n), some (.int k), some (.int m), none, none, none, none] H3 (PInt 0 2) := fun H4 u4 Q q => by
    refine et_eqI (ev_var rfl) ev_c H4 (Ex.refl H4) _ fun H5 e5 => ?_
    have u5 := Up.ex (a := a) e5 u4.src
    by_cases z : m = 1
    · rw [decide_eq_true z]
      exact iteT (q _ _ u5 ⟨0, rfl, by decide, by decide⟩)
    · rw [decide_eq_false z]
      exact iteF (es_take (lo := 3) (hi := 3) rfl (es_int (by decide) (by decide)) (by decide) (by decide) H5 (.refl u5.src) Q fun v H6 u6 p6 => q v H6 (u5.trans u6) p6)
  refine ee H3 (.refl U3.src) _ fun v4 H4 u4 ⟨e, eev, e1, e2⟩ => ⟨Nat.zero_le _, fun tb ntb => ⟨_, _, rfl, ?_⟩⟩
  subst eev
  have nta : tb ≠ a := u4.src.new ntb
  have U4 : Up a H (upd H4 tb (.lst [])) := (U3.trans u4).trans (.ex (Ex.new ntb) u4.src)
  -- the table
  refine ss_forR (D := _) U4.src (es_take (lo := 9) (hi := 9) rfl (es_int (by decide) (by decide)) (by decide) (by decide)) (by decide) (by decide)
    (fun c i σ' H' => (i : Int) ≤ c ∧ c ≤ 8 ∧ ∃ u8 u9, σ' = [some (.ref a), some (.int p), some (.int wd), some (.int n), some (.int k), some (.int m), some (.int e), some (.ref tb), u8, u9] ∧ Up a H H' ∧
      ∃ rows, H' tb = some (.lst rows) ∧ rows.length = i ∧ ∀ r ∈ rows, PDat K 1 r H')
    (fun c H5 c1 c2 u5 => ⟨by omega, by omega, none, none, rfl, U4.trans u5, [], u5.keep tb _ nta upd_same, rfl, fun _ z => absurd z List.not_mem_nil⟩) ?_ ?_
  · rintro c i σ' H' hi ⟨hic, c8, u8, u9, rfl, u, rows, hr, hl, hp⟩
    have lc : EvS a (tCB (rTupOf K) (tCons (tLc (iRng1 (tCons (tVar 3) tNil)) (gName 9) tYes (tCall (sp_law_one T) [] E0 (tCons (tVar 0) (tCons (tLst (tCons (tC (.int 0)) (tCons (tC (.int 1)) (tCons (tOp rSubI (tVar 1) (tC (.int 1))) (tCons (tCall (sp_law_take T) [] E0 (tCons (tVar 0) (tCons (tVar 1) tNil))) tNil))))) tNil))) [9]) tNil))
        [some (.ref a), some (.int p), some (.int wd), some (.int n), some (.int k), some (.int m), some (.int e), some (.ref tb), some (.int (i : Int)), u9] H' (PTs K 8 (PInt 0 1000003)) := by
      refine es_tupOf (es_lc (lo := 1) (hi := 8) (m := 8) (es_vint rfl (by omega) (by omega)) (by decide) (by decide) (by decide) (fun x => rfl) (fun j H1 u1 hj => ?_) monoK_int) monoK_int
      exact es_one rfl (es_lst (ea_consS (es_int (by decide) (by decide)) (ea_consS (es_int (by decide) (by decide)) (ea_consS (es_wide (es_sub (es_vint (lo := 1) (hi := 1000003) rfl (by omega) (by omega)) (es_int (lo := 1) (hi := 1) (by decide) (by decide))) (by decide) (by decide))
        (ea_consS (es_wide (es_take (lo := 1) (hi := 1000003) rfl (es_vint rfl (by omega) (by omega)) (by decide) (by decide)) (by decide) (by decide)) ea_nilS mono_int) mono_int) mono_int) mono_int) (by decide) mono_int) (by decide) (by decide) mono_int
    refine ss_app u.src nta hr rfl lc (by omega) fun y H5 u5 py => ?_
    have ky : Kp H5 (upd H5 tb (.lst (rows ++ [y]))) := .lst (u5.keep tb _ nta hr)
    refine ⟨by omega, c8, _, _, rfl, ⟨fun b o nb hb => ?_, ?_⟩, rows ++ [y], upd_same, by rw [List.length_append, hl]; rfl, fun r hr' => ?_⟩
    · have hb' : b ≠ tb := fun z => by
        subst z
        have : H4 b = some o := (U3.trans u4).keep b o nb hb
        rw [ntb] at this
        cases this
      rw [upd_ne hb']
      exact u5.keep b o nb (u.keep b o nb hb)
    · obtain ⟨big, mixed, es, r⟩ := u5.src
      exact ⟨big, mixed, by rw [upd_ne nta.symm]; exact es, r⟩
    · rcases List.mem_append.mp hr' with z | z
      · exact monoK_dat r _ _ ((u5.kp u.src).trans ky) (hp r z)
      · rw [List.mem_singleton.mp z]
        exact monoK_dat y _ _ ky (tups_dat (by decide) (tups_imp (Nat.le_refl _) (fun v H1 h => int_dat (by decide) (by decide) h) py))
  · rintro c σ' H' ⟨_, c8, u8, u9, rfl, u, rows, hr, hl, hp⟩
    refine ⟨_, rfl, _, rfl, _, rfl, _, rfl, _, rfl, _, rfl, _, rfl, tb, rows, rfl, .inl ⟨sq_of hr, fun t6 n6 => ⟨by show 7 ≤ sizeLine; decide, fun t nt => ?_⟩⟩⟩
    have k6 : Kp H' (upd H' t6 (.tup rows)) := .new n6
    have k7 : Kp (upd H' t6 (.tup rows)) (upd (upd H' t6 (.tup rows)) t (.tup [.int p, .int wd, .int n, .int k, .int e, .int m, .ref t6])) := .new nt
    have T6 : PTs K 8 (PDat K 1) (.ref t6) (upd (upd H' t6 (.tup rows)) t (.tup [.int p, .int wd, .int n, .int k, .int e, .int m, .ref t6])) :=
      ⟨t6, rows, rfl, k7.sqT (st_of upd_same), by omega, fun r h => monoK_dat r _ _ (k6.trans k7) (hp r h)⟩
    refine q t _ _ (u.trans (.ex ((Ex.new n6).trans (Ex.new nt)) u.src)) ⟨st_of upd_same, rfl, ?_, ⟨p, rfl, by omega, by omega⟩, n, rfl, by omega, by omega⟩ ⟨_, rfl, T6⟩
    intro x hx
    have I : ∀ i : Int, 0 ≤ i → i ≤ 1000003 → PDat K 2 (.int i) (upd (upd H' t6 (.tup rows)) t (.tup [.int p, .int wd, .int n, .int k, .int e, .int m, .ref t6])) := fun i h1 h2 => dat_up (by decide) (int_dat (lo := 0) (hi := 1000003) (by decide) (by decide) ⟨i, rfl, h1, h2⟩)
    simp only [List.mem_cons, List.not_mem_nil, or_false] at hx
    rcases hx with rfl | rfl | rfl | rfl | rfl | rfl | rfl
    · exact I _ (by omega) (by omega)
    · exact I _ (by omega) (by omega)
    · exact I _ (by omega) (by omega)
    · exact I _ (by omega) (by omega)
    · exact I _ (by omega) (by omega)
    · exact I _ (by omega) (by omega)
    · exact tups_dat (by decide) T6
theorem ok_law_drawn_shape (T : Txt K mg) : FnOk P w K mg base CX0 4 T.f_law_drawn_shape T.fd_law_drawn_shape ["source"] (sp_law_drawn_shape T) :=
  T.d_law_drawn_shape.F.ok sc_law_drawn_shape (fun vs H Q E h => len_law_drawn_shape T h) fun cdv A outer s H vs Q E hr h => ⟨t_law_drawn_shape T, by
    exact (pss_cons (ps_asg (pe_tup (pa_cons (pe_call (ok_law_drawn_prime T) (hr.mono (by decide)) (by rfl) T.d_law_drawn_prime.g T.d_law_drawn_prime.F.kp T.d_law_drawn_prime.b .nil pass0 (pa_cons (pv 0) pa_nil)) (pa_cons (pe_call (ok_law_one T) (hr.mono (by decide)) (by rfl) T.d_law_one.g T.d_law_one.F.kp T.d_law_one.b .nil pass0 (pa_cons (pv 0) (pa_cons (pe_lst (pa_cons pe_int (pa_cons pe_int (pa_cons pe_int (pa_cons pe_int (pa_cons (pe_op op_add pe_int (pe_call (ok_law_take T) (hr.mono (by decide)) (by rfl) T.d_law_take.g T.d_law_take.F.kp T.d_law_take.b .nil pass0 (pa_cons (pv 0) (pa_cons pe_int pa_nil)))) pa_nil)))))) pa_nil))) pa_nil))) (pg_tup rfl (pgs_cons (pg_name (i := 1) sc_law_drawn_shape.nd rfl (Or.inr rfl)) (pgs_cons (pg_name (i := 2) sc_law_drawn_shape.nd rfl (Or.inl rfl)) pgs_nil)))) (pss_cons (ps_set (i := 3) sc_law_drawn_shape.nd rfl (Or.inl rfl) (pe_op op_add pe_int (pe_call (ok_law_take T) (hr.mono (by decide)) (by rfl) T.d_law_take.g T.d_law_take.F.kp T.d_law_take.b .nil pass0 (pa_cons (pv 0) (pa_cons pe_int pa_nil))))) (pss_cons (ps_par (i := 4) (j := 5) rfl sc_law_drawn_shape.nd rfl rfl (by decide) rfl rfl (pa_cons (pe_op op_add pe_int (pe_call (ok_law_take T) (hr.mono (by decide)) (by rfl) T.d_law_take.g T.d_law_take.F.kp T.d_law_take.b .nil pass0 (pa_cons (pv 0) (pa_cons (pe_callB (call_min2 rfl) (by rfl) T.m_min (by decide +kernel) (pa_cons pe_int (pa_cons (pv 3) pa_nil))) pa_nil)))) (pa_cons (pe_call (ok_law_take T) (hr.mono (by decide)) (by rfl) T.d_law_take.g T.d_law_take.F.kp T.d_law_take.b .nil pass0 (pa_cons (pv 0) (pa_cons pe_int pa_nil))) pa_nil)) (by rfl)) (pss_cons (ps_par (i := 6) (j := 7) rfl sc_law_drawn_shape.nd rfl rfl (by decide) rfl rfl (pa_cons (pe_ifExp (pt_cmpR op_eq (pv 5) pe_int (nomark _)) pe_int (pe_call (ok_law_take T) (hr.mono (by decide)) (by rfl) T.d_law_take.g T.d_law_take.F.kp T.d_law_take.b .nil pass0 (pa_cons (pv 0) (pa_cons pe_int pa_nil)))) (pa_cons (pe_lst pa_nil) pa_nil)) (by rfl)) (pss_cons (ps_for PassesOwn.never rfl (pi_range1 (by rfl) T.m_range (pa_cons (pe_call (ok_law_take T) (hr.mono (by decide)) (by rfl) T.d_law_take.g T.d_law_take.F.kp T.d_law_take.b .nil pass0 (pa_cons (pv 0) (pa_cons pe_int pa_nil))) pa_nil)) (pg_name (i := 8) sc_law_drawn_shape.nd rfl (Or.inl rfl)) (pss_one (ps_expr (pe_bm PySem.F.plainAttrs_list PySem.F.slot_list_append PySem.F.type_list_append mt_append (pv 7) (pa_cons (pe_callTy call_tuple_of (by rfl) T.m_tuple (by decide +kernel) (pa_cons (pe_lc (own := [("x", 9)]) (g := (gName 9)) (tt := tYes) (te := (tCall (sp_law_one T) [] E0 (tCons (tVar 0) (tCons (tLst (tCons (tC (.int 0)) (tCons (tC (.int 1)) (tCons (tOp rSubI (tVar 1) (tC (.int 1))) (tCons (tCall (sp_law_take T) [] E0 (tCons (tVar 0) (tCons (tVar 1) tNil))) tNil))))) tNil)))) rfl sc_law_drawn_shape.nd (pi_range1 (by rfl) T.m_range (pa_cons (pv 3) pa_nil)) (blkOk_by (own := [("x", 9)]) (N := n_law_drawn_shape) (sc := defScope s_law_drawn_shape) (by decide +kernel)) (fun _ _ _ _ _ => (pg_name (i := 9) sc_law_drawn_shape.nd rfl (Or.inl rfl))) (fun _ _ _ _ _ => pts_nil) (fun _ _ _ _ _ => (pe_call (ok_law_one T) (hr.mono (by decide)) (by rfl) T.d_law_one.g T.d_law_one.F.kp T.d_law_one.b .nil pass0 (pa_cons (pv 0) (pa_cons (pe_lst (pa_cons pe_int (pa_cons pe_int (pa_cons (pe_op op_sub (pv 1) pe_int) (pa_cons (pe_call (ok_law_take T) (hr.mono (by decide)) (by rfl) T.d_law_take.g T.d_law_take.F.kp T.d_law_take.b .nil pass0 (pa_cons (pv 0) (pa_cons (pv 1) pa_nil))) pa_nil))))) pa_nil))))) pa_nil)) pa_nil))))) (pss_one (ps_ret (pe_tup (pa_cons (pv 1) (pa_cons (pv 2) (pa_cons (pv 3) (pa_cons (pv 4) (pa_cons (pv 6) (pa_cons (pv 5) (pa_cons (pe_callTy call_tuple_of (by rfl) T.m_tuple (by decide +kernel) (pa_cons (pv 7) pa_nil)) pa_nil))))))))))))))), pure_law_drawn_shape T h⟩

end
end My


set_option maxHeartbeats 1000000
namespace My
open PySem PySem.Spec PyProof.Rows L2 Own
open Evl (Ex RetV)
section
variable {P : Program} {w : World} {K : PySem.W.Frag} {mg : Str → Option Value} {base : Heap}

open Evl
def sp_law_bent_table (T : Txt K mg) : Sp := fun vs H Q _ => ∃ a t xs, vs = [.ref a, .ref t] ∧ Src H a ∧ Shp K H t xs ∧ Tab K H xs ∧ ∀ v H', Up a H H' → PDat K 2 v H' → Q v H'
theorem len_law_bent_table (T : Txt K mg) {vs H Q E} (h : sp_law_bent_table T vs H Q E) : vs.length = 2 := by obtain ⟨_, _, _, rfl, _⟩ := h; rfl
def t_law_bent_table (T : Txt K mg) : TS := (tSeq (tPar3 2 3 4 (tCons (tOp (rIxT K) (tVar 1) (tC (.int 0))) (tCons (tOp (rIxT K) (tVar 1) (tC (.int 2))) (tCons (tOp (rIxT K) (tVar 1) (tC (.int 6))) tNil)))) (tSeq (tAsg (tOp (rTimes K) (tTup (tCons (tC (.int 1)) tNil)) (tVar 3)) (gName 5)) (tSeq (tAsg (tLst (tCons (tC .non) (tCons (tOp (rEqD K) (tCB (rListOf K) (tCons (tVar 4) tNil)) (tLst tNil)) (tCons (tOp (rCatA K) (tVar 4) (tTup (tCons (tC .non) tNil))) (tCons (tOp (rTimes K) (tTup (tCons (tVar 5) tNil)) (tC (.int 9))) (tCons (tC (.str "table")) tNil)))))) (gName 6)) (tSeq (tAsg (tOp rCat (tVar 6) (tLst (tCons (tOp (rCatA K) (tVar 4) (tTup (tCons (tOp (rCatA K) (tVar 5) (tTup (tCons (tC (.int 0)) tNil))) tNil))) (tCons (tOp (rCatA K) (tVar 4) (tTup (tCons (tSl (rSlA K) (tVar 5) (tPart (tC (.int 1))) tNoPart) tNil))) tNil)))) (gName 6)) (tSeq (tAsg (tOp rCat (tVar 6) (tLst (tCons (tOp (rCatA K) (tVar 4) (tTup (tCons (tOp (rCatA K) (tSl (rSlA K) (tVar 5) (tPart (tC (.int 1))) tNoPart) (tTup (tCons (tVar 2) tNil))) tNil))) (tCons (tOp (rCatA K) (tVar 4) (tTup (tCons (tOp (rCatA K) (tSl (rSlA K) (tVar 5) (tPart (tC (.int 1))) tNoPart) (tTup (tCons (tOp rSubI (tC (.int 0)) (tC (.int 1))) tNil))) tNil))) tNil)))) (gName 6)) (tSeq (tAsg (tOp rCat (tVar 6) (tLst (tCons (tOp (rCatA K) (tSl (rSlA K) (tVar 4) tNoPart (tPart (tC (.int 7)))) (tTup (tCons (tVar 5) tNil))) (tCons (tOp (rCatA K) (tVar 4) (tTup (tCons (tOp (rTimes K) (tTup (tCons (tC (.bl true)) tNil)) (tVar 3)) tNil))) tNil)))) (gName 6)) (tRet (tCall (sp_law_one T) [] E0 (tCons (tVar 0) (tCons (tVar 6) tNil))))))))))

theorem pure_law_bent_table (T : Txt K mg) {vs H Q} {E : XK} (h : sp_law_bent_table T vs H Q E) : t_law_bent_table T { nx := fun _ H' => Q .non H', rt := Q } (L2.start n_law_bent_table vs) H := by
  obtain ⟨a, t, xs, rfl, s, ⟨ht, _, _, ⟨p, h0, p1, p2⟩, n, h2, n1, n2⟩, ⟨x6, h6, tab⟩, q⟩ := h
  refine s_par3 (x := .int p) (y := .int n) (z := x6) (ea_3 (ev_ixT (ev_var rfl) ev_c ht (atI_nat (j := 0) h0)) (ev_ixT (ev_var rfl) ev_c ht (atI_nat (j := 2) h2)) (ev_ixT (ev_var rfl) ev_c ht (atI_nat (j := 6) h6))) fun H1 e1 => ?_
  have u1 := Up.ex (a := a) e1 s
  -- line = (1,) * n
  refine ss_asg u1.src (es_rep (P := PDat K 0) (es_tup (ea_consS (es_dint (by decide)) ea_nilS monoK_dat.up) (by decide) monoK_dat.up) (es_vint (lo := 1) (hi := 8) rfl n1 n2) (by decide) (by decide) monoK_dat) fun line H2 u2 pl => ?_
  have U2 := u1.trans u2
  have mp : MonoK (PDat K 1) := monoK_dat
  have tb : ∀ H3, Up a H2 H3 → PTs K 8 (PDat K 1) x6 H3 := fun H3 u => monoK_tups mp x6 _ _ ((Up.kp s (U2.trans u))) tab
  have ln : ∀ H3, Up a H2 H3 → PTs K 8 (PDat K 0) line H3 := fun H3 u => monoK_tups monoK_dat line _ _ (u.kp u2.src) pl
  have st : ∀ {σ : L2.St} {H3 : Hp}, σ[4]? = some (some x6) → Up a H2 H3 → EvS a (tVar 4) σ H3 (PTs K 8 (PDat K 1)) := fun e u => es_var e fun H4 u4 => tb H4 (u.trans u4)
  have sl : ∀ {σ : L2.St} {H3 : Hp}, σ[5]? = some (some line) → Up a H2 H3 → EvS a (tVar 5) σ H3 (PTs K 8 (PDat K 0)) := fun e u => es_var e fun H4 u4 => ln H4 (u.trans u4)
  have one : ∀ {te : TE} {σ : L2.St} {H3 : Hp} {k : Nat}, EvS a te σ H3 (PDat K k) → EvS a (tTup (tCons te tNil)) σ H3 (PTs K 1 (PDat K k)) := fun h => es_tups (ea_consS h ea_nilS monoK_dat.up) (by decide) (by decide) monoK_dat
  -- some = [None, ..]
  refine ss_asg U2.src (es_lst (P := PDat K 2) (ea_consS es_dnon (ea_consS (es_dup (es_listNil (st rfl (.refl u2.src)) (by decide)) (by decide)) (ea_consS (es_dtup (es_cat (st rfl (.refl u2.src)) (one es_dnon) mp (by decide)) (by decide))
    (ea_consS (es_dtup (es_rep (hi := 9) (es_tup (ea_consS (es_dtup (sl rfl (.refl u2.src)) (by decide)) ea_nilS mp.up) (by decide) mp.up) (es_int (lo := 9) (by decide) (by decide)) (by decide) (by decide) mp) (by decide))
    (ea_consS (es_dstr (by decide +kernel)) ea_nilS monoK_dat.up) monoK_dat.up) monoK_dat.up) monoK_dat.up) monoK_dat.up) (by decide) monoK_dat.up) fun some3 H3 u3 p3 => ?_
  have U3 := u2.trans u3
  have md : MonoK (PDat K 2) := monoK_dat
  -- some + [..]
  refine ss_asg u3.src (es_catL (es_var rfl fun H4 u4 => mono_lst md.up some3 _ _ u3.src u4 p3) (es_lst (P := PDat K 2) (ea_consS (es_dtup (es_cat (st rfl u3) (one (es_dtup (es_cat (sl rfl u3) (one (es_dint (by decide))) monoK_dat (by decide)) (by decide))) mp (by decide)) (by decide))
    (ea_consS (es_dtup (es_cat (st rfl u3) (one (es_dtup (es_slice (sl rfl u3) (ep_some (es_int (lo := 1) (hi := 1) (by decide) (by decide))) ep_none monoK_dat) (by decide))) mp (by decide)) (by decide)) ea_nilS md.up) md.up) (by decide) md.up) md (by decide)) fun some4 H4 u4 p4 => ?_
  have W4 := u3.trans u4
  refine ss_asg u4.src (es_catL (es_var rfl fun H5 u5 => mono_lst md.up some4 _ _ u4.src u5 p4) (es_lst (P := PDat K 2) (ea_consS (es_dtup (es_cat (st rfl W4) (one (es_dtup (es_cat (es_slice (sl rfl W4) (ep_some (es_int (lo := 1) (hi := 1) (by decide) (by decide))) ep_none monoK_dat)
      (one (es_dof (es_vint (lo := 1) (hi := 1000003) rfl p1 p2) (by decide) (by decide))) monoK_dat (by decide)) (by decide))) mp (by decide)) (by decide))
    (ea_consS (es_dtup (es_cat (st rfl W4) (one (es_dtup (es_cat (es_slice (sl rfl W4) (ep_some (es_int (lo := 1) (hi := 1) (by decide) (by decide))) ep_none monoK_dat)
      (one (es_dof (es_sub (es_int (lo := 0) (hi := 0) (by decide) (by decide)) (es_int (lo := 1) (hi := 1) (by decide) (by decide))) (by decide) (by decide))) monoK_dat (by decide)) (by decide))) mp (by decide)) (by decide)) ea_nilS md.up) md.up) (by decide) md.up) md (by decide)) fun some5 H5 u5 p5 => ?_
  have W5 := W4.trans u5
  refine ss_asg u5.src (es_catL (es_var rfl fun H6 u6 => mono_lst md.up some5 _ _ u5.src u6 p5) (es_lst (P := PDat K 2) (ea_consS (es_dtup (es_cat (es_slice (st rfl W5) ep_none (ep_some (es_int (lo := 7) (hi := 7) (by decide) (by decide))) mp) (one (es_dtup (sl rfl W5) (by decide))) mp (by decide)) (by decide))
    (ea_consS (es_dtup (es_cat (st rfl W5) (one (es_dtup (es_rep (hi := 8) (es_tup (ea_consS es_dbl ea_nilS (monoK_dat (k := 0)).up) (by decide) (monoK_dat (k := 0)).up) (es_vint (lo := 1) rfl n1 n2) (by decide) (by decide) monoK_dat) (by decide))) mp (by decide)) (by decide)) ea_nilS md.up) md.up) (by decide) md.up) md (by decide)) fun some6 H6 u6 p6 => ?_
  refine ss_ret u6.src (es_one rfl (es_var rfl fun H7 u7 => mono_lst md.up some6 _ _ u6.src u7 p6) (by decide) (by decide) md.up) fun v H7 u7 pv => ?_
  exact q v H7 (((((u1.trans u2).trans u3).trans u4).trans u5).trans (u6.trans u7)) pv
theorem ok_law_bent_table (T : Txt K mg) : FnOk P w K mg base CX0 3 T.f_law_bent_table T.fd_law_bent_table ["source", "shape"] (sp_law_bent_table T) :=
  T.d_law_bent_table.F.ok sc_law_bent_table (fun vs H Q E h => len_law_bent_table T h) fun cdv A outer s H vs Q E hr h => ⟨t_law_bent_table T, by
    exact (pss_cons (ps_par3 (i := 2) (j := 3) (l := 4) rfl sc_law_bent_table.nd rfl rfl rfl (by decide) (by decide) (by decide) rfl rfl rfl (pa_cons (pe_ix ix_tup (pv 1) pe_int (fun _ _ => rfl)) (pa_cons (pe_ix ix_tup (pv 1) pe_int (fun _ _ => rfl)) (pa_cons (pe_ix ix_tup (pv 1) pe_int (fun _ _ => rfl)) pa_nil))) (by rfl)) (pss_cons (ps_set (i := 5) sc_law_bent_table.nd rfl (Or.inl rfl) (pe_op op_times (pe_tup (pa_cons pe_int pa_nil)) (pv 3))) (pss_cons (ps_set (i := 6) sc_law_bent_table.nd rfl (Or.inl rfl) (pe_lst (pa_cons pe_non (pa_cons (pe_cmpR (op_eqD hr.units) (pe_callTy call_list_of (by rfl) T.m_list (by decide +kernel) (pa_cons (pv 4) pa_nil)) (pe_lst pa_nil) (nomark _)) (pa_cons (pe_op op_catA (pv 4) (pe_tup (pa_cons pe_non pa_nil))) (pa_cons (pe_op op_times (pe_tup (pa_cons (pv 5) pa_nil)) pe_int) (pa_cons pe_str pa_nil))))))) (pss_cons (ps_set (i := 6) sc_law_bent_table.nd rfl (Or.inl rfl) (pe_op op_cat (pv 6) (pe_lst (pa_cons (pe_op op_catA (pv 4) (pe_tup (pa_cons (pe_op op_catA (pv 5) (pe_tup (pa_cons pe_int pa_nil))) pa_nil))) (pa_cons (pe_op op_catA (pv 4) (pe_tup (pa_cons (pe_slice sl_tupA (pv 5) (po_some pe_int) po_none) pa_nil))) pa_nil))))) (pss_cons (ps_set (i := 6) sc_law_bent_table.nd rfl (Or.inl rfl) (pe_op op_cat (pv 6) (pe_lst (pa_cons (pe_op op_catA (pv 4) (pe_tup (pa_cons (pe_op op_catA (pe_slice sl_tupA (pv 5) (po_some pe_int) po_none) (pe_tup (pa_cons (pv 2) pa_nil))) pa_nil))) (pa_cons (pe_op op_catA (pv 4) (pe_tup (pa_cons (pe_op op_catA (pe_slice sl_tupA (pv 5) (po_some pe_int) po_none) (pe_tup (pa_cons (pe_op op_sub pe_int pe_int) pa_nil))) pa_nil))) pa_nil))))) (pss_cons (ps_set (i := 6) sc_law_bent_table.nd rfl (Or.inl rfl) (pe_op op_cat (pv 6) (pe_lst (pa_cons (pe_op op_catA (pe_slice sl_tupA (pv 4) po_none (po_some pe_int)) (pe_tup (pa_cons (pv 5) pa_nil))) (pa_cons (pe_op op_catA (pv 4) (pe_tup (pa_cons (pe_op op_times (pe_tup (pa_cons pe_bl pa_nil)) (pv 3)) pa_nil))) pa_nil))))) (pss_one (ps_ret (pe_call (ok_law_one T) (hr.mono (by decide)) (by rfl) T.d_law_one.g T.d_law_one.F.kp T.d_law_one.b .nil pass0 (pa_cons (pv 0) (pa_cons (pv 6) pa_nil))))))))))), pure_law_bent_table T h⟩

/-- seven parts, all of them data -/
def Sev (K : PySem.W.Frag) (H : Hp) (t : Addr) (xs : List V) : Prop := SqT K H t xs ∧ xs.length = 7 ∧ ∀ x ∈ xs, PDat K 2 x H
def sp_law_bent (T : Txt K mg) : Sp := fun vs H Q _ => ∃ (a t : Addr) (xs : List V) (w : Int), vs = [.ref a, .ref t, .int w] ∧ Src H a ∧ Shp K H t xs ∧ 0 ≤ w ∧ w ≤ 6 ∧ (w = 6 → Tab K H xs) ∧ ∀ t' ys H', Up a H H' → Sev K H' t' ys → Q (.ref t') H'
theorem len_law_bent (T : Txt K mg) {vs H Q E} (h : sp_law_bent T vs H Q E) : vs.length = 3 := by obtain ⟨_, _, _, _, rfl, _⟩ := h; rfl
end
end My


set_option maxHeartbeats 1000000
namespace My
open PySem PySem.Spec PyProof.Rows L2 Own
open Evl (Ex RetV)
section
variable {P : Program} {w : World} {K : PySem.W.Frag} {mg : Str → Option Value} {base : Heap}

open Evl
def t_law_bent (T : Txt K mg) : TS := (tSeq (tAsg (tLst (tCons (tLst (tCons (tC (.int 4)) (tCons (tC (.int 1)) (tCons (tC (.int 2)) (tCons (tC (.int 3)) (tCons (tC (.int 9)) (tCons (tC (.int 25)) (tCons (tC (.int 1000001)) (tCons (tC (.int 1000033)) (tCons (tOp rSubI (tC (.int 0)) (tC (.int 7))) (tCons (tC (.int 11)) (tCons (tC .non) (tCons (tC (.str "7")) (tCons (tC (.bl true)) tNil)))))))))))))) tNil)) (gName 3)) (tSeq (tDrop (tBM K "list" rAppend (tVar 3) (tCons (tLst (tCons (tC (.int 0)) (tCons (tC (.int 17)) (tCons (tOp rSubI (tC (.int 0)) (tC (.int 1))) (tCons (tC (.int 16)) (tCons (tC .non) (tCons (tC (.str "1")) (tCons (tC (.bl true)) (tCons (tTup (tCons (tC (.int 1)) tNil)) tNil))))))))) tNil))) (tSeq (tDrop (tBM K "list" rAppend (tVar 3) (tCons (tLst (tCons (tC (.int 0)) (tCons (tC (.int 9)) (tCons (tOp rSubI (tC (.int 0)) (tC (.int 2))) (tCons (tC (.int 8)) (tCons (tC (.int 1)) (tCons (tC .non) (tCons (tC (.str "2")) (tCons (tC (.bl false)) tNil))))))))) tNil))) (tSeq (tDrop (tBM K "list" rAppend (tVar 3) (tCons (tLst (tCons (tC (.int 0)) (tCons (tC (.int 4)) (tCons (tC (.int 3)) (tCons (tOp rSubI (tC (.int 0)) (tC (.int 1))) (tCons (tC .non) (tCons (tC (.str "2")) (tCons (tC (.bl true)) (tCons (tOp rAddI (tOp (rIxT K) (tVar 1) (tC (.int 2))) (tC (.int 1))) tNil))))))))) tNil))) (tSeq (tDrop (tBM K "list" rAppend (tVar 3) (tCons (tLst (tCons (tC (.int 3)) (tCons (tOp rSubI (tC (.int 0)) (tC (.int 1))) (tCons (tC (.int 2)) (tCons (tC .non) (tCons (tC (.str "0")) (tCons (tC (.bl false)) (tCons (tTup tNil) tNil)))))))) tNil))) (tSeq (tDrop (tBM K "list" rAppend (tVar 3) (tCons (tLst (tCons (tC (.int 2)) (tCons (tOp rSubI (tC (.int 0)) (tC (.int 1))) (tCons (tC (.int 1)) (tCons (tC .non) (tCons (tC (.str "1")) (tCons (tC (.bl true)) (tCons (tC (.bl false)) tNil)))))))) tNil))) (tSeq (tAsg (tIf (tTest (tOp rEq (tVar 2) (tC (.int 6)))) (tCall (sp_law_bent_table T) [] E0 (tCons (tVar 0) (tCons (tVar 1) tNil))) (tCall (sp_law_one T) [] E0 (tCons (tVar 0) (tCons (tOp (rIxL K) (tVar 3) (tVar 2)) tNil)))) (gName 4)) (tRet (tOp (rCatA K) (tOp (rCatA K) (tSl (rSlA K) (tVar 1) tNoPart (tPart (tVar 2))) (tTup (tCons (tVar 4) tNil))) (tSl (rSlA K) (tVar 1) (tPart (tOp rAddI (tVar 2) (tC (.int 1)))) tNoPart))))))))))

theorem es_bentTable (T : Txt K mg) {a t : Addr} {σ : L2.St} {H : Hp} {xs : List V} {s0 s1 : Nat} {E : XK} (e0 : σ[s0]? = some (some (.ref a))) (e1 : σ[s1]? = some (some (.ref t))) (h : Shp K H t xs) (tb : Tab K H xs) (s : Src H a) :
    EvS a (tCall (sp_law_bent_table T) [] E (tCons (tVar s0) (tCons (tVar s1) tNil))) σ H (PDat K 2) :=
  fun H1 u Q q => ⟨_, e0, _, e1, a, t, xs, rfl, u.src, h.kp (u.kp s), tb.kp (u.kp s), q⟩
theorem pure_law_bent (T : Txt K mg) {vs H Q} {E : XK} (h : sp_law_bent T vs H Q E) : t_law_bent T { nx := fun _ H' => Q .non H', rt := Q } (L2.start n_law_bent vs) H := by
  obtain ⟨a, t, xs, w, rfl, s, sh, w0, w6, hT, q⟩ := h
  obtain ⟨ht, h7, hd, _, n, h2, n1, n2⟩ := sh
  have md : Mono a (PDat K 1) := monoK_dat.up
  have neg : ∀ {i j : Int} {σ : L2.St} {H : Hp}, i - j = i - j → -1000 ≤ i → i ≤ 1000 → -1000 ≤ j → j ≤ 1000 → EvS a (tOp rSubI (tC (.int i)) (tC (.int j))) σ H (PDat K 1) := fun _ h1 h2 h3 h4 =>
    es_dof (es_sub (es_int (Int.le_refl _) (Int.le_refl _)) (es_int (Int.le_refl _) (Int.le_refl _))) (by omega) (by omega)
  -- some = [[..]]
  refine ss_first s (ea_consS (n := 12) (P := PDat K 1) (es_dint (by decide)) (ea_consS (es_dint (by decide)) (ea_consS (es_dint (by decide)) (ea_consS (es_dint (by decide)) (ea_consS (es_dint (by decide)) (ea_consS (es_dint (by decide)) (ea_consS (es_dint (by decide)) (ea_consS (es_dint (by decide))
    (ea_consS (neg rfl (by decide) (by decide) (by decide) (by decide)) (ea_consS (es_dint (by decide)) (ea_consS es_dnon (ea_consS (es_dstr (by decide +kernel)) (ea_consS es_dbl ea_nilS md) md) md) md) md) md) md) md) md) md) md) md) md) (by decide) fun vs H1 u1 hl pv p np l nl => ?_
  have e1 : Ex H1 (upd (upd H1 p (.lst vs)) l (.lst [.ref p])) := (Ex.new np).trans (Ex.new nl)
  have U1 : Up a H (upd (upd H1 p (.lst vs)) l (.lst [.ref p])) := u1.trans (.ex e1 u1.src)
  have lp : l ≠ p := fun z => by subst z; rw [upd_same] at nl; cases nl
  have la : l ≠ a := fun z => by
    subst z
    obtain ⟨big, mixed, e, _⟩ := u1.src
    rw [upd_ne lp, e] at nl
    cases nl
  have nl0 : H l = none := by
    cases z : H l with
    | none => rfl
    | some o =>
      have : H1 l = some o := u1.keep l o la z
      rw [upd_ne lp, this] at nl
      cases nl
  have M1 : Men K a l 1 (upd (upd H1 p (.lst vs)) l (.lst [.ref p])) := ⟨la, [.ref p], upd_same, rfl, fun x hx => by
    rw [List.mem_singleton.mp hx]
    exact ⟨p, vs, rfl, u1.src.new np, lp.symm, by rw [upd_ne lp.symm]; exact upd_same, by omega, by omega, fun y hy => monoK_dat y _ _ (.ex e1) (pv y hy)⟩⟩
  refine men_add s U1 nl0 M1 rfl (ea_consS (n := 7) (P := PDat K 1) (es_dint (by decide)) (ea_consS (es_dint (by decide)) (ea_consS (neg rfl (by decide) (by decide) (by decide) (by decide)) (ea_consS (es_dint (by decide)) (ea_consS es_dnon (ea_consS (es_dstr (by decide +kernel)) (ea_consS es_dbl
    (ea_consS (es_dtup (es_tups (m := 1) (P := PDat K 0) (ea_consS (es_dint (by decide)) ea_nilS monoK_dat.up) (by decide) (by decide) monoK_dat) (by decide)) ea_nilS md) md) md) md) md) md) md) md) (by decide) (by decide) (by decide) fun H2 U2 M2 => ?_
  refine men_add s U2 nl0 M2 rfl (ea_consS (n := 7) (P := PDat K 1) (es_dint (by decide)) (ea_consS (es_dint (by decide)) (ea_consS (neg rfl (by decide) (by decide) (by decide) (by decide)) (ea_consS (es_dint (by decide)) (ea_consS (es_dint (by decide)) (ea_consS es_dnon (ea_consS (es_dstr (by decide +kernel))
    (ea_consS es_dbl ea_nilS md) md) md) md) md) md) md) md) (by decide) (by decide) (by decide) fun H3 U3 M3 => ?_
  have x2 : ∀ {σ : L2.St} {H4 : Hp}, σ[1]? = some (some (.ref t)) → Up a H H4 → EvS a (tOp (rIxT K) (tVar 1) (tC (.int 2))) σ H4 (PInt 1 8) := fun e u H5 u5 Q qq =>
    ev_ixT (ev_var e) ev_c ((u.trans u5).sqT s ht) (atI_nat (j := 2) h2) H5 (.refl H5) Q fun H6 e6 => qq _ H6 (.ex e6 u5.src) ⟨n, rfl, n1, n2⟩
  refine men_add s U3 nl0 M3 rfl (ea_consS (n := 7) (P := PDat K 1) (es_dint (by decide)) (ea_consS (es_dint (by decide)) (ea_consS (es_dint (by decide)) (ea_consS (neg rfl (by decide) (by decide) (by decide) (by decide)) (ea_consS es_dnon (ea_consS (es_dstr (by decide +kernel)) (ea_consS es_dbl
    (ea_consS (es_dof (es_add (x2 rfl U3) (es_int (lo := 1) (hi := 1) (by decide) (by decide))) (by decide) (by decide)) ea_nilS md) md) md) md) md) md) md) md) (by decide) (by decide) (by decide) fun H4 U4 M4 => ?_
  refine men_add s U4 nl0 M4 rfl (ea_consS (n := 6) (P := PDat K 1) (es_dint (by decide)) (ea_consS (neg rfl (by decide) (by decide) (by decide) (by decide)) (ea_consS (es_dint (by decide)) (ea_consS es_dnon (ea_consS (es_dstr (by decide +kernel)) (ea_consS es_dbl
    (ea_consS (es_dtup (es_tups (m := 1) (P := PDat K 0) ea_nilS (by decide) (by decide) monoK_dat) (by decide)) ea_nilS md) md) md) md) md) md) md) (by decide) (by decide) (by decide) fun H5 U5 M5 => ?_
  refine men_add s U5 nl0 M5 rfl (ea_consS (n := 6) (P := PDat K 1) (es_dint (by decide)) (ea_consS (neg rfl (by decide) (by decide) (by decide) (by decide)) (ea_consS (es_dint (by decide)) (ea_consS es_dnon (ea_consS (es_dstr (by decide +kernel)) (ea_consS es_dbl
    (ea_consS es_dbl ea_nilS md) md) md) md) md) md) md) (by decide) (by decide) (by decide) fun H6 U6 M6 => ?_
  -- thing = ..
  have th : EvS a (tIf (tTest (tOp rEq (tVar 2) (tC (.int 6)))) (tCall (sp_law_bent_table T) [] E0 (tCons (tVar 0) (tCons (tVar 1) tNil))) (tCall (sp_law_one T) [] E0 (tCons (tVar 0) (tCons (tOp (rIxL K) (tVar 3) (tVar 2)) tNil))))
      [some (.ref a), some (.ref t), some (.int w), some (.ref l), none] H6 (PDat K 2) := fun H7 u7 Q qq => by
    refine et_eqI (ev_var rfl) ev_c H7 (Ex.refl H7) _ fun H8 e8 => ?_
    have u8 := Up.ex (a := a) e8 u7.src
    have U8 := (U6.trans u7).trans u8
    by_cases z : w = 6
    · rw [decide_eq_true z]
      have kk := U8.kp s
      exact iteT (es_bentTable T rfl rfl (Shp.kp kk ⟨ht, h7, hd, ‹_›, n, h2, n1, n2⟩) ((hT z).kp kk) u8.src H8 (.refl u8.src) Q fun v H9 u9 p9 => qq v H9 (u8.trans u9) p9)
    · rw [decide_eq_false z]
      exact iteF (es_dup (es_men rfl rfl rfl (fun H9 u9 => M6.up U6.src ((u7.trans u8).trans u9)) w0 (by omega)) (by decide) H8 (.refl u8.src) Q fun v H9 u9 p9 => qq v H9 (u8.trans u9) p9)
  refine ss_asg U6.src th fun v H7 u7 pv7 => ?_
  have U7 := U6.trans u7
  -- the parts put together
  have ex : w = ((w.toNat : Nat) : Int) := by omega
  have shp : ∀ {σ : L2.St} {H8 : Hp}, σ[1]? = some (some (.ref t)) → Up a H H8 → EvS a (tVar 1) σ H8 (PSq K xs) := fun e u => es_var e fun H9 u9 => ⟨t, rfl, (u.trans u9).sqT s ht⟩
  have lo := cut_lo (xs := xs) (w := w.toNat) (by omega)
  have hi := cut_hi (xs := xs) (w := w.toNat + 1) (by omega)
  have l1 : (xs.take w.toNat).length = w.toNat := by rw [List.length_take]; omega
  have l2 : (xs.drop (w.toNat + 1)).length = 6 - w.toNat := by rw [List.length_drop]; omega
  refine ss_ret U7.src (es_catX (es_catX (es_cutX (lo := none) (hi := some w) (shp rfl U7) cp_none (cp_some (es_vint rfl (Int.le_refl _) (Int.le_refl _)))) (es_oneX rfl) (by rw [ex, lo, l1]; show w.toNat + 1 ≤ 1000; omega))
    (es_cutX (lo := some (w + 1)) (hi := none) (shp rfl U7) (cp_some (es_add (es_vint rfl (Int.le_refl _) (Int.le_refl _)) (es_int (Int.le_refl _) (Int.le_refl _)))) cp_none) (by have := cutV_length xs none (some w); have := cutV_length xs (some (w + 1)) none; rw [List.length_append]; show _ + 1 + _ ≤ 1000; omega)) fun r H8 u8 ⟨t', er, ht'⟩ => ?_
  rw [er]
  have U8 := U7.trans u8
  refine q t' _ H8 U8 ⟨ht', ?_, fun x hx => ?_⟩
  · rw [show (some w : Option Int) = some ((w.toNat : Nat) : Int) by rw [← ex], lo, show (some (w + 1) : Option Int) = some (((w.toNat + 1 : Nat)) : Int) by rw [show ((w.toNat + 1 : Nat) : Int) = w + 1 by omega], hi]
    rw [List.length_append, List.length_append, l1, l2]
    show w.toNat + 1 + (6 - w.toNat) = 7
    omega
  · rcases List.mem_append.mp hx with z | z
    · rcases List.mem_append.mp z with z | z
      · exact monoK_dat x _ _ (U8.kp s) (hd x (cut_mem z))
      · rw [List.mem_singleton.mp z]
        exact monoK_dat v _ _ (u8.kp u7.src) pv7
    · exact monoK_dat x _ _ (U8.kp s) (hd x (cut_mem z))
theorem ok_law_bent (T : Txt K mg) : FnOk P w K mg base CX0 4 T.f_law_bent T.fd_law_bent ["source", "shape", "at"] (sp_law_bent T) :=
  T.d_law_bent.F.ok sc_law_bent (fun vs H Q E h => len_law_bent T h) fun cdv A outer s H vs Q E hr h => ⟨t_law_bent T, by
    exact (pss_cons (ps_set (i := 3) sc_law_bent.nd rfl (Or.inl rfl) (pe_lst (pa_cons (pe_lst (pa_cons pe_int (pa_cons pe_int (pa_cons pe_int (pa_cons pe_int (pa_cons pe_int (pa_cons pe_int (pa_cons pe_int (pa_cons pe_int (pa_cons (pe_op op_sub pe_int pe_int) (pa_cons pe_int (pa_cons pe_non (pa_cons pe_str (pa_cons pe_bl pa_nil)))))))))))))) pa_nil))) (pss_cons (ps_expr (pe_bm PySem.F.plainAttrs_list PySem.F.slot_list_append PySem.F.type_list_append mt_append (pv 3) (pa_cons (pe_lst (pa_cons pe_int (pa_cons pe_int (pa_cons (pe_op op_sub pe_int pe_int) (pa_cons pe_int (pa_cons pe_non (pa_cons pe_str (pa_cons pe_bl (pa_cons (pe_tup (pa_cons pe_int pa_nil)) pa_nil))))))))) pa_nil))) (pss_cons (ps_expr (pe_bm PySem.F.plainAttrs_list PySem.F.slot_list_append PySem.F.type_list_append mt_append (pv 3) (pa_cons (pe_lst (pa_cons pe_int (pa_cons pe_int (pa_cons (pe_op op_sub pe_int pe_int) (pa_cons pe_int (pa_cons pe_int (pa_cons pe_non (pa_cons pe_str (pa_cons pe_bl pa_nil))))))))) pa_nil))) (pss_cons (ps_expr (pe_bm PySem.F.plainAttrs_list PySem.F.slot_list_append PySem.F.type_list_append mt_append (pv 3) (pa_cons (pe_lst (pa_cons pe_int (pa_cons pe_int (pa_cons pe_int (pa_cons (pe_op op_sub pe_int pe_int) (pa_cons pe_non (pa_cons pe_str (pa_cons pe_bl (pa_cons (pe_op op_add (pe_ix ix_tup (pv 1) pe_int (fun _ _ => rfl)) pe_int) pa_nil))))))))) pa_nil))) (pss_cons (ps_expr (pe_bm PySem.F.plainAttrs_list PySem.F.slot_list_append PySem.F.type_list_append mt_append (pv 3) (pa_cons (pe_lst (pa_cons pe_int (pa_cons (pe_op op_sub pe_int pe_int) (pa_cons pe_int (pa_cons pe_non (pa_cons pe_str (pa_cons pe_bl (pa_cons (pe_tup pa_nil) pa_nil)))))))) pa_nil))) (pss_cons (ps_expr (pe_bm PySem.F.plainAttrs_list PySem.F.slot_list_append PySem.F.type_list_append mt_append (pv 3) (pa_cons (pe_lst (pa_cons pe_int (pa_cons (pe_op op_sub pe_int pe_int) (pa_cons pe_int (pa_cons pe_non (pa_cons pe_str (pa_cons pe_bl (pa_cons pe_bl pa_nil)))))))) pa_nil))) (pss_cons (ps_set (i := 4) sc_law_bent.nd rfl (Or.inl rfl) (pe_ifExp (pt_cmpR op_eq (pv 2) pe_int (nomark _)) (pe_call (ok_law_bent_table T) (hr.mono (by decide)) (by rfl) T.d_law_bent_table.g T.d_law_bent_table.F.kp T.d_law_bent_table.b .nil pass0 (pa_cons (pv 0) (pa_cons (pv 1) pa_nil))) (pe_call (ok_law_one T) (hr.mono (by decide)) (by rfl) T.d_law_one.g T.d_law_one.F.kp T.d_law_one.b .nil pass0 (pa_cons (pv 0) (pa_cons (pe_ix ix_list (pv 3) (pv 2) (fun _ _ => rfl)) pa_nil))))) (pss_one (ps_ret (pe_op op_catA (pe_op op_catA (pe_slice sl_tupA (pv 1) po_none (po_some (pv 2))) (pe_tup (pa_cons (pv 4) pa_nil))) (pe_slice sl_tupA (pv 1) (po_some (pe_op op_add (pv 2) pe_int)) po_none))))))))))), pure_law_bent T h⟩

end
end My


set_option maxHeartbeats 1000000
namespace My
open PySem PySem.Spec PyProof.Rows L2 Own
open Evl (Ex RetV)
section
variable {P : Program} {w : World} {K : PySem.W.Frag} {mg : Str → Option Value} {base : Heap}

open Evl
theorem fault_small {d : PyData} {f : Int} (h : fault d = some f) : f.natAbs < 2 ^ 64 := by
  have g : ∀ p w n k e m t, fault7 p w n k e m t = some f → f.natAbs < 2 ^ 64 := fun p w n k e m t h => by
    unfold fault7 at h
    repeat' split at h
    all_goals first | (injection h with h; subst h; decide) | cases h
  unfold fault at h
  split at h
  · exact g _ _ _ _ _ _ _ h
  · injection h with h
    subst h
    decide
theorem ev_show {σ : L2.St} {H : Hp} {te : TE} {v : V} {d : PyData} {k : Nat} (h : Ev te σ H v) (g : Gd K H k v d) (hk : k ≤ 4) : Ev (tCB (rShow K) (tCons te tNil)) σ H (.str d.shown) :=
  fun H1 e Q q => h H1 e _ fun H2 e2 => show_d (g.ex (e.trans e2)) hk (q H2 e2)
theorem ev_neS {σ : L2.St} {H : Hp} {ta tb : TE} {x y : Str} (ha : Ev ta σ H (.str x)) (hb : Ev tb σ H (.str y)) : Ev (tOp rNe ta tb) σ H (.bl (!decide (x = y))) := by
  have e : decide (x = y) = decide (V.str x = V.str y) := by
    by_cases h : x = y
    · subst h; simp
    · simp [h]
  rw [e]
  exact ev_op ha hb (rv_ne rfl)
theorem gd_opt {H : Hp} {d : PyData} : ∃ e, Gd K H 0 (optV (fault d)) e ∧ ∀ f, fault d = some f → e = .int f := by
  cases h : fault d with
  | none => exact ⟨_, gd_non, fun f z => by cases z⟩
  | some f => exact ⟨_, gd_int (fault_small h), fun g z => by injection z with z; rw [z]⟩
def sp_law_thing_right (T : Txt K mg) : Sp := fun vs H Q _ => ∃ x d, vs = [x] ∧ Gd K H 4 x d ∧ RetV (.bl true) H Q
theorem len_law_thing_right (T : Txt K mg) {vs H Q E} (h : sp_law_thing_right T vs H Q E) : vs.length = 1 := by obtain ⟨_, _, rfl, _⟩ := h; rfl
def t_law_thing_right (T : Txt K mg) : TS := (tSeq (tAsg (tCall (sp_law_fault T) [] E0 (tCons (tVar 0) tNil)) (gName 1)) (tSeq (tFor (iRng1 (tCons (tC (.int 2)) tNil)) (gName 2) (tSeq (tIfS (tTest (tOp rNe (tCB (rShow K) (tCons (tCall (sp_is_shape T) [] E0 (tCons (tVar 0) tNil)) tNil)) (tCB (rShow K) (tCons (tOp rIsN (tVar 1) (tC .non)) tNil)))) (tRet (tC (.bl false))) tNext) (tTry K T.c_Refused 4 (fun W => (tSeq (tAsg (tIf (tTest (tOp rEq (tVar 2) (tC (.int 0)))) (tCallS (sp_made_shape T) (WE W) (tCons (tVar 0) tNil)) (tCallS (sp_made_shape T) (WE W) (tCons (tVar 0) tNil))) (gName 3)) (tIfS (tOr (tTest (tOp rNotN (tVar 1) (tC .non))) (tTest (tOp rNe (tCB (rShow K) (tCons (tVar 3) tNil)) (tCB (rShow K) (tCons (tVar 0) tNil))))) (tRet (tC (.bl false))) tNext))) (fun a cls d => (tIfS (tOr (tTest (tOp rIsN (tVar 1) (tC .non))) (tOr (tNot (tB (tCB (rIsD K T.c_BadShape a cls d) (tCons (tVar 4) (tCons (tC (.ref T.c_BadShape)) tNil))))) (tTest (tOp rNe (tCB (rShow K) (tCons (tXf a cls d T.c_BadShape "what" (tVar 4)) tNil)) (tCB (rShow K) (tCons (tVar 1) tNil)))))) (tRet (tC (.bl false))) tNext))))) (tRet (tC (.bl true)))))

theorem pure_law_thing_right (T : Txt K mg) {vs H Q} {E : XK} (h : sp_law_thing_right T vs H Q E) : t_law_thing_right T { nx := fun _ H' => Q .non H', rt := Q } (L2.start n_law_thing_right vs) H := by
  obtain ⟨x, d, rfl, g, q⟩ := h
  refine q_asg (ev_call (ea_1 (ev_var rfl)) (v_law_fault T (by decide) g)) fun H1 e1 => ?_
  refine q_forR1 (ea_1 ev_c) (by decide) (fun i σ' H' => ∃ u2 u3 u4, σ' = [some x, some (optV (fault d)), u2, u3, u4] ∧ Ex H H') (fun H2 e2 => ⟨none, none, none, rfl, e1.trans e2⟩) ?_ ?_
  · rintro i σ' H' hi ⟨u2, u3, u4, rfl, e'⟩
    have g' := g.ex e'
    -- repr(is_shape(thing)) != repr(fault is None)
    have i1 : EvT (tTest (tOp rNe (tCB (rShow K) (tCons (tCall (sp_is_shape T) [] E0 (tCons (tVar 0) tNil)) tNil)) (tCB (rShow K) (tCons (tOp rIsN (tVar 1) (tC .non)) tNil)))) [some x, some (optV (fault d)), some (.int (i : Int)), u3, u4] H' false := by
      refine et_is (et_test (ev_neS (ev_show (ev_call (ea_1 (ev_var rfl)) (v_is_shape T g')) gd_bl (by decide)) (ev_show (ev_isN (ev_var rfl)) gd_bl (by decide)))) ?_
      rw [optV_non]
      simp
    refine q_when i1 (fun c => by cases c) (fun _ H2 e2 => ?_)
    -- the try
    refine et_eqI (ev_var rfl) ev_c H2 (Ex.refl H2) _ fun H3 e3 => ?_
    have E3 := (e'.trans e2).trans e3
    have g3 := g.ex E3
    have body : ∀ (W : WX), (∀ f, fault d = some f → ∀ H' dd, Ex H3 H' → Wh H' dd (.int f) → W (.ref T.c_BadShape) (some dd) [some x, some (optV (fault d)), some (.int (i : Int)), u3, u4] H') →
        ∀ Qv : VK, (fault d = none → ∀ H', Ex H3 H' → Qv x H') → tCallS (sp_made_shape T) (WE W) (tCons (tVar 0) tNil) [some x, some (optV (fault d)), some (.int (i : Int)), u3, u4] H3 Qv := fun W hW Qv hQ =>
      ⟨x, rfl, 4, x, d, rfl, g3, hQ, hW⟩
    have suite : ∀ f, fault d = some f → ∀ H' dd, Ex H3 H' → Wh H' dd (.int f) → ∀ (D : Ends) (a : Addr), (∀ H4, Ex H' H4 → D.nx [some x, some (optV (fault d)), some (.int (i : Int)), u3, some (.ref a)] H4) →
        tIfS (tOr (tTest (tOp rIsN (tVar 1) (tC .non))) (tOr (tNot (tB (tCB (rIsD K T.c_BadShape a (.ref T.c_BadShape) (some dd)) (tCons (tVar 4) (tCons (tC (.ref T.c_BadShape)) tNil))))) (tTest (tOp rNe (tCB (rShow K) (tCons (tXf a (.ref T.c_BadShape) (some dd) T.c_BadShape "what" (tVar 4)) tNil)) (tCB (rShow K) (tCons (tVar 1) tNil))))))
          (tRet (tC (.bl false))) tNext D [some x, some (optV (fault d)), some (.int (i : Int)), u3, some (.ref a)] H' := fun f hf H' dd e4 ed D a k => by
      obtain ⟨fe, gf, ef⟩ := gd_opt (K := K) (H := H') (d := d)
      have ef := ef f hf
      subst ef
      have t1 : Ev (tCB (rIsD K T.c_BadShape a (.ref T.c_BadShape) (some dd)) (tCons (tVar 4) (tCons (tC (.ref T.c_BadShape)) tNil))) [some x, some (optV (fault d)), some (.int (i : Int)), u3, some (.ref a)] H' (.bl true) :=
        fun H5 e5 Qv qv => ⟨_, rfl, rfl, .ref T.c_BadShape, .ref T.c_BadShape, true, dd, _, rfl, .own _, T.ki_BadShape_BadShape, rfl, e5 dd _ ed.choose_spec, qv H5 (Ex.refl H5)⟩
      have t2 : Ev (tXf a (.ref T.c_BadShape) (some dd) T.c_BadShape "what" (tVar 4)) [some x, some (optV (fault d)), some (.int (i : Int)), u3, some (.ref a)] H' (.int f) :=
        fun H5 e5 Qv qv => ⟨_, rfl, rfl, rfl, dd, _, .int f, rfl, e5 dd _ ed.choose_spec, by rfl, qv H5 (Ex.refl H5)⟩
      have t3 := et_or (et_test (ev_isN (ev_var (σ := [some x, some (optV (fault d)), some (.int (i : Int)), u3, some (.ref a)]) (i := 1) (H := H') rfl))) fun _ => et_or (et_not (et_B t1)) fun _ => et_test (ev_neS (ev_show t2 (gd_int (K := K) (fault_small hf)) (by decide)) (ev_show (ev_var (i := 1) rfl) gf (by decide)))
      refine s_when (et_is t3 (b := false) ?_) (fun c => by cases c) (fun _ H5 e5 => k H5 e5)
      rw [optV_non, hf]
      simp
    have after : ∀ H', fault d = none → Ex H3 H' → ∀ (D : Ends), (∀ H4, Ex H' H4 → D.nx [some x, some (optV (fault d)), some (.int (i : Int)), some x, u4] H4) →
        tIfS (tOr (tTest (tOp rNotN (tVar 1) (tC .non))) (tTest (tOp rNe (tCB (rShow K) (tCons (tVar 3) tNil)) (tCB (rShow K) (tCons (tVar 0) tNil))))) (tRet (tC (.bl false))) tNext D [some x, some (optV (fault d)), some (.int (i : Int)), some x, u4] H' := fun H' hf e4 D k => by
      have t3 := et_or (et_test (ev_notN (ev_var (σ := [some x, some (optV (fault d)), some (.int (i : Int)), some x, u4]) (i := 1) (H := H') rfl))) fun _ => et_test (ev_neS (ev_show (ev_var (i := 3) rfl) (g3.ex e4) (by decide)) (ev_show (ev_var (i := 0) rfl) (g3.ex e4) (by decide)))
      refine s_when (et_is t3 (b := false) ?_) (fun c => by cases c) (fun _ H5 e5 => k H5 e5)
      rw [optV_non, hf]
      simp
    have ends : ∀ (c : Prop) [Decidable c] (A : Prop), A → (if c then A else A) := fun c _ A h => by split <;> exact h
    refine ends _ _ ?_
    refine body _ (fun f hf H4 dd e4 ed => ?_) _ (fun hf H4 e4 => ?_)
    · refine ⟨true, T.te_BadShape_Refused, fun _ a na => ?_, fun z => by cases z⟩
      refine suite f hf H4 dd e4 ed _ a fun H5 e5 => ?_
      exact ⟨_, _, _, rfl, (E3.trans e4).trans e5⟩
    · refine after H4 hf e4 _ fun H5 e5 => ?_
      exact ⟨_, _, _, rfl, (E3.trans e4).trans e5⟩
  · rintro σ' H' ⟨u2, u3, u4, rfl, e'⟩
    exact s_ret ev_c fun H2 e2 => q H2 (e'.trans e2)
theorem ok_law_thing_right (T : Txt K mg) : FnG P w K mg base CX0 6 T.f_law_thing_right T.fd_law_thing_right ["thing"] (sp_law_thing_right T) :=
  fnG_ok T.d_law_thing_right.F sc_law_thing_right (fun vs H Q E h => len_law_thing_right T h) fun cdv A outer s H vs Q E hg hr h => ⟨t_law_thing_right T, by
    exact (pss_cons (ps_set (i := 1) sc_law_thing_right.nd rfl (Or.inl rfl) (pe_call (ok_law_fault T) (hr.mono (by decide)) (by rfl) T.d_law_fault.g T.d_law_fault.F.kp T.d_law_fault.b .nil pass0 (pa_cons (pv 0) pa_nil))) (pss_cons (ps_for PassesOwn.never rfl (pi_range1 (by rfl) T.m_range (pa_cons pe_int pa_nil)) (pg_name (i := 2) sc_law_thing_right.nd rfl (Or.inl rfl)) (pss_cons (ps_if (pt_cmpR op_ne (pe_callB (call_show hg hr.units) (by rfl) T.m_repr (by decide +kernel) (pa_cons (pe_call (ok_is_shape T) (hr.mono (by decide)) (by rfl) T.d_is_shape.g T.d_is_shape.F.kp T.d_is_shape.b .nil pass0 (pa_cons (pv 0) pa_nil)) pa_nil)) (pe_callB (call_show hg hr.units) (by rfl) T.m_repr (by decide +kernel) (pa_cons (pe_cmpR op_isN (pv 1) pe_non (nomark _)) pa_nil)) (nomark _)) (pss_one (ps_ret pe_bl)) pss_nil) (pss_one (ps_try_as (i := 4) (tb := fun W => (tSeq (tAsg (tIf (tTest (tOp rEq (tVar 2) (tC (.int 0)))) (tCallS (sp_made_shape T) (WE W) (tCons (tVar 0) tNil)) (tCallS (sp_made_shape T) (WE W) (tCons (tVar 0) tNil))) (gName 3)) (tIfS (tOr (tTest (tOp rNotN (tVar 1) (tC .non))) (tTest (tOp rNe (tCB (rShow K) (tCons (tVar 3) tNil)) (tCB (rShow K) (tCons (tVar 0) tNil))))) (tRet (tC (.bl false))) tNext))) (ts := fun a cls d => (tIfS (tOr (tTest (tOp rIsN (tVar 1) (tC .non))) (tOr (tNot (tB (tCB (rIsD K T.c_BadShape a cls d) (tCons (tVar 4) (tCons (tC (.ref T.c_BadShape)) tNil))))) (tTest (tOp rNe (tCB (rShow K) (tCons (tXf a cls d T.c_BadShape "what" (tVar 4)) tNil)) (tCB (rShow K) (tCons (tVar 1) tNil)))))) (tRet (tC (.bl false))) tNext)) (Wout := fun _ _ _ _ => False) rfl rfl sc_law_thing_right.nd rfl rfl ⟨rfl, by decide, Or.inl T.g_Refused⟩ L2.takes0 (fun W pn xe tk xp => (pss_cons (ps_set (i := 3) sc_law_thing_right.nd rfl (Or.inl rfl) (pe_ifExp (pt_cmpR op_eq (pv 2) pe_int (nomark _)) (pe_callS (ok_made_shape T) (hr.mono (by decide)) (by rfl) T.d_made_shape.g T.d_made_shape.F.kp T.d_made_shape.b (fun σ => passAt tk σ) (pa_cons (pv 0) pa_nil)) (pe_callKS (ok_made_shape T) (hr.mono (by decide)) (by rfl) T.d_made_shape.g T.d_made_shape.F.kp T.k_made_shape (fun σ => passAt tk σ) (pk_cons (pv 0) pk_nil)))) (pss_one (ps_if (PW.pt (pw_or (pt_cmpR op_notN (pv 1) pe_non (nomark _)) (pw_or1 (pt_cmpR op_ne (pe_callB (call_show hg hr.units) (by rfl) T.m_repr (by decide +kernel) (pa_cons (pv 3) pa_nil)) (pe_callB (call_show hg hr.units) (by rfl) T.m_repr (by decide +kernel) (pa_cons (pv 0) pa_nil)) (nomark _))))) (pss_one (ps_ret pe_bl)) pss_nil)))) (fun a oe cls d pn hz hf => (pss_one (ps_if (PW.pt (pw_or (pt_cmpR op_isN (pv 1) pe_non (nomark _)) (pw_or (pt_not (pt_val (pe_callB (call_isD T.e_BadShape hz hf) (by rfl) T.m_isinstance (by decide +kernel) (pa_cons (pv 4) (pa_cons (pe_glob (v := .ref T.c_BadShape) (by rfl) T.g_BadShape rfl) pa_nil))))) (pw_or1 (pt_cmpR op_ne (pe_callB (call_show hg hr.units) (by rfl) T.m_repr (by decide +kernel) (pa_cons (pe_xf T.x_BadShape T.n_BadShape_what.1 hz hf (pv 4)) pa_nil)) (pe_callB (call_show hg hr.units) (by rfl) T.m_repr (by decide +kernel) (pa_cons (pv 1) pa_nil)) (nomark _)))))) (pss_one (ps_ret pe_bl)) pss_nil))))))) (pss_one (ps_ret pe_bl)))), pure_law_thing_right T h⟩

end
end My


set_option maxHeartbeats 1000000
namespace My
open PySem PySem.Spec PyProof.Rows L2 Own
open Evl (Ex RetV)
section
variable {P : Program} {w : World} {K : PySem.W.Frag} {mg : Str → Option Value} {base : Heap}

open Evl
/-- the law's list of things -/
structure Told (K : PySem.W.Frag) (a l : Addr) (m : Nat) (H : Hp) : Prop where
  ne : l ≠ a
  all : ∃ xs, H l = some (.lst xs) ∧ xs.length ≤ m ∧ ∀ x ∈ xs, PDat K 4 x H
theorem Told.up {a l : Addr} {m : Nat} {H H' : Hp} (s : Src H a) (u : Up a H H') (t : Told K a l m H) : Told K a l m H' :=
  let ⟨ne, xs, h, hl, hp⟩ := t
  ⟨ne, xs, u.keep l _ ne h, hl, fun x hx => monoK_dat x _ _ (u.kp s) (hp x hx)⟩
def PBent (K : PySem.W.Frag) : VP := fun v H => ∃ t xs, v = .ref t ∧ Sev K H t xs
theorem sev_kp {H H' : Hp} {t : Addr} {xs : List V} (e : Kp H H') (h : Sev K H t xs) : Sev K H' t xs := ⟨e.sqT h.1, h.2.1, fun x hx => monoK_dat x _ _ e (h.2.2 x hx)⟩
theorem es_callBent (T : Txt K mg) {a : Addr} {σ : L2.St} {H : Hp} {s0 : Nat} {te tw : TE} {hi : Int} {E : XK} (e0 : σ[s0]? = some (some (.ref a))) (h : EvS a te σ H (fun v H => ∃ t xs, v = .ref t ∧ Shp K H t xs ∧ (hi = 6 → Tab K H xs)))
    (hw : EvS a tw σ H (PInt 0 hi)) (h6 : hi ≤ 6) : EvS a (tCall (sp_law_bent T) [] E (tCons (tVar s0) (tCons te (tCons tw tNil)))) σ H (PBent K) :=
  fun H1 u Q q => ⟨_, e0, h H1 u _ fun v H2 u2 ⟨t, xs, ev, sh, tb⟩ => hw H2 (u.trans u2) _ fun x H3 u3 ⟨w, ew, w0, w1⟩ => ⟨a, t, xs, w, by rw [ev, ew]; rfl, u3.src, sh.kp (u3.kp u2.src), w0, by omega, fun z => (tb (by omega)).kp (u3.kp u2.src),
    fun t' ys H4 u4 sv => q _ H4 ((u2.trans u3).trans u4) ⟨t', ys, rfl, sv⟩⟩⟩
def t_law (T : Txt K mg) : TS := (tSeq (tAsg (tLst (tCons (tTup (tCons (tC (.int 5)) (tCons (tC (.int 1)) (tCons (tC (.int 1)) (tCons (tC (.int 1)) (tCons (tC (.int 0)) (tCons (tC (.int 0)) (tCons (tTup tNil) tNil)))))))) (tCons (tTup (tCons (tC (.int 1000003)) (tCons (tC (.int 16)) (tCons (tC (.int 8)) (tCons (tC (.int 3)) (tCons (tC (.int 2)) (tCons (tC (.int 0)) (tCons (tOp (rTimes K) (tTup (tCons (tOp (rTimes K) (tTup (tCons (tC (.int 1000002)) tNil)) (tC (.int 8))) tNil)) (tC (.int 8))) tNil)))))))) (tCons (tTup (tCons (tC (.int 7)) (tCons (tC (.int 1)) (tCons (tC (.int 2)) (tCons (tC (.int 2)) (tCons (tC (.int 0)) (tCons (tC (.int 1)) (tCons (tTup (tCons (tTup (tCons (tC (.int 6)) (tCons (tC (.int 2)) tNil))) tNil)) tNil)))))))) tNil)))) (gName 1)) (tSeq (tAsg (tOp rCat (tVar 1) (tLst (tCons (tTup (tCons (tC (.int 7)) (tCons (tC (.int 1)) (tCons (tC (.int 2)) (tCons (tC (.int 3)) (tCons (tC (.int 0)) (tCons (tC (.int 0)) (tCons (tTup tNil) tNil)))))))) (tCons (tTup (tCons (tC (.int 7)) (tCons (tC (.int 1)) (tCons (tC (.int 2)) (tCons (tC (.int 2)) (tCons (tC (.int 1)) (tCons (tC (.int 1)) (tCons (tTup tNil) tNil)))))))) (tCons (tTup (tCons (tC (.int 7)) (tCons (tC (.int 1)) (tCons (tC (.int 2)) (tCons (tC (.int 2)) (tCons (tC (.int 0)) (tCons (tC (.int 0)) (tCons (tTup (tCons (tTup (tCons (tC (.int 7)) (tCons (tC (.int 0)) tNil))) tNil)) tNil)))))))) tNil))))) (gName 1)) (tSeq (tDrop (tBM K "list" rAppend (tVar 1) (tCons (tTup (tCons (tC (.int 4)) (tCons (tC (.int 0)) (tCons (tC (.int 0)) (tCons (tC (.int 0)) (tCons (tC (.int 9)) (tCons (tC (.int 9)) (tCons (tC .non) tNil)))))))) tNil))) (tSeq (tPar 2 3 (tCons (tCall (sp_law_pool T) [] E0 (tCons (tVar 0) (tCons (tC (.int 0)) tNil))) (tCons (tCall (sp_law_pool T) [] E0 (tCons (tVar 0) (tCons (tC (.int 1)) tNil))) tNil))) (tSeq (tAsg (tCall (sp_law_drawn_shape T) [] E0 (tCons (tVar 2) tNil)) (gName 4)) (tSeq (tFor (iRng1 (tCons (tC (.int 6)) tNil)) (gName 5) (tSeq (tAsg (tCall (sp_law_bent T) [] E0 (tCons (tVar 3) (tCons (tVar 4) (tCons (tCall (sp_law_take T) [] E0 (tCons (tVar 3) (tCons (tC (.int 7)) tNil))) tNil)))) (gName 6)) (tSeq (tIfS (tTest (tOp rEq (tCall (sp_law_take T) [] E0 (tCons (tVar 3) (tCons (tC (.int 2)) tNil))) (tC (.int 0)))) (tAsg (tCall (sp_law_bent T) [] E0 (tCons (tVar 3) (tCons (tOp (rCatA K) (tSl (rSlA K) (tVar 4) tNoPart (tPart (tC (.int 3)))) (tSl (rSlA K) (tVar 6) (tPart (tC (.int 3))) tNoPart)) (tCons (tCall (sp_law_take T) [] E0 (tCons (tVar 3) (tCons (tC (.int 3)) tNil))) tNil)))) (gName 6)) tNext) (tDrop (tBM K "list" rAppend (tVar 1) (tCons (tVar 6) tNil)))))) (tSeq (tAsg (tOp rCat (tVar 1) (tLst (tCons (tVar 4) (tCons (tC .non) (tCons (tTup tNil) (tCons (tSl (rSlA K) (tVar 4) tNoPart (tPart (tC (.int 6)))) (tCons (tOp (rCatA K) (tVar 4) (tTup (tCons (tC (.int 0)) tNil))) (tCons (tC (.str "shape")) (tCons (tC (.int 7)) (tCons (tTup (tCons (tVar 4) tNil)) tNil)))))))))) (gName 1)) (tRet (tOp (rEqD K) (tLc (iList K (tVar 1)) (gName 6) (tNot (tB (tGo (sp_law_thing_right T) (tCons (tVar 6) tNil)))) (tVar 6) [6]) (tLst tNil))))))))))

theorem pure_law (T : Txt K mg) {vs H Q} {E : XK} (h : sp_law K vs H Q E) : t_law T { nx := fun _ H' => Q .non H', rt := Q } (L2.start n_law vs) H := by
  obtain ⟨b, ns, rfl, hs, hl63, nolst, q⟩ := h
  have md : MonoK (PDat K 4) := monoK_dat
  have i0 : ∀ {i : Int} {σ : L2.St} {H : Hp}, i.natAbs < 2 ^ 64 → EvX (tC (.int i)) σ H (PDat K 2) := fun h => ex_dint h
  have m2 : MonoK (PDat K 2) := monoK_dat
  have m3 : MonoK (PDat K 1) := monoK_dat
  have m0 : MonoK (PDat K 0) := monoK_dat
  -- told = [..]
  refine sx_asg (ex_lst (n := 3) (P := PDat K 4)
    (xa_cons (ex_up (ex_dtup (n := 7) (k := 2) (xa_cons (i0 (by decide)) (xa_cons (i0 (by decide)) (xa_cons (i0 (by decide)) (xa_cons (i0 (by decide)) (xa_cons (i0 (by decide)) (xa_cons (i0 (by decide)) (xa_cons (ex_up (ex_dtup (k := 0) xa_nil (by decide)) (by decide)) xa_nil m2) m2) m2) m2) m2) m2) m2) (by decide)) (by decide))
    (xa_cons (ex_up (ex_dtup (n := 7) (k := 2) (xa_cons (i0 (by decide)) (xa_cons (i0 (by decide)) (xa_cons (i0 (by decide)) (xa_cons (i0 (by decide)) (xa_cons (i0 (by decide)) (xa_cons (i0 (by decide)) (xa_cons
      (ex_imp (ex_rep (P := PDat K 1) (ex_imp (ex_rep (P := PDat K 0) (ex_dint (by decide)) (by decide) (by decide) m0) fun _ _ p => tups_dat (by decide) p) (by decide) (by decide) m3) fun _ _ p => tups_dat (by decide) p) xa_nil m2) m2) m2) m2) m2) m2) m2) (by decide)) (by decide))
    (xa_cons (ex_up (ex_dtup (n := 7) (k := 2) (xa_cons (i0 (by decide)) (xa_cons (i0 (by decide)) (xa_cons (i0 (by decide)) (xa_cons (i0 (by decide)) (xa_cons (i0 (by decide)) (xa_cons (i0 (by decide)) (xa_cons
      (ex_dtup (n := 1) (k := 1) (xa_cons (ex_dtup (n := 2) (k := 0) (xa_cons (ex_dint (by decide)) (xa_cons (ex_dint (by decide)) xa_nil m0) m0) (by decide)) xa_nil m3) (by decide)) xa_nil m2) m2) m2) m2) m2) m2) m2) (by decide)) (by decide)) xa_nil md) md) md) (by decide) md) fun v1 H1 e1 p1 => ?_
  -- told = told + [..]
  refine sx_asg (ex_catL (k := 3) (ex_vl rfl p1 md) (ex_lst (n := 3) (P := PDat K 4)
    (xa_cons (ex_up (ex_dtup (n := 7) (k := 2) (xa_cons (i0 (by decide)) (xa_cons (i0 (by decide)) (xa_cons (i0 (by decide)) (xa_cons (i0 (by decide)) (xa_cons (i0 (by decide)) (xa_cons (i0 (by decide)) (xa_cons (ex_up (ex_dtup (k := 0) xa_nil (by decide)) (by decide)) xa_nil m2) m2) m2) m2) m2) m2) m2) (by decide)) (by decide))
    (xa_cons (ex_up (ex_dtup (n := 7) (k := 2) (xa_cons (i0 (by decide)) (xa_cons (i0 (by decide)) (xa_cons (i0 (by decide)) (xa_cons (i0 (by decide)) (xa_cons (i0 (by decide)) (xa_cons (i0 (by decide)) (xa_cons (ex_up (ex_dtup (k := 0) xa_nil (by decide)) (by decide)) xa_nil m2) m2) m2) m2) m2) m2) m2) (by decide)) (by decide))
    (xa_cons (ex_up (ex_dtup (n := 7) (k := 2) (xa_cons (i0 (by decide)) (xa_cons (i0 (by decide)) (xa_cons (i0 (by decide)) (xa_cons (i0 (by decide)) (xa_cons (i0 (by decide)) (xa_cons (i0 (by decide)) (xa_cons
      (ex_dtup (n := 1) (k := 1) (xa_cons (ex_dtup (n := 2) (k := 0) (xa_cons (ex_dint (by decide)) (xa_cons (ex_dint (by decide)) xa_nil m0) m0) (by decide)) xa_nil m3) (by decide)) xa_nil m2) m2) m2) m2) m2) m2) m2) (by decide)) (by decide)) xa_nil md) md) md) (by decide) md) md (by decide)) fun v2 H2 e2 ⟨lt, xs2, ev2, hx2, hl2, hp2⟩ => ?_
  subst ev2
  -- told.append(..)
  refine sx_app (P := PDat K 4) hx2 rfl (ex_up (ex_dtup (n := 7) (k := 2) (xa_cons (i0 (by decide)) (xa_cons (i0 (by decide)) (xa_cons (i0 (by decide)) (xa_cons (i0 (by decide)) (xa_cons (i0 (by decide)) (xa_cons (i0 (by decide)) (xa_cons ex_dnon xa_nil m2) m2) m2) m2) m2) m2) m2) (by decide)) (by decide)) (by omega) fun y H3 e3 py => ?_
  have h3l := e3 lt _ hx2
  have k3 : Kp H3 (upd H3 lt (.lst (xs2 ++ [y]))) := .lst h3l
  have T3 : ∃ xs, (upd H3 lt (.lst (xs2 ++ [y]))) lt = some (.lst xs) ∧ xs.length ≤ 7 ∧ ∀ x ∈ xs, PDat K 4 x (upd H3 lt (.lst (xs2 ++ [y]))) := ⟨_, upd_same, by rw [List.length_append, hl2]; exact Nat.le_refl 7, fun x hx => by
    rcases List.mem_append.mp hx with z | z
    · exact md x _ _ ((Kp.ex e3).trans k3) (hp2 x z)
    · rw [List.mem_singleton.mp z]
      exact md y _ _ k3 py⟩
  have hs3 : SqL K (upd H3 lt (.lst (xs2 ++ [y]))) b (ns.map V.int) := by
    rcases hs with (w | ⟨o, w⟩) | w
    · exact absurd w (nolst _)
    · have w3 := ((e1.trans e2).trans e3) b _ w
      have z : b ≠ lt := fun z => by
        rw [z, h3l] at w3
        cases w3
      exact .inl (.inr ⟨o, by rw [upd_ne z]; exact w3⟩)
    · exact .inr w
  -- source, second
  refine ⟨_, rfl, b, ns, 0, rfl, hs3, hl63, by decide, by decide, fun l1 H4 n1 e4 s1 => ⟨_, rfl, b, ns, 1, rfl, ex_l e4 hs3, hl63, by decide, by decide, fun l2 H5 n2 e5 s2 => ⟨_, _, rfl, ?_⟩⟩⟩
  have l12 : l2 ≠ l1 := fun z => by
    subst z
    obtain ⟨x, y, e, _⟩ := s1
    rw [n2] at e
    cases e
  have ltl2 : lt ≠ l2 := fun z => by
    subst z
    rw [e4 lt _ upd_same] at n2
    cases n2
  have ltl1 : lt ≠ l1 := fun z => by
    subst z
    rw [upd_same] at n1
    cases n1
  -- shape
  refine ⟨_, rfl, l1, rfl, s1.ex e5, fun t xs H6 u6 sh tb => ?_⟩
  have s6 : Src H6 l2 := let ⟨x, y, e, r⟩ := s2; ⟨x, y, u6.keep l2 _ l12 e, r⟩
  have T6 : Told K l2 lt 7 H6 := by
    obtain ⟨xs, h, hl, hp⟩ := T3
    have kk := (Kp.ex (e4.trans e5)).trans (u6.kp (s1.ex e5))
    exact ⟨ltl2, xs, u6.keep lt _ ltl1 ((e4.trans e5) lt _ h), hl, fun x hx => md x _ _ kk (hp x hx)⟩
  -- for turn in range(6)
  refine q_forR1 (ea_1 ev_c) (by decide) (fun i σ' H' => i ≤ 6 ∧ ∃ u5 u6', σ' = [some (.ref b), some (.ref lt), some (.ref l1), some (.ref l2), some (.ref t), u5, u6'] ∧ Src H' l2 ∧ Told K l2 lt (7 + i) H' ∧ Shp K H' t xs ∧ Tab K H' xs)
    (fun H7 e7 => ⟨by decide, none, none, rfl, s6.ex e7, T6.up s6 (.ex e7 s6), sh.kp (.ex e7), tb.kp (.ex e7)⟩) ?_ ?_
  · rintro i σ' H' hi ⟨_, u5, u6', rfl, s, td, sh, tb⟩
    refine ss_asg s (es_callBent T (hi := 6) rfl (es_var rfl fun H1 u => ⟨t, xs, rfl, sh.kp (u.kp s), fun _ => tb.kp (u.kp s)⟩) (es_take (lo := 7) (hi := 7) rfl (es_int (by decide) (by decide)) (by decide) (by decide)) (by decide)) fun v7 H7 u7 ⟨t7, ys, ev7, sv⟩ => ?_
    subst ev7
    -- the second bending, or none
    have tk : EvS l2 (tCall (sp_law_take T) [] E0 (tCons (tVar 3) (tCons (tC (.int 2)) tNil))) [some (.ref b), some (.ref lt), some (.ref l1), some (.ref l2), some (.ref t), some (.int (i : Int)), some (.ref t7)] H7 (PInt 0 1) := es_take (lo := 2) (hi := 2) rfl (es_int (by decide) (by decide)) (by decide) (by decide)
    refine q_split (fun σ' H' => ∃ t8 ys, σ' = [some (.ref b), some (.ref lt), some (.ref l1), some (.ref l2), some (.ref t), some (.int (i : Int)), some (.ref t8)] ∧ Up l2 H7 H' ∧ Sev K H' t8 ys) ?_ (fun R => ?_)
    · rintro σ' H8 ⟨t8, ys8, rfl, u8, sv8⟩
      have u := u7.trans u8
      obtain ⟨ne, items, hI, hL, hP⟩ := td.up s u
      refine ss_app (P := PDat K 4) u8.src ne hI rfl (es_var rfl fun H9 u9 => ?_) (by omega) fun y H9 u9 py => ?_
      · exact dat_up (by decide) (tups_dat (n := 7) (by decide) (let z := sev_kp (u9.kp u8.src) sv8; ⟨t8, ys8, rfl, z.1, Nat.le_of_eq z.2.1, z.2.2⟩))
      · have h9 := u9.keep lt _ ne hI
        have kl : Kp H9 (upd H9 lt (.lst (items ++ [y]))) := .lst h9
        have kk := ((u.kp s).trans (u9.kp u8.src)).trans kl
        refine ⟨by omega, _, _, rfl, ?_, ⟨ne, _, upd_same, by rw [List.length_append]; show items.length + 1 ≤ 7 + (i + 1); omega, fun x hx => ?_⟩, sh.kp kk, tb.kp kk⟩
        · obtain ⟨x, y, e, r⟩ := u9.src
          exact ⟨x, y, by rw [upd_ne ne.symm]; exact e, r⟩
        · rcases List.mem_append.mp hx with z | z
          · exact md x _ _ ((u9.kp u8.src).trans kl) (hP x z)
          · rw [List.mem_singleton.mp z]
            exact md y _ _ kl py
    · refine tk H7 (.refl u7.src) _ fun z H8 u8 ⟨w, ew, w0, w1⟩ => ?_
      subst ew
      refine ⟨rfl, _, rfl, ?_⟩
      by_cases c : V.int w = V.int 0
      · rw [decide_eq_true c]
        refine iteT ?_
        have u := u7.trans u8
        have sh8 := sh.kp (u.kp s)
        have sv8 := sev_kp (u8.kp u7.src) sv
        have te : EvS l2 (tOp (rCatA K) (tSl (rSlA K) (tVar 4) tNoPart (tPart (tC (.int 3)))) (tSl (rSlA K) (tVar 6) (tPart (tC (.int 3))) tNoPart)) [some (.ref b), some (.ref lt), some (.ref l1), some (.ref l2), some (.ref t), some (.int (i : Int)), some (.ref t7)] H8
            (fun v H => ∃ t xs, v = .ref t ∧ Shp K H t xs ∧ ((2 : Int) = 6 → Tab K H xs)) := fun H1 u1 Q qq => by
          have lo := cut_lo (xs := xs) (w := 3) (by rw [sh8.2.1]; decide)
          have hi := cut_hi (xs := ys) (w := 3) (by rw [sv8.2.1]; decide)
          have l1 : (xs.take 3).length = 3 := by rw [List.length_take, sh8.2.1]; rfl
          have l2 : (ys.drop 3).length = 4 := by rw [List.length_drop, sv8.2.1]
          refine es_catX (es_cutX (lo := none) (hi := some 3) (es_var (i := 4) rfl fun H9 u9 => ⟨t, rfl, u9.sqT u8.src sh8.1⟩) cp_none (cp_some (es_int (Int.le_refl _) (Int.le_refl _)))) (es_cutX (lo := some 3) (hi := none) (es_var (i := 6) rfl fun H9 u9 => ⟨t7, rfl, u9.sqT u8.src sv8.1⟩) (cp_some (es_int (Int.le_refl _) (Int.le_refl _))) cp_none)
            (by have := cutV_length xs none (some 3); have := cutV_length ys (some 3) none; have := sh8.2.1; have := sv8.2.1; omega) H1 u1 Q fun v H2 u2 ⟨t9, e9, h9⟩ => ?_
          rw [show cutV xs none (some 3) = xs.take 3 from lo, show cutV ys (some 3) none = ys.drop 3 from hi] at h9
          have k9 := (u1.trans u2).kp u8.src
          obtain ⟨_, _, hd, ⟨p, hp, p1, p2⟩, n, hn, n1, n2⟩ := sh8
          refine qq v H2 u2 ⟨t9, _, e9, ⟨h9, by rw [List.length_append, l1, l2], fun x hx => ?_, ⟨p, ?_, p1, p2⟩, n, ?_, n1, n2⟩, fun z => by omega⟩
          · rcases List.mem_append.mp hx with z | z
            · exact monoK_dat x _ _ k9 (hd x (List.mem_of_mem_take z))
            · exact monoK_dat x _ _ k9 (sv8.2.2 x (List.mem_of_mem_drop z))
          · rw [List.getElem?_append_left (by rw [l1]; decide), List.getElem?_take_of_lt (by decide)]
            exact hp
          · rw [List.getElem?_append_left (by rw [l1]; decide), List.getElem?_take_of_lt (by decide)]
            exact hn
        refine ss_last u8.src (es_callBent T (hi := 2) rfl te (es_take (lo := 3) (hi := 3) rfl (es_int (by decide) (by decide)) (by decide) (by decide)) (by decide)) fun v9 H9 u9 ⟨t8, ys8, e8, sv9⟩ => ?_
        rw [e8]
        exact R _ _ ⟨t8, ys8, rfl, u8.trans u9, sv9⟩
      · rw [decide_eq_false c]
        exact iteF (R _ _ ⟨t7, ys, rfl, u8, sev_kp (u8.kp u7.src) sv⟩)
  · rintro σ' H' ⟨_, u5, u6', rfl, s, ⟨ne, items, hI, hL, hP⟩, sh, tb⟩
    have mm := md.up (a := l2)
    have st : ∀ {σ : L2.St}, σ[4]? = some (some (.ref t)) → EvS l2 (tVar 4) σ H' (PTs K 7 (PDat K 2)) := fun e => es_var e fun H1 u => let z := sh.kp (u.kp s); ⟨t, xs, rfl, z.1, Nat.le_of_eq z.2.1, z.2.2.1⟩
    refine ss_asg s (es_catL (n := items.length) (k := 8) (P := PDat K 4) (es_var rfl fun H1 u => ⟨lt, items, rfl, ne, u.keep lt _ ne hI, rfl, fun x hx => md x _ _ (u.kp s) (hP x hx)⟩)
      (es_lst (ea_consS (es_dup (es_dtup (st rfl) (by decide)) (by decide)) (ea_consS es_dnon (ea_consS (es_dup (es_dtup (es_tups (m := 1) (P := PDat K 0) ea_nilS (by decide) (by decide) monoK_dat) (by decide)) (by decide))
        (ea_consS (es_dup (es_dtup (es_slice (st rfl) ep_none (ep_some (es_int (lo := 6) (hi := 6) (by decide) (by decide))) monoK_dat) (by decide)) (by decide))
        (ea_consS (es_dup (es_dtup (es_cat (st rfl) (es_tups (m := 1) (ea_consS (es_dint (by decide)) ea_nilS (monoK_dat (k := 2)).up) (by decide) (by decide) monoK_dat) monoK_dat (by decide)) (by decide)) (by decide))
        (ea_consS (es_dstr (by decide +kernel)) (ea_consS (es_dint (by decide)) (ea_consS (es_dtup (es_tups (m := 1) (P := PDat K 3) (ea_consS (es_dtup (st rfl) (by decide)) ea_nilS monoK_dat.up) (by decide) (by decide) monoK_dat) (by decide)) ea_nilS mm) mm) mm) mm) mm) mm) mm) mm) (by decide) mm) md (by omega)) fun v9 H9 u9 ⟨lb, zs, ev9, nb, hz, hlz, hpz⟩ => ?_
    subst ev9
    have lc : EvL (tLc (iList K (tVar 1)) (gName 6) (tNot (tB (tGo (sp_law_thing_right T) (tCons (tVar 6) tNil)))) (tVar 6) [6]) [some (.ref b), some (.ref lb), some (.ref l1), some (.ref l2), some (.ref t), u5, u6'] H9 (given zs.length (fun _ => false) (fun i => zs.getD i .non)) := by
      refine el_lcL _ _ (ev_var rfl) (sq_of hz) (by omega) (fun x => rfl) (fun i x H1 e hx => ?_) (fun i x H1 e hx hf => by cases hf)
      obtain ⟨d, g⟩ := hpz x (List.mem_of_getElem? hx)
      have ev : Ev (tGo (sp_law_thing_right T) (tCons (tVar 6) tNil)) ((wipe [some (.ref b), some (.ref lb), some (.ref l1), some (.ref l2), some (.ref t), u5, u6'] [6]).set 6 (some x)) H1 (.bl true) := fun H2 e2 Q qq => ⟨x, rfl, x, d, rfl, (g.ex e).ex e2, fun H3 e3 => qq H3 e3⟩
      exact et_is (et_not (et_B ev)) rfl
    have none_ : given zs.length (fun _ => false) (fun i => zs.getD i V.non) = [] := by
      unfold given
      simp
    rw [none_] at lc
    exact s_ret (ev_eqNil (k := 4) (by decide) lc .nil) fun H10 e10 => q H10
theorem len_law (T : Txt K mg) {vs H Q E} (h : sp_law K vs H Q E) : vs.length = 1 := by obtain ⟨_, _, rfl, _⟩ := h; rfl
theorem ok_law (T : Txt K mg) : FnG P w K mg base CX0 7 T.f_law T.fd_law ["script"] (sp_law K) :=
  fnG_ok T.d_law.F sc_law (fun vs H Q E h => len_law T h) fun cdv A outer s H vs Q E hg hr h => ⟨t_law T, by
    exact (pss_cons (ps_set (i := 1) sc_law.nd rfl (Or.inl rfl) (pe_lst (pa_cons (pe_tup (pa_cons pe_int (pa_cons pe_int (pa_cons pe_int (pa_cons pe_int (pa_cons pe_int (pa_cons pe_int (pa_cons (pe_tup pa_nil) pa_nil)))))))) (pa_cons (pe_tup (pa_cons pe_int (pa_cons pe_int (pa_cons pe_int (pa_cons pe_int (pa_cons pe_int (pa_cons pe_int (pa_cons (pe_op op_times (pe_tup (pa_cons (pe_op op_times (pe_tup (pa_cons pe_int pa_nil)) pe_int) pa_nil)) pe_int) pa_nil)))))))) (pa_cons (pe_tup (pa_cons pe_int (pa_cons pe_int (pa_cons pe_int (pa_cons pe_int (pa_cons pe_int (pa_cons pe_int (pa_cons (pe_tup (pa_cons (pe_tup (pa_cons pe_int (pa_cons pe_int pa_nil))) pa_nil)) pa_nil)))))))) pa_nil))))) (pss_cons (ps_set (i := 1) sc_law.nd rfl (Or.inl rfl) (pe_op op_cat (pv 1) (pe_lst (pa_cons (pe_tup (pa_cons pe_int (pa_cons pe_int (pa_cons pe_int (pa_cons pe_int (pa_cons pe_int (pa_cons pe_int (pa_cons (pe_tup pa_nil) pa_nil)))))))) (pa_cons (pe_tup (pa_cons pe_int (pa_cons pe_int (pa_cons pe_int (pa_cons pe_int (pa_cons pe_int (pa_cons pe_int (pa_cons (pe_tup pa_nil) pa_nil)))))))) (pa_cons (pe_tup (pa_cons pe_int (pa_cons pe_int (pa_cons pe_int (pa_cons pe_int (pa_cons pe_int (pa_cons pe_int (pa_cons (pe_tup (pa_cons (pe_tup (pa_cons pe_int (pa_cons pe_int pa_nil))) pa_nil)) pa_nil)))))))) pa_nil)))))) (pss_cons (ps_expr (pe_bm PySem.F.plainAttrs_list PySem.F.slot_list_append PySem.F.type_list_append mt_append (pv 1) (pa_cons (pe_tup (pa_cons pe_int (pa_cons pe_int (pa_cons pe_int (pa_cons pe_int (pa_cons pe_int (pa_cons pe_int (pa_cons pe_non pa_nil)))))))) pa_nil))) (pss_cons (ps_par (i := 2) (j := 3) rfl sc_law.nd rfl rfl (by decide) rfl rfl (pa_cons (pe_call (ok_law_pool T) (hr.mono (by decide)) (by rfl) T.d_law_pool.g T.d_law_pool.F.kp T.d_law_pool.b .nil pass0 (pa_cons (pv 0) (pa_cons pe_int pa_nil))) (pa_cons (pe_call (ok_law_pool T) (hr.mono (by decide)) (by rfl) T.d_law_pool.g T.d_law_pool.F.kp T.d_law_pool.b .nil pass0 (pa_cons (pv 0) (pa_cons pe_int pa_nil))) pa_nil)) (by rfl)) (pss_cons (ps_set (i := 4) sc_law.nd rfl (Or.inl rfl) (pe_call (ok_law_drawn_shape T) (hr.mono (by decide)) (by rfl) T.d_law_drawn_shape.g T.d_law_drawn_shape.F.kp T.d_law_drawn_shape.b .nil pass0 (pa_cons (pv 2) pa_nil))) (pss_cons (ps_for PassesOwn.never rfl (pi_range1 (by rfl) T.m_range (pa_cons pe_int pa_nil)) (pg_name (i := 5) sc_law.nd rfl (Or.inl rfl)) (pss_cons (ps_set (i := 6) sc_law.nd rfl (Or.inl rfl) (pe_call (ok_law_bent T) (hr.mono (by decide)) (by rfl) T.d_law_bent.g T.d_law_bent.F.kp T.d_law_bent.b .nil pass0 (pa_cons (pv 3) (pa_cons (pv 4) (pa_cons (pe_call (ok_law_take T) (hr.mono (by decide)) (by rfl) T.d_law_take.g T.d_law_take.F.kp T.d_law_take.b .nil pass0 (pa_cons (pv 3) (pa_cons pe_int pa_nil))) pa_nil))))) (pss_cons (ps_if (pt_cmpR op_eq (pe_call (ok_law_take T) (hr.mono (by decide)) (by rfl) T.d_law_take.g T.d_law_take.F.kp T.d_law_take.b .nil pass0 (pa_cons (pv 3) (pa_cons pe_int pa_nil))) pe_int (nomark _)) (pss_one (ps_set (i := 6) sc_law.nd rfl (Or.inl rfl) (pe_call (ok_law_bent T) (hr.mono (by decide)) (by rfl) T.d_law_bent.g T.d_law_bent.F.kp T.d_law_bent.b .nil pass0 (pa_cons (pv 3) (pa_cons (pe_op op_catA (pe_slice sl_tupA (pv 4) po_none (po_some pe_int)) (pe_slice sl_tupA (pv 6) (po_some pe_int) po_none)) (pa_cons (pe_call (ok_law_take T) (hr.mono (by decide)) (by rfl) T.d_law_take.g T.d_law_take.F.kp T.d_law_take.b .nil pass0 (pa_cons (pv 3) (pa_cons pe_int pa_nil))) pa_nil)))))) pss_nil) (pss_one (ps_expr (pe_bm PySem.F.plainAttrs_list PySem.F.slot_list_append PySem.F.type_list_append mt_append (pv 1) (pa_cons (pv 6) pa_nil))))))) (pss_cons (ps_set (i := 1) sc_law.nd rfl (Or.inl rfl) (pe_op op_cat (pv 1) (pe_lst (pa_cons (pv 4) (pa_cons pe_non (pa_cons (pe_tup pa_nil) (pa_cons (pe_slice sl_tupA (pv 4) po_none (po_some pe_int)) (pa_cons (pe_op op_catA (pv 4) (pe_tup (pa_cons pe_int pa_nil))) (pa_cons pe_str (pa_cons pe_int (pa_cons (pe_tup (pa_cons (pv 4) pa_nil)) pa_nil))))))))))) (pss_one (ps_ret (pe_cmpR (op_eqD hr.units) (pe_lc (own := [("thing", 6)]) (g := (gName 6)) (tt := (tNot (tB (tGo (sp_law_thing_right T) (tCons (tVar 6) tNil))))) (te := (tVar 6)) rfl sc_law.nd (pi_list (pv 1)) (blkOk_by (own := [("thing", 6)]) (N := n_law) (sc := defScope s_law) (by decide +kernel)) (fun _ _ _ _ _ => (pg_name (i := 6) sc_law.nd rfl (Or.inl rfl))) (fun _ _ _ _ _ => pts_one (pt_not (pt_val (pe_callG (ok_law_thing_right T) hg (hr.mono (by decide)) (by rfl) T.d_law_thing_right.g T.d_law_thing_right.F.kp T.d_law_thing_right.b pass0 (pa_cons (pv 6) pa_nil))))) (fun _ _ _ _ _ => (pv 6))) (pe_lst pa_nil) (nomark _))))))))))), pure_law T h⟩

end
end My


namespace My
open PySem PySem.Spec PyProof.Rows L2 Own
theorem all_mk {P : Program} {w : World} {K : PySem.W.Frag} {h : Heap} {mg : Str → Option Value} {fa : Addr} (X : K.In h) (G : h.Ns mainGlobals mg) (hfa : mg "law" = some (.ref fa))
    {f0 : Addr} {od0 an0 : Option Addr} {sl0 : Array (Option Value)} {oc0 kV0 dc0 pm0 ct0 : Value} {cd0 : Value}
    (a0 : PySem.W.nsIn K mainGlobals "number_within" = some (some (.ref f0))) (l0 : K.lookup f0 = some ⟨oc0, od0, .func (PySem.W.fnOf "number_within" "number_within" (defArgs s_number_within) (defBody s_number_within) (defScope s_number_within) .none kV0 dc0 pm0 an0 cd0 ct0), sl0⟩) (c0 : PySem.W.codeIn K cd0 "number_within" = true) (k0 : PySem.W.keepIn K (.ref f0) = true)
    {f1 : Addr} {od1 an1 : Option Addr} {sl1 : Array (Option Value)} {oc1 kV1 dc1 pm1 ct1 : Value} {cd1 : Value}
    (a1 : PySem.W.nsIn K mainGlobals "tuple_of" = some (some (.ref f1))) (l1 : K.lookup f1 = some ⟨oc1, od1, .func (PySem.W.fnOf "tuple_of" "tuple_of" (defArgs s_tuple_of) (defBody s_tuple_of) (defScope s_tuple_of) .none kV1 dc1 pm1 an1 cd1 ct1), sl1⟩) (c1 : PySem.W.codeIn K cd1 "tuple_of" = true) (k1 : PySem.W.keepIn K (.ref f1) = true)
    {f2 : Addr} {od2 an2 : Option Addr} {sl2 : Array (Option Value)} {oc2 kV2 dc2 pm2 ct2 : Value} {cd2 : Value}
    (a2 : PySem.W.nsIn K mainGlobals "is_prime" = some (some (.ref f2))) (l2 : K.lookup f2 = some ⟨oc2, od2, .func (PySem.W.fnOf "is_prime" "is_prime" (defArgs s_is_prime) (defBody s_is_prime) (defScope s_is_prime) .none kV2 dc2 pm2 an2 cd2 ct2), sl2⟩) (c2 : PySem.W.codeIn K cd2 "is_prime" = true) (k2 : PySem.W.keepIn K (.ref f2) = true)
    {f3 : Addr} {od3 an3 : Option Addr} {sl3 : Array (Option Value)} {oc3 kV3 dc3 pm3 ct3 : Value} {cd3 : Value}
    (a3 : PySem.W.nsIn K mainGlobals "made_shape" = some (some (.ref f3))) (l3 : K.lookup f3 = some ⟨oc3, od3, .func (PySem.W.fnOf "made_shape" "made_shape" (defArgs s_made_shape) (defBody s_made_shape) (defScope s_made_shape) .none kV3 dc3 pm3 an3 cd3 ct3), sl3⟩) (c3 : PySem.W.codeIn K cd3 "made_shape" = true) (k3 : PySem.W.keepIn K (.ref f3) = true)
    {f4 : Addr} {od4 an4 : Option Addr} {sl4 : Array (Option Value)} {oc4 kV4 dc4 pm4 ct4 : Value} {cd4 : Value}
    (a4 : PySem.W.nsIn K mainGlobals "is_shape" = some (some (.ref f4))) (l4 : K.lookup f4 = some ⟨oc4, od4, .func (PySem.W.fnOf "is_shape" "is_shape" (defArgs s_is_shape) (defBody s_is_shape) (defScope s_is_shape) .none kV4 dc4 pm4 an4 cd4 ct4), sl4⟩) (c4 : PySem.W.codeIn K cd4 "is_shape" = true) (k4 : PySem.W.keepIn K (.ref f4) = true)
    {f5 : Addr} {od5 an5 : Option Addr} {sl5 : Array (Option Value)} {oc5 kV5 dc5 pm5 ct5 : Value} {cd5 : Value}
    (a5 : PySem.W.nsIn K mainGlobals "shape_fault" = some (some (.ref f5))) (l5 : K.lookup f5 = some ⟨oc5, od5, .func (PySem.W.fnOf "shape_fault" "shape_fault" (defArgs s_shape_fault) (defBody s_shape_fault) (defScope s_shape_fault) .none kV5 dc5 pm5 an5 cd5 ct5), sl5⟩) (c5 : PySem.W.codeIn K cd5 "shape_fault" = true) (k5 : PySem.W.keepIn K (.ref f5) = true)
    {f6 : Addr} {od6 an6 : Option Addr} {sl6 : Array (Option Value)} {oc6 kV6 dc6 pm6 ct6 : Value} {cd6 : Value}
    (a6 : PySem.W.nsIn K mainGlobals "table_fits" = some (some (.ref f6))) (l6 : K.lookup f6 = some ⟨oc6, od6, .func (PySem.W.fnOf "table_fits" "table_fits" (defArgs s_table_fits) (defBody s_table_fits) (defScope s_table_fits) .none kV6 dc6 pm6 an6 cd6 ct6), sl6⟩) (c6 : PySem.W.codeIn K cd6 "table_fits" = true) (k6 : PySem.W.keepIn K (.ref f6) = true)
    {f7 : Addr} {od7 an7 : Option Addr} {sl7 : Array (Option Value)} {oc7 kV7 dc7 pm7 ct7 : Value} {cd7 : Value}
    (a7 : PySem.W.nsIn K mainGlobals "numbers_fit" = some (some (.ref f7))) (l7 : K.lookup f7 = some ⟨oc7, od7, .func (PySem.W.fnOf "numbers_fit" "numbers_fit" (defArgs s_numbers_fit) (defBody s_numbers_fit) (defScope s_numbers_fit) .none kV7 dc7 pm7 an7 cd7 ct7), sl7⟩) (c7 : PySem.W.codeIn K cd7 "numbers_fit" = true) (k7 : PySem.W.keepIn K (.ref f7) = true)
    {f8 : Addr} {od8 an8 : Option Addr} {sl8 : Array (Option Value)} {oc8 kV8 dc8 pm8 ct8 : Value} {cd8 : Value}
    (a8 : PySem.W.nsIn K mainGlobals "_law_pool" = some (some (.ref f8))) (l8 : K.lookup f8 = some ⟨oc8, od8, .func (PySem.W.fnOf "_law_pool" "_law_pool" (defArgs s_law_pool) (defBody s_law_pool) (defScope s_law_pool) .none kV8 dc8 pm8 an8 cd8 ct8), sl8⟩) (c8 : PySem.W.codeIn K cd8 "_law_pool" = true) (k8 : PySem.W.keepIn K (.ref f8) = true)
    {f9 : Addr} {od9 an9 : Option Addr} {sl9 : Array (Option Value)} {oc9 kV9 dc9 pm9 ct9 : Value} {cd9 : Value}
    (a9 : PySem.W.nsIn K mainGlobals "_law_take" = some (some (.ref f9))) (l9 : K.lookup f9 = some ⟨oc9, od9, .func (PySem.W.fnOf "_law_take" "_law_take" (defArgs s_law_take) (defBody s_law_take) (defScope s_law_take) .none kV9 dc9 pm9 an9 cd9 ct9), sl9⟩) (c9 : PySem.W.codeIn K cd9 "_law_take" = true) (k9 : PySem.W.keepIn K (.ref f9) = true)
    {f10 : Addr} {od10 an10 : Option Addr} {sl10 : Array (Option Value)} {oc10 kV10 dc10 pm10 ct10 : Value} {cd10 : Value}
    (a10 : PySem.W.nsIn K mainGlobals "_law_one" = some (some (.ref f10))) (l10 : K.lookup f10 = some ⟨oc10, od10, .func (PySem.W.fnOf "_law_one" "_law_one" (defArgs s_law_one) (defBody s_law_one) (defScope s_law_one) .none kV10 dc10 pm10 an10 cd10 ct10), sl10⟩) (c10 : PySem.W.codeIn K cd10 "_law_one" = true) (k10 : PySem.W.keepIn K (.ref f10) = true)
    {f11 : Addr} {od11 an11 : Option Addr} {sl11 : Array (Option Value)} {oc11 kV11 dc11 pm11 ct11 : Value} {cd11 : Value}
    (a11 : PySem.W.nsIn K mainGlobals "_law_is_number" = some (some (.ref f11))) (l11 : K.lookup f11 = some ⟨oc11, od11, .func (PySem.W.fnOf "_law_is_number" "_law_is_number" (defArgs s_law_is_number) (defBody s_law_is_number) (defScope s_law_is_number) .none kV11 dc11 pm11 an11 cd11 ct11), sl11⟩) (c11 : PySem.W.codeIn K cd11 "_law_is_number" = true) (k11 : PySem.W.keepIn K (.ref f11) = true)
    {f12 : Addr} {od12 an12 : Option Addr} {sl12 : Array (Option Value)} {oc12 kV12 dc12 pm12 ct12 : Value} {cd12 : Value}
    (a12 : PySem.W.nsIn K mainGlobals "_law_is_prime" = some (some (.ref f12))) (l12 : K.lookup f12 = some ⟨oc12, od12, .func (PySem.W.fnOf "_law_is_prime" "_law_is_prime" (defArgs s_law_is_prime) (defBody s_law_is_prime) (defScope s_law_is_prime) .none kV12 dc12 pm12 an12 cd12 ct12), sl12⟩) (c12 : PySem.W.codeIn K cd12 "_law_is_prime" = true) (k12 : PySem.W.keepIn K (.ref f12) = true)
    {f13 : Addr} {od13 an13 : Option Addr} {sl13 : Array (Option Value)} {oc13 kV13 dc13 pm13 ct13 : Value} {cd13 : Value}
    (a13 : PySem.W.nsIn K mainGlobals "_law_is_table" = some (some (.ref f13))) (l13 : K.lookup f13 = some ⟨oc13, od13, .func (PySem.W.fnOf "_law_is_table" "_law_is_table" (defArgs s_law_is_table) (defBody s_law_is_table) (defScope s_law_is_table) .none kV13 dc13 pm13 an13 cd13 ct13), sl13⟩) (c13 : PySem.W.codeIn K cd13 "_law_is_table" = true) (k13 : PySem.W.keepIn K (.ref f13) = true)
    {f14 : Addr} {od14 an14 : Option Addr} {sl14 : Array (Option Value)} {oc14 kV14 dc14 pm14 ct14 : Value} {cd14 : Value}
    (a14 : PySem.W.nsIn K mainGlobals "_law_fault" = some (some (.ref f14))) (l14 : K.lookup f14 = some ⟨oc14, od14, .func (PySem.W.fnOf "_law_fault" "_law_fault" (defArgs s_law_fault) (defBody s_law_fault) (defScope s_law_fault) .none kV14 dc14 pm14 an14 cd14 ct14), sl14⟩) (c14 : PySem.W.codeIn K cd14 "_law_fault" = true) (k14 : PySem.W.keepIn K (.ref f14) = true)
    {f15 : Addr} {od15 an15 : Option Addr} {sl15 : Array (Option Value)} {oc15 kV15 dc15 pm15 ct15 : Value} {cd15 : Value}
    (a15 : PySem.W.nsIn K mainGlobals "_law_thing_right" = some (some (.ref f15))) (l15 : K.lookup f15 = some ⟨oc15, od15, .func (PySem.W.fnOf "_law_thing_right" "_law_thing_right" (defArgs s_law_thing_right) (defBody s_law_thing_right) (defScope s_law_thing_right) .none kV15 dc15 pm15 an15 cd15 ct15), sl15⟩) (c15 : PySem.W.codeIn K cd15 "_law_thing_right" = true) (k15 : PySem.W.keepIn K (.ref f15) = true)
    {f16 : Addr} {od16 an16 : Option Addr} {sl16 : Array (Option Value)} {oc16 kV16 dc16 pm16 ct16 : Value} {cd16 : Value}
    (a16 : PySem.W.nsIn K mainGlobals "_law_drawn_prime" = some (some (.ref f16))) (l16 : K.lookup f16 = some ⟨oc16, od16, .func (PySem.W.fnOf "_law_drawn_prime" "_law_drawn_prime" (defArgs s_law_drawn_prime) (defBody s_law_drawn_prime) (defScope s_law_drawn_prime) .none kV16 dc16 pm16 an16 cd16 ct16), sl16⟩) (c16 : PySem.W.codeIn K cd16 "_law_drawn_prime" = true) (k16 : PySem.W.keepIn K (.ref f16) = true)
    {f17 : Addr} {od17 an17 : Option Addr} {sl17 : Array (Option Value)} {oc17 kV17 dc17 pm17 ct17 : Value} {cd17 : Value}
    (a17 : PySem.W.nsIn K mainGlobals "_law_drawn_shape" = some (some (.ref f17))) (l17 : K.lookup f17 = some ⟨oc17, od17, .func (PySem.W.fnOf "_law_drawn_shape" "_law_drawn_shape" (defArgs s_law_drawn_shape) (defBody s_law_drawn_shape) (defScope s_law_drawn_shape) .none kV17 dc17 pm17 an17 cd17 ct17), sl17⟩) (c17 : PySem.W.codeIn K cd17 "_law_drawn_shape" = true) (k17 : PySem.W.keepIn K (.ref f17) = true)
    {f18 : Addr} {od18 an18 : Option Addr} {sl18 : Array (Option Value)} {oc18 kV18 dc18 pm18 ct18 : Value} {cd18 : Value}
    (a18 : PySem.W.nsIn K mainGlobals "_law_bent_table" = some (some (.ref f18))) (l18 : K.lookup f18 = some ⟨oc18, od18, .func (PySem.W.fnOf "_law_bent_table" "_law_bent_table" (defArgs s_law_bent_table) (defBody s_law_bent_table) (defScope s_law_bent_table) .none kV18 dc18 pm18 an18 cd18 ct18), sl18⟩) (c18 : PySem.W.codeIn K cd18 "_law_bent_table" = true) (k18 : PySem.W.keepIn K (.ref f18) = true)
    {f19 : Addr} {od19 an19 : Option Addr} {sl19 : Array (Option Value)} {oc19 kV19 dc19 pm19 ct19 : Value} {cd19 : Value}
    (a19 : PySem.W.nsIn K mainGlobals "_law_bent" = some (some (.ref f19))) (l19 : K.lookup f19 = some ⟨oc19, od19, .func (PySem.W.fnOf "_law_bent" "_law_bent" (defArgs s_law_bent) (defBody s_law_bent) (defScope s_law_bent) .none kV19 dc19 pm19 an19 cd19 ct19), sl19⟩) (c19 : PySem.W.codeIn K cd19 "_law_bent" = true) (k19 : PySem.W.keepIn K (.ref f19) = true)
    {f20 : Addr} {od20 an20 : Option Addr} {sl20 : Array (Option Value)} {oc20 kV20 dc20 pm20 ct20 : Value} {cd20 : Value}
    (a20 : PySem.W.nsIn K mainGlobals "law" = some (some (.ref f20))) (l20 : K.lookup f20 = some ⟨oc20, od20, .func (PySem.W.fnOf "law" "law" (defArgs s_law) (defBody s_law) (defScope s_law) .none kV20 dc20 pm20 an20 cd20 ct20), sl20⟩) (c20 : PySem.W.codeIn K cd20 "law" = true) (k20 : PySem.W.keepIn K (.ref f20) = true)
    {C_Refused : Addr} (ac_Refused : PySem.W.nsIn K mainGlobals "Refused" = some (some (.ref C_Refused)))
    {C_BadShape : Addr} (ac_BadShape : PySem.W.nsIn K mainGlobals "BadShape" = some (some (.ref C_BadShape)))
    {fI : Addr} {odI anI : Option Addr} {slI : Array (Option Value)} {ocI kVI dcI pmI cdI ctI : Value}
    (aI : PySem.W.findIn K (.ref C_Refused) "__init__" = some (some (.ref fI))) (lI : K.lookup fI = some ⟨ocI, odI, .func (PySem.W.fnOf "__init__" "Refused.__init__" (defArgs s_init) (defBody s_init) (defScope s_init) .none kVI dcI pmI anI cdI ctI), slI⟩) (cI : PySem.W.codeIn K cdI "Refused.__init__" = true) (kI : PySem.W.keepIn K (.ref fI) = true) (tI : PySem.W.typeIn K (.ref fI) = some (.type "function"))
    (eH_Refused : PySem.W.subIn K (.ref C_Refused) (.type "BaseException") = some true) (tH_Refused : PySem.W.typeIn K (.ref C_Refused) = some (.type "type")) (hH_Refused : PySem.W.hasDictIn K C_Refused = true)
    {nm_BadShape q_BadShape : Str} {N_BadShape : Addr} {bs_BadShape bm_BadShape : List Value} {sn_BadShape : List Str} {sub_BadShape : List Value} {ab_BadShape : Bool} {col_BadShape : Option Bool} {dd_BadShape : Option Addr} {x0_BadShape x1_BadShape x3_BadShape x5_BadShape : Option Value} {nmx_BadShape : Str} {tkx_BadShape : Tok}
    (xL_BadShape : K.lookup C_BadShape = some (excClassObj nm_BadShape q_BadShape C_BadShape N_BadShape bs_BadShape bm_BadShape true sn_BadShape sub_BadShape ab_BadShape col_BadShape dd_BadShape x0_BadShape x1_BadShape (some (.str nmx_BadShape tkx_BadShape)) x3_BadShape x5_BadShape "ValueError.__new__"))
    (xm_BadShape : PySem.HandSPX.refsVE bm_BadShape = true)
    (sa_BadShape : PySem.W.findIn K (.ref C_BadShape) "__setattr__" = some (some (.builtin "object.__setattr__"))) (ga_BadShape : PySem.W.findIn K (.ref C_BadShape) "__getattribute__" = some (some (.builtin "BaseException.__getattribute__"))) (gg_BadShape : PySem.W.findIn K (.ref C_BadShape) "__getattr__" = some none) (nw_BadShape : PySem.W.findIn K (.ref C_BadShape) "what" = some none) (in_BadShape : PySem.W.findIn K (.ref C_BadShape) "__init__" = some (some (.ref fI)))
    (kC_BadShape : PySem.W.keepIn K (.ref C_BadShape) = true) (eC_BadShape : PySem.W.subIn K (.ref C_BadShape) (.type "BaseException") = some true) (tC_BadShape : PySem.W.typeIn K (.ref C_BadShape) = some (.type "type")) (hC_BadShape : PySem.W.hasDictIn K C_BadShape = true)
    (ca_BadShape : PySem.W.findIn K (.ref C_BadShape) "__class__" = some (some (.builtin "object.__class__"))) (mo_BadShape : PySem.W.mroIn K C_BadShape (.type "object") = some true)
    (rd_BadShape : PySem.W.readsIn K C_BadShape (.type "type") = true) (fc_BadShape : PySem.W.findCls K (.ref C_BadShape) (.type "type") "__name__" = some (.get (.builtin "getset_descriptor.__get__") (.builtin "type.__name__") (.ref C_BadShape) (.type "type"))) (nn_BadShape : PySem.W.findIn K (.ref C_BadShape) "name" = some none)
    (sH_BadShape_Refused : PySem.W.subIn K (.ref C_BadShape) (.ref C_Refused) = some true)
    (cn : PySem.W.specialIn K (.builtin "object.__class__") "__get__" = some (some (.builtin "getset_descriptor.__get__"))) (ct : PySem.W.takesIn K (.builtin "object.__class__") = some true)
    (z_all : PySem.W.nsIn K mainGlobals "all" = some none)
    (z_bool : PySem.W.nsIn K mainGlobals "bool" = some none)
    (z_int : PySem.W.nsIn K mainGlobals "int" = some none)
    (z_isinstance : PySem.W.nsIn K mainGlobals "isinstance" = some none)
    (z_len : PySem.W.nsIn K mainGlobals "len" = some none)
    (z_list : PySem.W.nsIn K mainGlobals "list" = some none)
    (z_max : PySem.W.nsIn K mainGlobals "max" = some none)
    (z_min : PySem.W.nsIn K mainGlobals "min" = some none)
    (z_range : PySem.W.nsIn K mainGlobals "range" = some none)
    (z_repr : PySem.W.nsIn K mainGlobals "repr" = some none)
    (z_tuple : PySem.W.nsIn K mainGlobals "tuple" = some none)
    {tk_GREATEST_PRIME : Tok} (v_GREATEST_PRIME : PySem.W.nsIn K mainGlobals "GREATEST_PRIME" = some (some (.int 1000003 tk_GREATEST_PRIME))) :
    ∃ fd : FuncData, (∀ (s : Shared) (v : Value), BindsTo s fd ⟨[v], []⟩ [("script", v)]) ∧ ∀ base : Heap, K.In base → base.Ns mainGlobals mg → FnG P w K mg base CX0 7 fa fd ["script"] (sp_law K) := by
  have e : f20 = fa := Value.ref.inj (Option.some.inj ((PySem.W.mg_of X G a20).symm.trans hfa))
  subst e
  let T : Txt K mg := {
    f_number_within := f0, fd_number_within := _, d_number_within := ⟨fun_mk (st := s_number_within) l0 c0 k0, PySem.W.mg_of X G a0, (fun_mk (st := s_number_within) l0 c0 k0).binds (ps := ["thing", "low", "high"]) fun _ _ _ _ _ _ us hl => match us, hl with | [_, _, _], _ => rfl⟩,
    f_tuple_of := f1, fd_tuple_of := _, d_tuple_of := ⟨fun_mk (st := s_tuple_of) l1 c1 k1, PySem.W.mg_of X G a1, (fun_mk (st := s_tuple_of) l1 c1 k1).binds (ps := ["thing", "many"]) fun _ _ _ _ _ _ us hl => match us, hl with | [_, _], _ => rfl⟩,
    f_is_prime := f2, fd_is_prime := _, d_is_prime := ⟨fun_mk (st := s_is_prime) l2 c2 k2, PySem.W.mg_of X G a2, (fun_mk (st := s_is_prime) l2 c2 k2).binds (ps := ["p"]) fun _ _ _ _ _ _ us hl => match us, hl with | [_], _ => rfl⟩,
    f_made_shape := f3, fd_made_shape := _, d_made_shape := ⟨fun_mk (st := s_made_shape) l3 c3 k3, PySem.W.mg_of X G a3, (fun_mk (st := s_made_shape) l3 c3 k3).binds (ps := ["thing"]) fun _ _ _ _ _ _ us hl => match us, hl with | [_], _ => rfl⟩,
    f_is_shape := f4, fd_is_shape := _, d_is_shape := ⟨fun_mk (st := s_is_shape) l4 c4 k4, PySem.W.mg_of X G a4, (fun_mk (st := s_is_shape) l4 c4 k4).binds (ps := ["thing"]) fun _ _ _ _ _ _ us hl => match us, hl with | [_], _ => rfl⟩,
    f_shape_fault := f5, fd_shape_fault := _, d_shape_fault := ⟨fun_mk (st := s_shape_fault) l5 c5 k5, PySem.W.mg_of X G a5, (fun_mk (st := s_shape_fault) l5 c5 k5).binds (ps := ["thing"]) fun _ _ _ _ _ _ us hl => match us, hl with | [_], _ => rfl⟩,
    f_table_fits := f6, fd_table_fits := _, d_table_fits := ⟨fun_mk (st := s_table_fits) l6 c6 k6, PySem.W.mg_of X G a6, (fun_mk (st := s_table_fits) l6 c6 k6).binds (ps := ["table", "n", "p"]) fun _ _ _ _ _ _ us hl => match us, hl with | [_, _, _], _ => rfl⟩,
    f_numbers_fit := f7, fd_numbers_fit := _, d_numbers_fit := ⟨fun_mk (st := s_numbers_fit) l7 c7 k7, PySem.W.mg_of X G a7, (fun_mk (st := s_numbers_fit) l7 c7 k7).binds (ps := ["thing", "many", "p"]) fun _ _ _ _ _ _ us hl => match us, hl with | [_, _, _], _ => rfl⟩,
    f_law_pool := f8, fd_law_pool := _, d_law_pool := ⟨fun_mk (st := s_law_pool) l8 c8 k8, PySem.W.mg_of X G a8, (fun_mk (st := s_law_pool) l8 c8 k8).binds (ps := ["script", "k"]) fun _ _ _ _ _ _ us hl => match us, hl with | [_, _], _ => rfl⟩,
    f_law_take := f9, fd_law_take := _, d_law_take := ⟨fun_mk (st := s_law_take) l9 c9 k9, PySem.W.mg_of X G a9, (fun_mk (st := s_law_take) l9 c9 k9).binds (ps := ["source", "top"]) fun _ _ _ _ _ _ us hl => match us, hl with | [_, _], _ => rfl⟩,
    f_law_one := f10, fd_law_one := _, d_law_one := ⟨fun_mk (st := s_law_one) l10 c10 k10, PySem.W.mg_of X G a10, (fun_mk (st := s_law_one) l10 c10 k10).binds (ps := ["source", "things"]) fun _ _ _ _ _ _ us hl => match us, hl with | [_, _], _ => rfl⟩,
    f_law_is_number := f11, fd_law_is_number := _, d_law_is_number := ⟨fun_mk (st := s_law_is_number) l11 c11 k11, PySem.W.mg_of X G a11, (fun_mk (st := s_law_is_number) l11 c11 k11).binds (ps := ["thing", "low", "high"]) fun _ _ _ _ _ _ us hl => match us, hl with | [_, _, _], _ => rfl⟩,
    f_law_is_prime := f12, fd_law_is_prime := _, d_law_is_prime := ⟨fun_mk (st := s_law_is_prime) l12 c12 k12, PySem.W.mg_of X G a12, (fun_mk (st := s_law_is_prime) l12 c12 k12).binds (ps := ["p"]) fun _ _ _ _ _ _ us hl => match us, hl with | [_], _ => rfl⟩,
    f_law_is_table := f13, fd_law_is_table := _, d_law_is_table := ⟨fun_mk (st := s_law_is_table) l13 c13 k13, PySem.W.mg_of X G a13, (fun_mk (st := s_law_is_table) l13 c13 k13).binds (ps := ["thing", "n", "p"]) fun _ _ _ _ _ _ us hl => match us, hl with | [_, _, _], _ => rfl⟩,
    f_law_fault := f14, fd_law_fault := _, d_law_fault := ⟨fun_mk (st := s_law_fault) l14 c14 k14, PySem.W.mg_of X G a14, (fun_mk (st := s_law_fault) l14 c14 k14).binds (ps := ["thing"]) fun _ _ _ _ _ _ us hl => match us, hl with | [_], _ => rfl⟩,
    f_law_thing_right := f15, fd_law_thing_right := _, d_law_thing_right := ⟨fun_mk (st := s_law_thing_right) l15 c15 k15, PySem.W.mg_of X G a15, (fun_mk (st := s_law_thing_right) l15 c15 k15).binds (ps := ["thing"]) fun _ _ _ _ _ _ us hl => match us, hl with | [_], _ => rfl⟩,
    f_law_drawn_prime := f16, fd_law_drawn_prime := _, d_law_drawn_prime := ⟨fun_mk (st := s_law_drawn_prime) l16 c16 k16, PySem.W.mg_of X G a16, (fun_mk (st := s_law_drawn_prime) l16 c16 k16).binds (ps := ["source"]) fun _ _ _ _ _ _ us hl => match us, hl with | [_], _ => rfl⟩,
    f_law_drawn_shape := f17, fd_law_drawn_shape := _, d_law_drawn_shape := ⟨fun_mk (st := s_law_drawn_shape) l17 c17 k17, PySem.W.mg_of X G a17, (fun_mk (st := s_law_drawn_shape) l17 c17 k17).binds (ps := ["source"]) fun _ _ _ _ _ _ us hl => match us, hl with | [_], _ => rfl⟩,
    f_law_bent_table := f18, fd_law_bent_table := _, d_law_bent_table := ⟨fun_mk (st := s_law_bent_table) l18 c18 k18, PySem.W.mg_of X G a18, (fun_mk (st := s_law_bent_table) l18 c18 k18).binds (ps := ["source", "shape"]) fun _ _ _ _ _ _ us hl => match us, hl with | [_, _], _ => rfl⟩,
    f_law_bent := f19, fd_law_bent := _, d_law_bent := ⟨fun_mk (st := s_law_bent) l19 c19 k19, PySem.W.mg_of X G a19, (fun_mk (st := s_law_bent) l19 c19 k19).binds (ps := ["source", "shape", "at"]) fun _ _ _ _ _ _ us hl => match us, hl with | [_, _, _], _ => rfl⟩,
    f_law := f20, fd_law := _, d_law := ⟨fun_mk (st := s_law) l20 c20 k20, PySem.W.mg_of X G a20, (fun_mk (st := s_law) l20 c20 k20).binds (ps := ["script"]) fun _ _ _ _ _ _ us hl => match us, hl with | [_], _ => rfl⟩,
    k_made_shape := fun s ws _ hl => match ws, hl with | [u0], _ => .of_eq rfl,
    c_Refused := C_Refused, g_Refused := PySem.W.mg_of X G ac_Refused,
    c_BadShape := C_BadShape, g_BadShape := PySem.W.mg_of X G ac_BadShape,
    f_init := fI, fd_init := _, d_init := fun_mk (st := s_init) lI cI kI, b_init := (fun_mk (st := s_init) lI cI kI).binds (ps := ["self", "what"]) fun _ _ _ _ _ _ us hl => match us, hl with | [_, _], _ => rfl, ti := tI,
    o_BadShape := ⟨⟨_, _, _, _, _, _, _, _, _, _, _, _, _, _, _, xL_BadShape, xm_BadShape⟩, sa_BadShape, eC_BadShape, tC_BadShape, kC_BadShape⟩, i_BadShape := in_BadShape, n_BadShape_what := ⟨nw_BadShape, nmx_BadShape, ⟨ga_BadShape, gg_BadShape, eC_BadShape, hC_BadShape, ca_BadShape, cn, ct, mo_BadShape⟩, rd_BadShape, tC_BadShape, fc_BadShape, ⟨_, tkx_BadShape, xL_BadShape, rfl⟩, nn_BadShape⟩, x_BadShape := ⟨ga_BadShape, gg_BadShape, eC_BadShape, hC_BadShape⟩, e_BadShape := ⟨ga_BadShape, gg_BadShape, eC_BadShape, hC_BadShape, ca_BadShape, cn, ct, mo_BadShape⟩,
    te_BadShape_Refused := PySem.W.exm_ref eH_Refused hH_Refused tH_Refused sH_BadShape_Refused,
    ki_BadShape_BadShape := kit_self,
    m_all := PySem.W.mg_none_of X G z_all,
    m_bool := PySem.W.mg_none_of X G z_bool,
    m_int := PySem.W.mg_none_of X G z_int,
    m_isinstance := PySem.W.mg_none_of X G z_isinstance,
    m_len := PySem.W.mg_none_of X G z_len,
    m_list := PySem.W.mg_none_of X G z_list,
    m_max := PySem.W.mg_none_of X G z_max,
    m_min := PySem.W.mg_none_of X G z_min,
    m_range := PySem.W.mg_none_of X G z_range,
    m_repr := PySem.W.mg_none_of X G z_repr,
    m_tuple := PySem.W.mg_none_of X G z_tuple,
    tk_GREATEST_PRIME := tk_GREATEST_PRIME, v_GREATEST_PRIME := PySem.W.mg_of X G v_GREATEST_PRIME }
  exact ⟨T.fd_law, fun s v => .of_eq rfl, fun base _ _ => ok_law T⟩
end My
open PySem PySem.W PyProof.Rows
set_option maxHeartbeats 0 in
theorem PySem.Challenge.cw_twicemany_k01_shapes_made_and_refused_holds : PySem.Challenge.rw_twicemany_k01_shapes_made_and_refused.Holds := by
  w_on; o_law; k_head; (case hw => w_witness2)
  k_fill
  refine Own.walkG (l := PySem.Challenge.rw_twicemany_k01_shapes_made_and_refused) (n := 63) (k := 7) (x := "script") (sp := fun K => My.sp_law K) rfl (by decide) rfl ⟨rfl, by decide, by decide⟩ (fun w h Y => PySem.W.kIn_of Y) ?F (fun K H a ns h1 h2 h3 => My.law_sp h1 h2 h3)
  case F =>
    intro w mg fa h KX G hmg
    refine' My.all_mk KX G hmg ?a0 ?l0 ?c0 ?k0 ?a1 ?l1 ?c1 ?k1 ?a2 ?l2 ?c2 ?k2 ?a3 ?l3 ?c3 ?k3 ?a4 ?l4 ?c4 ?k4 ?a5 ?l5 ?c5 ?k5 ?a6 ?l6 ?c6 ?k6 ?a7 ?l7 ?c7 ?k7 ?a8 ?l8 ?c8 ?k8 ?a9 ?l9 ?c9 ?k9 ?a10 ?l10 ?c10 ?k10 ?a11 ?l11 ?c11 ?k11 ?a12 ?l12 ?c12 ?k12 ?a13 ?l13 ?c13 ?k13 ?a14 ?l14 ?c14 ?k14 ?a15 ?l15 ?c15 ?k15 ?a16 ?l16 ?c16 ?k16 ?a17 ?l17 ?c17 ?k17 ?a18 ?l18 ?c18 ?k18 ?a19 ?l19 ?c19 ?k19 ?a20 ?l20 ?c20 ?k20 ?ac_Refused ?ac_BadShape ?aI ?lI ?cI ?kI ?tI ?eH_Refused ?tH_Refused ?hH_Refused ?xL_BadShape ?xm_BadShape ?sa_BadShape ?ga_BadShape ?gg_BadShape ?nw_BadShape ?in_BadShape ?kC_BadShape ?eC_BadShape ?tC_BadShape ?hC_BadShape ?ca_BadShape ?mo_BadShape ?rd_BadShape ?fc_BadShape ?nn_BadShape ?sH_BadShape_Refused ?cn ?ct ?z_all ?z_bool ?z_int ?z_isinstance ?z_len ?z_list ?z_max ?z_min ?z_range ?z_repr ?z_tuple ?v_GREATEST_PRIME
    (case a0 => k_is); (case l0 => k_is); (case c0 => k_is); (case k0 => k_is); (case a1 => k_is); (case l1 => k_is); (case c1 => k_is); (case k1 => k_is); (case a2 => k_is); (case l2 => k_is); (case c2 => k_is); (case k2 => k_is); (case a3 => k_is); (case l3 => k_is); (case c3 => k_is); (case k3 => k_is); (case a4 => k_is); (case l4 => k_is); (case c4 => k_is); (case k4 => k_is); (case a5 => k_is); (case l5 => k_is); (case c5 => k_is); (case k5 => k_is); (case a6 => k_is); (case l6 => k_is); (case c6 => k_is); (case k6 => k_is); (case a7 => k_is); (case l7 => k_is); (case c7 => k_is); (case k7 => k_is); (case a8 => k_is); (case l8 => k_is); (case c8 => k_is); (case k8 => k_is); (case a9 => k_is); (case l9 => k_is); (case c9 => k_is); (case k9 => k_is); (case a10 => k_is); (case l10 => k_is); (case c10 => k_is); (case k10 => k_is); (case a11 => k_is); (case l11 => k_is); (case c11 => k_is); (case k11 => k_is); (case a12 => k_is); (case l12 => k_is); (case c12 => k_is); (case k12 => k_is); (case a13 => k_is); (case l13 => k_is); (case c13 => k_is); (case k13 => k_is); (case a14 => k_is); (case l14 => k_is); (case c14 => k_is); (case k14 => k_is); (case a15 => k_is); (case l15 => k_is); (case c15 => k_is); (case k15 => k_is); (case a16 => k_is); (case l16 => k_is); (case c16 => k_is); (case k16 => k_is); (case a17 => k_is); (case l17 => k_is); (case c17 => k_is); (case k17 => k_is); (case a18 => k_is); (case l18 => k_is); (case c18 => k_is); (case k18 => k_is); (case a19 => k_is); (case l19 => k_is); (case c19 => k_is); (case k19 => k_is); (case a20 => k_is); (case l20 => k_is); (case c20 => k_is); (case k20 => k_is); (case ac_Refused => k_is); (case ac_BadShape => k_is); (case aI => k_is); (case lI => k_is); (case cI => k_is); (case kI => k_is); (case tI => k_is); (case eH_Refused => k_is); (case tH_Refused => k_is); (case hH_Refused => k_is); (case xL_BadShape => k_is); (case xm_BadShape => rfl); (case sa_BadShape => k_is); (case ga_BadShape => k_is); (case gg_BadShape => k_is); (case nw_BadShape => k_is); (case in_BadShape => k_is); (case kC_BadShape => k_is); (case eC_BadShape => k_is); (case tC_BadShape => k_is); (case hC_BadShape => k_is); (case ca_BadShape => k_is); (case mo_BadShape => k_is); (case rd_BadShape => k_is); (case fc_BadShape => k_is); (case nn_BadShape => k_is); (case sH_BadShape_Refused => k_is); (case cn => k_is); (case ct => k_is); (case z_all => k_is); (case z_bool => k_is); (case z_int => k_is); (case z_isinstance => k_is); (case z_len => k_is); (case z_list => k_is); (case z_max => k_is); (case z_min => k_is); (case z_range => k_is); (case z_repr => k_is); (case z_tuple => k_is); (case v_GREATEST_PRIME => k_is)

