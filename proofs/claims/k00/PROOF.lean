import PyProof.Rows.All
import Wide.All
import OpenK.AllK
import Wide.FinOn
import HandS.ForMost
import HandS.Exc
import HandS.TryOnly
import HandS.ExcOwn
import HandS.WordsExc
import PyProof.ReprRoads
import HandS.Ends
import HandS.ExcInit
import HandS.ExcIs
import HandS.ExcField
import HandS.IsInst
import HandS.TupMul
import HandS.TupAny
import HandS.Wide
import HandS.Evl
import HandS.FStrTup
import PySem.Challenge.RW_twicemany_k00_numbers_below_a_prime
import HandS.Style
import HandS.Iter
import HandS.Zip
import HandS.Walk
import KE.GoesEnum
import KE.GoesNew
set_option Elab.async false
set_option linter.all false
set_option maxRecDepth 100000
set_option maxHeartbeats 4000000
namespace Own
open PySem PySem.Spec PyProof.Rows L2
/-! ### the text of data -/
def rShow (K : PySem.W.Frag) : List V → Hp → VK → Prop := fun xs H Q => ∃ (x : V) (d : PyData), xs = [x] ∧ Dp K H x d ∧
  (d.showable = true ∧ d.hasDict = false ∧ d.depth ≤ 60 ∧ d.shown.length ≤ sizeLine) ∧ Q (.str d.shown) H
theorem call_show {X : Cx} (hg : X.A.guards = some []) (hu : X.A.units + 64 < cLine) : CallR X (.builtin "repr") (rShow X.K) := by
  intro pins s σ H xs us Q I rv hh
  obtain ⟨x, d, rfl, hd, ⟨h1, h2, h3, h4⟩, q⟩ := hh
  obtain ⟨u, rfl, ru⟩ := vals1 rv
  cases hd with
  | non => cases ru; exact PySem.P.repr_of_none ⟨.str _, H, I.tok _, ⟨_, rfl⟩, q⟩
  | bl b => cases ru; exact PySem.P.repr_of_bool ⟨.str _, H, I.tok _, ⟨_, rfl⟩, by simpa only [PyData.shown] using q⟩
  | int i =>
    obtain ⟨t, rfl⟩ := ru
    exact PySem.P.repr_of_int (by simpa [PyData.showable] using h1) ⟨.str _, H, I.tok _, ⟨_, rfl⟩, by simpa only [PyData.shown] using q⟩
  | str z =>
    obtain ⟨t, rfl⟩ := ru
    exact PySem.P.repr_of_str ⟨.str _, H, I.tok _, ⟨_, rfl⟩, by simpa only [PyData.shown] using q⟩ (by simpa only [PyData.shown] using h4)
  | lst hs ha =>
    cases ru
    obtain ⟨as, rd⟩ := Dp.reads I _ _ _ (Dp.lst hs ha) rfl
    exact repr_of_reads' rd h1 (PyData.noDict_hsm h2) hg (by omega) (fun _ _ e => e) (fun h' u tk hk => ⟨.str _, H, I.kept hk, ⟨_, rfl⟩, q⟩) h4
  | tup hs ha =>
    cases ru
    obtain ⟨as, rd⟩ := Dp.reads I _ _ _ (Dp.tup hs ha) rfl
    exact repr_of_reads' rd h1 (PyData.noDict_hsm h2) hg (by omega) (fun _ _ e => e) (fun h' u tk hk => ⟨.str _, H, I.kept hk, ⟨_, rfl⟩, q⟩) h4
theorem guards_deeper {A : Around} {env : Env} : (A.deeper env).guards = A.guards := by
  unfold Around.deeper
  rfl
end Own


namespace Own
open PySem PySem.Spec PyProof.Rows L2
/-! ### a def's promise where no text of data is being made around the call -/
structure FnG (P : Program) (w : World) (K : PySem.W.Frag) (mg : Str → Option Value) (base : Heap) (C : CXT) (k : Nat) (f : Addr) (fd : FuncData) (ps : List Str) (sp : Sp) : Prop where
  size : ∀ vs H Q E, sp vs H Q E → vs.length = ps.length
  goes : ∀ (A : Around) (outer : List Env) (s : Shared) (H : Hp) (args : Args) (us : List Value) (vs : List V) (Q : VK) (E : XK),
    A.guards = some [] → Room k A → Env0 P w K mg base A outer s H → BindsTo s fd args (ps.zip us) → Vals vs us → sp vs H Q E →
      codeAny (model P w) A (.call (.ref f) args) (CR C outer P w H s Q E) s
theorem FnG.of {P : Program} {w : World} {K : PySem.W.Frag} {mg : Str → Option Value} {base : Heap} {C : CXT} {k : Nat} {f : Addr} {fd : FuncData} {ps : List Str} {sp : Sp}
    (F : FnOk P w K mg base C k f fd ps sp) : FnG P w K mg base C k f fd ps sp := ⟨F.len, fun A o s H args us vs Q E _ => F.run A o s H args us vs Q E⟩
section
variable {P : Program} {w : World} {K : PySem.W.Frag} {mg : Str → Option Value} {base : Heap}
theorem fnG_mk {C : CXT} {x qual : Str} {st : Stmt} {f : Addr} {fd : FuncData} {N ps : List Str} {k : Nat} {sp : Sp} (F : Fun K x qual st f fd) (S : FnScope N ps (defScope st)) (sz : ∀ vs H Q E, sp vs H Q E → vs.length = ps.length)
    (hb : ∀ (cdv : Value) (A : Around) (outer : List Env) (s : Shared) (H : Hp) (vs : List V) (Q : VK) (E : XK),
      (A.deeper (envOfC qual (defScope st) s.heap.objs.size f cdv)).guards = some [] → Room k (A.deeper (envOfC qual (defScope st) s.heap.objs.size f cdv)) → sp vs H Q E →
        ∃ t, PSs (cxOf C P w K mg base N qual (defScope st) f cdv A outer s H E) (defBody st) t ∧ t { nx := fun _ H' => Q .non H', rt := Q } (start N vs) H) :
    FnG P w K mg base C (k + 1) f fd ps sp := by
  obtain ⟨oc, od, kV, doc, pm, an, cdv, ct, osl, efd, look, code⟩ := F.ex
  subst efd
  refine ⟨sz, fun A o s H args us vs Q E gA room e0 bind rv pre => ?_⟩
  have inside : K.In s.heap := e0.mod.kin.keeps fun b u q => (e0.bs b u q).1
  have free : s.heap.NoLimit := e0.mod.nolimit.keeps fun b u q => (e0.bs b u q).1
  refine codeAny_call_function room.depth (inside _ _ look) rfl S.co S.gen rfl (PySem.W.codeRec_of inside code) (bind _ _ _ _ ?_)
  refine wpAny_newFunctionEnv_cells S.kind (fun y hy => ?_) fun env he s1 x => ?_
  · have m := (List.of_mem_zip (show (y.1, y.2) ∈ ps.zip us from hy)).1
    exact (S.par y.1 m).elim Or.inl fun q => Or.inr ⟨q, PySem.W.cellsFrom_some _ _ _ (.inl q)⟩
  · subst he
    refine ⟨free.keeps x.toInCall.keep, codeAny_func ?_⟩
    obtain ⟨t, ht, rd⟩ := hb cdv A o s H vs Q E (guards_deeper.trans gA) (room.deeper _) pre
    have I := inv_start (CX := C) (P := P) (w := w) (mg := mg) (E := E) (N := N) S room.hd e0 (sz _ _ _ _ pre) rv x
    refine wpAny_mono (ht.run [] s1 (start N vs) H _ I rd) (fun fl s' hs => ?_) fun _ _ z => z
    match fl, hs with
    | .ret u, hs => exact (let ⟨v, _, H', J, r2, q⟩ := hs; ⟨v, H', J.os, J.bare, J.base, J.hok, r2, q⟩)
    | .next, hs => exact (let ⟨_, H', J, q⟩ := hs; ⟨V.non, H', J.os, J.bare, J.base, J.hok, rfl, q⟩)
    | .brk, hs => exact (let ⟨_, _, _, z⟩ := hs; z.elim)
    | .cont, hs => exact (let ⟨_, _, _, z⟩ := hs; z.elim)
/-- nothing is let out -/
theorem fnG_ok {x qual : Str} {st : Stmt} {f : Addr} {fd : FuncData} {N ps : List Str} {k : Nat} {sp : Sp} (F : Fun K x qual st f fd) (S : FnScope N ps (defScope st)) (sz : ∀ vs H Q E, sp vs H Q E → vs.length = ps.length)
    (hb : ∀ (cdv : Value) (A : Around) (outer : List Env) (s : Shared) (H : Hp) (vs : List V) (Q : VK) (E : XK),
      (A.deeper (envOfC qual (defScope st) s.heap.objs.size f cdv)).guards = some [] → Room k (A.deeper (envOfC qual (defScope st) s.heap.objs.size f cdv)) → sp vs H Q E →
        ∃ t, PSs (cxOf CX0 P w K mg base N qual (defScope st) f cdv A outer s H E).nox (defBody st) t ∧ t { nx := fun _ H' => Q .non H', rt := Q } (start N vs) H) :
    FnG P w K mg base CX0 (k + 1) f fd ps sp :=
  fnG_mk F S sz fun cdv A o s H vs Q E g r h => let ⟨t, p, q⟩ := hb cdv A o s H vs Q E g r h; ⟨t, p.nox, q⟩
end
section
variable {X : Cx} {C : CXT} {k : Nat} {f : Addr} {fd : FuncData} {ps : List Str} {sp : Sp} {dvs : List V} {ds : List Value} {E : XK} {x : Str} {p pos : Pos} {e : Expr} {es : List Expr} {t : TA}
theorem goesG {pins : List (Addr × Obj)} {σ : L2.St} {H : Hp} {s : Shared} {Q : VK} {us : List Value} {vs : List V} (F : FnG X.prog X.w X.K X.mg X.base C k f fd ps sp) (hg : X.A.guards = some []) (hr : Room k X.A) (hb : Binds X.K fd ps []) (hx : Passes C X E)
    (I : Inv X pins σ H s) (rv : Vals vs us) (h : sp vs H Q E) : wpAny (model X.prog X.w) X.A (call (.ref f) us) (EP X pins σ Q) X.xe s := by
  have n : (us ++ []).length = ps.length := by rw [List.append_nil, ← rv.length, F.size _ _ _ _ h]
  have bt := hb s us I.kIn n
  rw [List.append_nil] at bt
  refine wpAny_call (codeAny_mono (F.goes X.A X.stack s H ⟨us, []⟩ us vs Q E hg hr I.env0 bt rv h) fun r s' z => ?_)
  match r, z with
  | .error e, z => exact hx pins σ H s e s' I z
  | .ok (.ret u), z => exact I.after z
  | .ok .next, z => exact z.elim
  | .ok .brk, z => exact z.elim
  | .ok .cont, z => exact z.elim
/-- f(e, ..), by such a promise -/
theorem pe_callG (F : FnG X.prog X.w X.K X.mg X.base C k f fd ps sp) (hg : X.A.guards = some []) (hr : Room k X.A) (gl : Gl X x) (hm : X.mg x = some (.ref f)) (hk : PySem.W.keepIn X.K (.ref f) = true) (hb : Binds X.K fd ps []) (hx : Passes C X E)
    (ha : PA X (e :: es) t) (hdb : (x == ("__debug__" : Str)) = false := by decide) (hst : starEach (e :: es) X.env = (false, eval e X.env) :: starEach es X.env := by rfl) (hpl : (backTo pos (starEach es X.env)).any (·.1) = false := by rfl) :
    PE X (.Call (.Name x p) (e :: es) [] pos) (fun σ H Q => t σ H fun vs H1 => sp vs H1 Q E) :=
  ⟨fun pins s σ H Q I h => wpAny_Call_Name_kw (ld_glob I gl hm
    (PySem.W.callWith_K (h₀ := X.base) I.ok.mod.kin hk (thn (ha.run pos pins s σ H _ I h) fun us s1 ⟨vs, H1, J, rv, q⟩ => ⟨J.kIn, goesG F hg hr hb hx J rv q⟩) hst hpl) hdb)⟩
end
end Own


namespace Own
open PySem PySem.Spec PyProof.Rows L2
/-! ### the law's own call -/
/-- what stands at the law's entry, seen with nothing but the script tracked -/
structure Entry (K : PySem.W.Frag) (s : Shared) (a : Addr) (vs : List Value) (ns : List Int) (H : Hp) : Prop where
  only : Only H
  seq : SqL K H a (ns.map V.int)
  none_ : ∀ b, b ≠ a → H b = none
  own : H a ≠ none → K.lookup a = none
theorem entry_ok {P : Program} {w : World} {K : PySem.W.Frag} {s : Shared} {a : Addr} {vs : List Value} {ns : List Int} (KX : K.In s.heap)
    (ha : s.heap.get? a = some { cls := .type "list", data := .seq vs.toArray }) (hi : IntsAre vs ns) (hl : ns.length ≤ sizeLine) : ∃ H, Entry K s a vs ns H ∧ HOk P w H s.heap := by
  have rv := vals_ints hi
  have ln : vs.length = ns.length := hi.length
  by_cases hk : K.lookup a = none
  · refine ⟨fun b => if b = a then some (.frz { cls := .type "list", data := .seq vs.toArray } (.lst (ns.map V.int))) else none, ⟨fun b => ?_, .inl (.inr ⟨_, if_pos rfl⟩), fun b nb => if_neg nb, fun _ => hk⟩, fun b u e => ?_⟩
    · by_cases q : b = a
      · exact .inr ⟨_, _, if_pos q⟩
      · exact .inl (if_neg q)
    · by_cases q : b = a
      · have e' := (if_pos q).symm.trans e
        injection e' with e'
        subst e' q
        exact ⟨ha, by rw [List.length_map]; exact hl, vs, _, rv, ha⟩
      · exact absurd ((if_neg q).symm.trans e) (by intro z; cases z)
  · obtain ⟨o, ho⟩ := Option.ne_none_iff_exists'.mp hk
    have e := (KX a o ho).symm.trans ha
    injection e with e
    subst e
    exact ⟨fun _ => none, ⟨fun _ => .inl rfl, .inr ⟨_, vs.toArray, _, ho, rfl, rfl, rfl, by rw [List.size_toArray, ln]; exact hl, by simpa using rv⟩, fun _ _ => rfl, fun z => absurd rfl z⟩,
      fun b u z => by cases z⟩
theorem lawG {P : Program} {w : World} {K : PySem.W.Frag} {mg mb : Str → Option Value} {k : Nat} {fa a : Addr} {fd : FuncData} {x : Str} {sp : Sp} {s : Shared} {vs : List Value} {ns : List Int}
    (KX : K.In s.heap) (g1 : s.heap.Ns mainGlobals mg) (g2 : s.heap.Ns builtinsNs mb) (g3 : ∀ x : Str, x ≠ "__name__" → mb x = bootBuiltins x) (g4 : s.heap.NoLimit) (hg : s.gens = #[])
    (ha : s.heap.get? a = some { cls := .type "list", data := .seq vs.toArray }) (hi : IntsAre vs ns) (hl : ns.length ≤ sizeLine) (hr : Room k callerA)
    (F : ∀ base : Heap, K.In base → base.Ns mainGlobals mg → FnG P w K mg base CX0 k fa fd [x] sp) (hb : ∀ (s : Shared) (u : Value), BindsTo s fd ⟨[u], []⟩ [(x, u)])
    (hsp : ∀ H : Hp, Only H → SqL K H a (ns.map V.int) → sp [.ref a] H (fun v _ => v = .bl true) E0) :
    codeAny (model P w) callerA (.call (.ref fa) ⟨[.ref a], []⟩) (fun r s' => r = .ok (.ret (.bool true)) ∧ OldK s.heap s'.heap ∧ s'.os = s.os ∧ AllBare s'.gens) s := by
  obtain ⟨H, e, hok⟩ := entry_ok (P := P) (w := w) KX ha hi hl
  -- the base: what isn't tracked
  have un : ∀ {b : Addr} {m : Str → Option Value}, s.heap.Ns b m → H b = none := fun {b m} ⟨o, es, ep, q, d, _⟩ => by
    by_cases z : b = a
    · subst z
      rw [ha] at q
      injection q with q
      subst q
      exact absurd d (by intro z; cases z)
    · exact e.none_ b z
  have nsB : ∀ {b : Addr} {m : Str → Option Value}, s.heap.Ns b m → (hidT s.heap H).Ns b m := fun {b m} n => by
    have hn := un n
    obtain ⟨o, es, ep, q, d, r⟩ := n
    exact ⟨o, es, ep, hidT_get q hn, d, r⟩
  have KB : K.In (hidT s.heap H) := fun b o q => hidT_get (KX b o q) (by
    by_cases z : b = a
    · subst z
      by_cases y : H b = none
      · exact y
      · have n := e.own y
        rw [q] at n
        cases n
    · exact e.none_ b z)
  have e0 : Env0 P w K mg (hidT s.heap H) callerA [] s H :=
    ⟨rfl, ⟨KB, nsB g1, ⟨mb, nsB g2, g3⟩, (let ⟨mc, h1, h2⟩ := g4; ⟨mc, nsB h1, h2⟩)⟩, fun b o q => of_hidT q, Nat.le_of_eq (hidT_size _ _), trivial, fun b z => absurd z (List.not_mem_nil), hok, .of_eq hg⟩
  refine codeAny_mono ((F _ KB (nsB g1)).goes callerA [] s H ⟨[.ref a], []⟩ [.ref a] [.ref a] _ _ rfl hr e0 (hb s (.ref a)) (.cons rfl .nil) (hsp H e.only e.seq)) fun r s' z => ?_
  match r, z with
  | .error _, z => exact z.elim
  | .ok .next, z => exact z.elim
  | .ok .brk, z => exact z.elim
  | .ok .cont, z => exact z.elim
  | .ok (.ret u), z =>
    obtain ⟨v, H', os, bare, ch, hok', ru, q⟩ := z
    have q : v = .bl true := q
    subst q
    have eu : u = Value.bool true := ru
    refine ⟨by rw [eu], OldK.of_keep fun b o q => ?_, os, bare⟩
    cases y : H b with
    | none => exact ch.keep b o q y (fun z => by cases z) (fun z => by cases z)
    | some u' =>
      rcases e.only b with z | ⟨ob, xs, z⟩
      · rw [y] at z
        cases z
      · have o1 := (hok b _ z).1
        have o2 := (hok' b _ (ch.frzs b ob _ z)).1
        rw [q] at o1
        injection o1 with o1
        rw [o1]
        exact o2
theorem walkG {l : PySem.W.OpenLaw} {n k : Nat} {q : Program} {loose : List Str} {XP : (Str → Option Value) → Heap → Prop} {YP : World → Heap → Prop} {d : DefRec} {K : Params → PySem.W.Frag} {sp : PySem.W.Frag → Sp} {x : Str}
    (h1 : l.most = some n) (h2 : n ≤ sizeLine) (h3 : d.params.defaults = []) (hr : Room k callerA) (hY : ∀ (w : World) (h : Heap), YP w h → (K w.params).In h)
    (F : ∀ (w : World) (mg : Str → Option Value) (fa : Addr) (h : Heap), (K w.params).In h → h.Ns mainGlobals mg → mg d.name = some (.ref fa) →
      ∃ fd : FuncData, (∀ (s : Shared) (u : Value), BindsTo s fd ⟨[u], []⟩ [(x, u)]) ∧
        ∀ base : Heap, (K w.params).In base → base.Ns mainGlobals mg → FnG l.prog w (K w.params) mg base CX0 k fa fd [x] (sp (K w.params)))
    (hsp : ∀ (K : PySem.W.Frag) (H : Hp) (a : Addr) (ns : List Int), ns.length ≤ n → Only H → SqL K H a (ns.map V.int) → sp K [.ref a] H (fun v _ => v = .bl true) E0) :
    PySem.W.WalkO q loose XP YP l.row.toRowW d [] (fun f vs => PySem.call f vs) :=
  Att.attach_call h1 h3 fun w s₀ s₁ mg mb fa o pm cd doc a vs ns G Y ho hd hcd hmg hobj hints hlen hg =>
    let ⟨fd, hb, hF⟩ := F w mg fa _ (hY w _ Y) G.T.g hmg
    lawG (hY w _ Y) G.T.g G.T.b G.T.builtins G.T.nolimit hg hobj hints (Nat.le_trans hlen h2) hr hF hb fun H hO hS => hsp _ H a ns hlen hO hS
end Own


namespace Own
open PySem PySem.Spec PyProof.Rows L2
/-! ### isinstance of a caught error that has a dict of its own -/
section
open PySem.W PySem.Calls
variable {prog : Program} {w : World} {A : Around} {E : Value → Shared → Prop} {s : Shared} {K : Frag} {x D : Addr} {ox : Obj} {od : Option Obj}
theorem asks_class {Q : Option Value → Shared → Prop} (T : ExcC K D) (hf : findObj K D od "__class__" = some (.bind (.builtin "getset_descriptor.__get__") (.builtin "object.__class__")))
    (KX : K.In s.heap) (I : PySem.W.InstAt s.heap x ox D od) (h : Q (some (.ref D)) { s with toks := s.toks + 1 }) : wpAny (model prog w) A (getAttr? (.ref x) "__class__") Q E s := by
  obtain ⟨hp, g, d, t, os⟩ := s
  have a0 := I.type (M := model prog w)
  have a1 := looks_findIn (M := model prog w) KX T.hg
  have a2 := looks_findIn (M := model prog w) KX T.hk
  have a3 := looks_find (M := model prog w) KX I hf
  have a4 : Looks (model prog w) hp (isInstance (.ref x) (.type "BaseException")) true := a0.andThen (looks_subIn KX T.hs)
  have n1 : (Value.builtin "BaseException.__getattribute__" == Value.builtin "object.__getattribute__") = false := by decide +kernel
  have n2 : (onTheHeap (Value.ref D) && Value.builtin "BaseException.__getattribute__" == Value.builtin "object.__getattribute__") = false := by rw [n1]; rfl
  have n3 : (false && onTheHeap (Value.builtin "BaseException.__getattribute__")) = false := rfl
  unfold getAttr? getAttrBy? getAttrBy
  refine wpAny_bind (wpAny_mkText (wpAny_bind (wpAny_attempt (wpAny_holding (wpAny_bind (a0.at (wpAny_bind (a1.at ?_))))))))
  simp only [n2, Bool.false_eq_true, if_false]
  unfold getAttrByItsOwn hookBefore
  refine wpAny_bind ?_
  rw [if_pos (show onTheHeap (Value.ref D) = true from rfl)]
  refine a2.at (wpAny_bind (wpAny_attempt (wpAny_holding ?_)))
  unfold callGetattribute
  simp only [n3, Bool.false_eq_true, if_false]
  unfold boundAndCalled
  rw [PySem.F.excAttr_ValueError.ga.bind (.ref x)]
  refine wpAny_bind (wpAny_pure ?_)
  show wpAny _ _ (call (.builtin "BaseException.__getattribute__") [.ref x, .str "__class__" t]) _ _ _
  refine wpAny_call (codeAny_call_builtin PySem.F.excAttr_ValueError.ga.plain PySem.F.entry_bexc_ga ?_)
  refine @check_slot (model prog w) _ _ ⟨hp, g, d, t + 1, os⟩ "BaseException.__getattribute__" "BaseException" "__getattribute__" (.ref x) [.str "__class__" t] [] _ (by decide +kernel) (by decide +kernel) a4
    (PySem.F.args_bexc_ga (.ref x) (.str "__class__" t)) ?_
  unfold Builtin.«object.__getattribute__»
  refine wpAny_bind (wpAny_of_eq (a := ((Value.ref x : Value), [Value.str "__class__" t])) (by first | rfl | (simp only [slotArgs]; rfl)) ?_)
  refine wpAny_bind (wpAny_pure (wpAny_bind (a0.at (wpAny_bind (a3.at ?_)))))
  show wpAny _ _ (holding [Value.builtin "object.__class__"] (call (.builtin "getset_descriptor.__get__") [.builtin "object.__class__", .ref x, .ref D]) >>= ret) _ _ _
  refine wpAny_bind (wpAny_holding (wpAny_call (class_get (s := ⟨hp, g, d, t + 1, os⟩) (ox := ox) (od := od) KX I T.hm (wpAny_pure ?_))))
  show wpAny _ _ (handedOut (.ref D)) _ _ _
  rw [handedOut_of (v := .ref D) rfl]
  first
    | exact wpAny_pure h
    | exact wpAny_pure (wpAny_pure h)
    | exact wpAny_pure (wpAny_bind (wpAny_pure (wpAny_pure h)))
theorem cls_there (T : ExcC K D) : ∃ c' d' cd' sl', K.lookup D = some ⟨c', d', .cls cd', sl'⟩ := by
  obtain ⟨cd, hc, _⟩ := any_some T.hd
  unfold clsIn at hc
  split at hc
  · rename_i c' d' cd' sl' ho
    exact ⟨_, _, _, _, ho⟩
  · cases hc
theorem kit_exc (T : ExcC K D) : KitX K (.ref x) (.ref D) (fun h => ∃ od, PySem.W.InstAt h x ox D (some od)) where
  ty := fun _ _ _ ⟨_, I⟩ => I.type
  it := fun _ _ KX _ A' Q' E' s' k q => by
    obtain ⟨_, _, _, _, ho⟩ := cls_there T
    unfold isType loadHead
    exact wpAny_bind (wpAny_loadPart (k _ _ (KX _ _ ho)) (wpAny_pure q))
  ne := fun h tp dd its n sl KX htp => Bool.eq_false_iff.mpr fun q => by
    obtain ⟨_, _, _, _, ho⟩ := cls_there T
    have e : D = tp := Value.ref.inj (beq_iff_eq.mp q)
    subst e
    exact absurd ((KX _ _ ho).symm.trans htp) (by intro z; cases z)
  ca := fun KX ⟨od, I⟩ q => asks_class T (findObj_data (by obtain ⟨cd, hc, _⟩ := any_some T.hd; rw [hc]; rfl) T.ha T.hn T.ht) KX I q
end
/-- isinstance(e, c), e the error that the suite holds: its class cls is D, its dict told by d -/
def rIsD (K : PySem.W.Frag) (D a : Addr) (cls : Value) (d : Option Addr) : List V → Hp → VK → Prop := fun xs H Q => cls = .ref D ∧ ∃ (c : V) (cv : Value) (b : Bool) (dd : Addr) (fs : List (Str × V)),
  xs = [.ref a, c] ∧ ClsV c cv ∧ PySem.W.kitOne K (.ref D) cv = some b ∧ d = some dd ∧ H dd = some (.xd fs) ∧ Q (.bl b) H
theorem call_isD {X : Cx} {a D : Addr} {cls : Value} {d : Option Addr} {oe : Obj} {pn : List (Addr × Obj)} (T : ExcC X.K D) (hz : Zc cls d oe) (hf : ∃ vs, oe.data = .fields vs) :
    CallR (X.suite a ((a, oe) :: pn)) (.builtin "isinstance") (rIsD X.K D a cls d) := by
  intro pins s σ H xs us Q I rv h
  obtain ⟨ec, c, cv, b, dd, fs, rfl, kc, e, e1, ed, q⟩ := h
  subst ec e1
  obtain ⟨u1, u2, rfl, r1, r2⟩ := vals2 rv
  cases r1
  have e2 := kc.eq r2
  subst e2
  obtain ⟨at_, _⟩ := I.pin (a, oe) (List.mem_append.mpr (.inl List.mem_cons_self))
  obtain ⟨vs, hv⟩ := hf
  obtain ⟨mA, hns, _⟩ := I.hok dd _ ed
  obtain ⟨od, ho, _⟩ := lookIn_ns hns
  have J : PySem.W.InstAt s.heap a oe D (some od) := ⟨at_, hz.1, by unfold PySem.W.notCls; rw [hv] <;> rfl, by rw [hz.2]; exact ho⟩
  exact PySem.W.kia_one (kit_exc T) I.kIn ⟨od, J⟩ e (fun z => nomatch z) fun tk => ⟨.bl b, H, I.kept (t' := tk) fun _ _ z => z, rfl, q⟩
/-! ### f(k = e, ..) without a positional argument, in a try's body -/
section
variable {X : Cx} {C : CXT} {k : Nat} {f : Addr} {fd : FuncData} {ps ks : List Str} {sp : Sp} {E : L2.St → XK} {x : Str} {p pos : Pos} {kws : List Keyword} {tk : TA}
theorem pe_callKS (F : FnOk X.prog X.w X.K X.mg X.base C k f fd ps sp) (hr : Room k X.A) (hg : Gl X x) (hm : X.mg x = some (.ref f)) (hk : PySem.W.keepIn X.K (.ref f) = true)
    (hb : ∀ (s : Shared) (ws : List Value), X.K.In s.heap → ws.length = ps.length → BindsTo s fd ⟨[], ks.zip ws⟩ (ps.zip ws)) (hx : ∀ σ, PassesAt C X σ (E σ))
    (hkw : PK X kws tk) (hall : (backToKw pos (keywordEach kws X.env)).all (·.1.isSome) = true := by rfl) (hks : (backToKw pos (keywordEach kws X.env)).filterMap (·.1) = ks := by rfl)
    (hpl : ((backTo pos (starEach [] X.env)).any (·.1) || (backToKw pos (keywordEach kws X.env)).any (·.1.isNone)) = false := by rfl) (hdb : (x == ("__debug__" : Str)) = false := by decide) :
    PE X (.Call (.Name x p) [] kws pos) (fun σ H Q => tk σ H fun vs H1 => sp vs H1 Q (E σ)) := by
  refine ⟨fun pins s σ H Q I h => wpAny_Call_Name_kw (ld_glob I hg hm ?_ hdb)⟩
  refine PySem.W.callWith_KW0 (h₀ := X.base) I.ok.mod.kin hk hall (thn (hkw.run pos pins s σ H _ I h) fun ws s1 ⟨zs, H1, J, rz, q⟩ => ⟨J.kIn, ?_⟩) ?_
  · rw [hks]
    have n : ws.length = ps.length := by rw [← rz.length]; exact F.len _ _ _ _ q
    refine wpAny_call (codeAny_mono (F.run X.A X.stack s1 H1 ⟨[], ks.zip ws⟩ ws zs Q (E σ) hr J.env0 (hb s1 ws J.kIn n) rz q) fun r s' z => ?_)
    match r, z with
    | .error e, z => exact hx σ pins H1 s1 e s' J z
    | .ok (.ret u), z => exact J.after z
    | .ok .next, z => exact z.elim
    | .ok .brk, z => exact z.elim
    | .ok .cont, z => exact z.elim
  · exact hpl
end
end Own


namespace Own
open PySem PySem.Spec PyProof.Rows L2
/-! ### t * 1 is t itself -/
theorem tuple_once (l : Addr) (items : Array Value) (n : Nat) (dd : Option Addr) (sl : Array (Option Value)) (u : Tok) :
    Meets (Builtin.«tuple.__mul__» ⟨[.ref l, .int 1 u], []⟩) (fun _ R s => s.heap.get? l = some { cls := .type "tuple", dict := dd, data := .seq items n, slots := sl } ∧ R (.ok (.ret (.ref l))) s) :=
  .of_wp fun prog w A R s h => by
    obtain ⟨hp, g, d, tk, os⟩ := s
    obtain ⟨hl, h⟩ := h
    have f1 := AutoSeq1.idx_int
    have c0 : (decide ((1 : Int) < -(2 ^ 63)) || decide ((1 : Int) ≥ 2 ^ 63)) = false := by decide
    have c1 : (items.isEmpty || (1 : Int) == 1) = true := by rw [show ((1 : Int) == 1) = true from rfl, Bool.or_true]
    wp_walk using wpAny_loadPart' hl
    repeat (first
      | (refine wpAny_ite_false (decide_eq_false (by rw [c0]; exact Bool.false_ne_true)) ?_; wp_walk using wpAny_loadPart' hl)
      | (refine wpAny_ite_true (decide_eq_true c1) ?_; wp_walk using wpAny_loadPart' hl))
    exact ⟨_, rfl, h⟩
/-- t * 1 -/
def rOnce (K : PySem.W.Frag) : R2 := fun x y H Q => ∃ l xs, x = .ref l ∧ y = .int 1 ∧ SqT K H l xs ∧ Q (.ref l) H
theorem op_once {X : Cx} : OpR X (binaryOp .Mult) (rOnce X.K) := by
  intro pins s σ H x y v u Q I rx ry h
  obtain ⟨l, xs, rfl, rfl, hT, q⟩ := h
  cases rx
  obtain ⟨t, rfl⟩ := ry
  obtain ⟨its, r, ⟨⟨cls, dd, data, sl⟩, ho, hc, n, hd⟩, hs⟩ := I.tuple hT
  simp only at hc hd
  subst hc hd
  exact wpAny_binaryOp_repeat_ref (T := "tuple") (U := "int") (by decide) ⟨_, ho, rfl⟩ (fun s' => typeIs_int s' 1 t) noFill_tuple_mul F.fills_int_mul F.slot_int_rmul repeat_tuple F.slot_int_index.lookup
    (call_meets F.slot_int_rmul (typeIs_int s 1 t) F.entry_int_rmul (F.args_int_rmul_2 _ _) (int_rmul_tuple 1 t l its.toArray n dd sl)
      ⟨ho, rfl, ⟨_, ho, rfl⟩, call_meets F.slot_tuple_mul ⟨_, ho, rfl⟩ F.entry_tuple_mul (F.args_tuple_mul_2 _ _) (tuple_once l its.toArray n dd sl t) ⟨ho, ⟨.ref l, H, I, rfl, q⟩⟩⟩)
/-- t * k, k from 1 on -/
theorem op_times {X : Cx} : OpR X (binaryOp .Mult) (fun x y H Q => rRepT X.K x y H Q ∨ rOnce X.K x y H Q) := OpR.or op_repT op_once
end Own


namespace Own
open PySem PySem.Spec PyProof.Rows L2
/-! ### short names of readings -/
abbrev rAddI : R2 := rI0 fun i j => .int (i + j)
abbrev rSubI : R2 := rI0 fun i j => .int (i - j)
abbrev rMulI : R2 := rI CMul fun i j => .int (i * j)
abbrev rModI : R2 := rI (fun _ j => 0 < j) fun i j => .int (i % j)
abbrev rDivI : R2 := rI CDiv fun i j => .int (i / j)
abbrev rPowI : R2 := rI CPow fun i j => .int (i ^ j.toNat)
abbrev rNegI : V → Hp → VK → Prop := rU fun i => .int (-i)
abbrev rLtI : R2 := rI0 fun i j => .bl (decide (i < j))
abbrev rLeI : R2 := rI0 fun i j => .bl (decide (i ≤ j))
abbrev rGtI : R2 := rI0 fun i j => .bl (decide (j < i))
abbrev rGeI : R2 := rI0 fun i j => .bl (decide (j ≤ i))
abbrev rIsN : R2 := fun x y H Q => y = .non ∧ Q (.bl (decide (x = .non))) H
abbrev rNotN : R2 := fun x y H Q => y = .non ∧ Q (.bl (!decide (x = .non))) H
abbrev rTimes (K : PySem.W.Frag) : R2 := fun x y H Q => rRepT K x y H Q ∨ rOnce K x y H Q
abbrev rLenV (K : PySem.W.Frag) : List V → Hp → VK → Prop := fun xs H Q => ∃ x n, xs = [x] ∧ LenV K x H n ∧ Q (.int n) H
abbrev rMax2 : List V → Hp → VK → Prop := fun xs H Q => ∃ i j, xs = [.int i, .int j] ∧ Q (.int (if j > i then j else i)) H
abbrev rMin2 : List V → Hp → VK → Prop := fun xs H Q => ∃ i j, xs = [.int i, .int j] ∧ Q (.int (if j < i then j else i)) H
abbrev rInt1 : List V → Hp → VK → Prop := fun xs H Q => (∃ i, xs = [.int i] ∧ Q (.int i) H) ∨ ∃ k, xs = [.bl k] ∧ Q (.int (if k then 1 else 0)) H
abbrev rListOf (K : PySem.W.Frag) : List V → Hp → VK → Prop := fun xs H Q => ∃ p ys, xs = [.ref p] ∧ (SqL K H p ys ∨ SqT K H p ys) ∧ ∀ l, H l = none → Q (.ref l) (upd H l (.lst ys))
abbrev rTupOf (K : PySem.W.Frag) : List V → Hp → VK → Prop := fun xs H Q => ∃ p ys, xs = [.ref p] ∧ ((SqL K H p ys ∧ ∀ l, H l = none → Q (.ref l) (upd H l (.tup ys))) ∨ (SqT K H p ys ∧ Q (.ref p) H))
def tGo (sp : Sp) (t : TA) : TE := fun σ H Q => t σ H fun vs H1 => sp vs H1 Q E0
def tRaise (E : XK) (t : L2.St → Hp → XK → Prop) : TS := fun _ σ H => t σ H fun cls d H' => E cls d H'
def tTry (K : PySem.W.Frag) (C : Addr) (i : Nat) (tb : WX → TS) (ts : Addr → Value → Option Addr → TS) : TS := fun D σ H => tb (wAs K (.ref C) i ts (fun _ _ _ _ => False) D) D σ H
/-- a def of the text, at f, under its name -/
structure DefAt (K : PySem.W.Frag) (mg : Str → Option Value) (x : Str) (st : Stmt) (ps : List Str) (f : Addr) (fd : FuncData) : Prop where
  F : Fun K x x st f fd
  g : mg x = some (.ref f)
  b : Binds K fd ps []
/-- the __init__ of an error's class: self.what = what -/
def spInit (K : PySem.W.Frag) : Sp := fun vs H Q _ => ∃ (a C : Addr) (v : V), vs = [.ref a, v] ∧ OexC K C ∧ PySem.W.findIn K (.ref C) "what" = some none ∧ H a = some (exo a C none) ∧
  ∀ dx, H dx = none → dx ≠ a → Q .non (upd (upd H dx (exd dx [(("what" : Str), v)])) a (exo a C (some dx)))
/-- such an error is made: what is wanted of it, at any heap that keeps all that stood -/
theorem mk_what {K : PySem.W.Frag} {C : Addr} {ta : TA} {σ : L2.St} {H : Hp} {Q : XK} {v : V} (T : OexC K C) (hn : PySem.W.findIn K (.ref C) "what" = some none)
    (ha : ta σ H fun vs H1 => vs = [v] ∧ ∀ d H2, Same H1 H2 → H1 d = none → H2 d = some (.xd [(("what" : Str), v)]) → Q (.ref C) (some d) H2) : tMkO C (spInit K) [] ta σ H Q → tMkO C (spInit K) [] ta σ H Q := id
end Own


namespace Own
open PySem PySem.Spec PyProof.Rows L2
open Evl (Ex RetV)
/-! ### data without lists, of a bounded text -/
def fine : Nat → PyData → Bool
  | _, .none => true
  | _, .bool _ => true
  | _, .int i => decide (i.natAbs < 2 ^ 64)
  | _, .str x => decide ((reprText x).length ≤ 50) && PyData.canLay0 (.str x)
  | 0, _ => false
  | k + 1, .tuple xs => decide (xs.length ≤ 20) && xs.all (fine k)
  | _ + 1, _ => false
/-- all but lists is kept -/
def Kp (H H' : Hp) : Prop := ∀ a o, H a = some o → (∀ xs, o ≠ .lst xs) → H' a = some o
theorem Kp.refl (H : Hp) : Kp H H := fun _ _ h _ => h
theorem Kp.trans {H H1 H2 : Hp} (a : Kp H H1) (b : Kp H1 H2) : Kp H H2 := fun x o h n => b x o (a x o h n) n
theorem Kp.ex {H H' : Hp} (e : Ex H H') : Kp H H' := fun a o h _ => e a o h
theorem Kp.lst {H : Hp} {l : Addr} {xs ys : List V} (h : H l = some (.lst xs)) : Kp H (upd H l (.lst ys)) := fun a o q n => by
  by_cases e : a = l
  · subst e
    rw [h] at q
    injection q with q
    exact absurd q.symm (n xs)
  · rw [upd_ne e]
    exact q
theorem Kp.new {H : Hp} {l : Addr} {o : HO} (h : H l = none) : Kp H (upd H l o) := .ex (Evl.Ex.new h)
theorem Kp.rd {H H' : Hp} {a : Addr} {xs : List V} (e : Kp H H') (h : Rd H a (.tup xs)) : Rd H' a (.tup xs) := by
  rcases h with h | ⟨o, h⟩
  · exact .inl (e a _ h fun _ z => by cases z)
  · exact .inr ⟨o, e a _ h fun _ z => by cases z⟩
theorem Kp.sqT {K : PySem.W.Frag} {H H' : Hp} {a : Addr} {xs : List V} (e : Kp H H') (h : SqT K H a xs) : SqT K H' a xs := h.elim (fun h => .inl (e.rd h)) .inr
/-- v reads as d -/
structure Gd (K : PySem.W.Frag) (H : Hp) (k : Nat) (v : V) (d : PyData) : Prop where
  dp : Dp K H v d
  fn : fine k d = true
mutual
theorem dp_kp {K : PySem.W.Frag} {H H' : Hp} (e : Kp H H') : ∀ (d : PyData) (k : Nat) (v : V), Dp K H v d → fine k d = true → Dp K H' v d
  | .none, _, _, h, _ => by cases h; exact .non
  | .bool b, _, _, h, _ => by cases h; exact .bl b
  | .int i, _, _, h, _ => by cases h; exact .int i
  | .str x, _, _, h, _ => by cases h; exact .str x
  | .list ds, k, _, _, f => by cases k <;> simp [fine] at f
  | .tuple ds, 0, _, _, f => by simp [fine] at f
  | .tuple ds, k + 1, _, h, f => by
    cases h with
    | tup hs ha =>
      simp only [fine, Bool.and_eq_true, decide_eq_true_eq] at f
      exact .tup (e.sqT hs) (dpAll_kp e ds k _ ha (List.all_eq_true.mp f.2))
  | .dict _, _, _, h, _ => by cases h
theorem dpAll_kp {K : PySem.W.Frag} {H H' : Hp} (e : Kp H H') : ∀ (ds : List PyData) (k : Nat) (vs : List V), DpAll K H vs ds → (∀ d ∈ ds, fine k d = true) → DpAll K H' vs ds
  | [], _, _, h, _ => by cases h; exact .nil
  | d :: ds, k, _, h, f => by
    cases h with
    | cons h1 h2 => exact .cons (dp_kp e d k _ h1 (f d List.mem_cons_self)) (dpAll_kp e ds k _ h2 fun x hx => f x (List.mem_cons_of_mem _ hx))
end
theorem Gd.kp {K : PySem.W.Frag} {H H' : Hp} {k : Nat} {v : V} {d : PyData} (e : Kp H H') (g : Gd K H k v d) : Gd K H' k v d := ⟨dp_kp e d k v g.dp g.fn, g.fn⟩
theorem Gd.ex {K : PySem.W.Frag} {H H' : Hp} {k : Nat} {v : V} {d : PyData} (e : Ex H H') (g : Gd K H k v d) : Gd K H' k v d := g.kp (.ex e)
theorem fine_up : ∀ {k j : Nat} {d : PyData}, k ≤ j → fine k d = true → fine j d = true
  | k, j, .none, _, _ => by cases j <;> rfl
  | k, j, .bool _, _, _ => by cases j <;> rfl
  | k, j, .int i, _, h => by cases k <;> cases j <;> exact h
  | k, j, .str x, _, h => by cases k <;> cases j <;> exact h
  | 0, _, .list _, _, h => by simp [fine] at h
  | _ + 1, _, .list _, _, h => by simp [fine] at h
  | 0, _, .dict _, _, h => by simp [fine] at h
  | _ + 1, _, .dict _, _, h => by simp [fine] at h
  | 0, _, .tuple _, _, h => by simp [fine] at h
  | k + 1, 0, .tuple _, l, _ => by omega
  | k + 1, j + 1, .tuple xs, l, h => by
    simp only [fine, Bool.and_eq_true, decide_eq_true_eq, List.all_eq_true] at h ⊢
    exact ⟨h.1, fun d hd => fine_up (by omega) (h.2 d hd)⟩
theorem Gd.up {K : PySem.W.Frag} {H : Hp} {k j : Nat} {v : V} {d : PyData} (l : k ≤ j) (g : Gd K H k v d) : Gd K H j v d := ⟨g.dp, fine_up l g.fn⟩
/-! ### its text -/
def mostText : Nat → Nat
  | 0 => 50
  | k + 1 => 20 * (mostText k + 2) + 2
theorem mostText_ge : ∀ k, 50 ≤ mostText k
  | 0 => Nat.le_refl _
  | k + 1 => by have := mostText_ge k; show 50 ≤ 20 * (mostText k + 2) + 2; omega
theorem tuple_text (ts : List Str) : (tupleText ts).length ≤ piled ts + 2 := PySem.fmt_text ts
end Own
namespace Own
open PySem PySem.Spec PyProof.Rows L2
open Evl (Ex RetV)
theorem digits_len (i : Int) (h : i.natAbs < 2 ^ 64) : ((toString i : String) : Str).length ≤ 50 := by
  have e := int_text_length_le10 (a := i) (k := 20) (by decide) (Nat.lt_of_lt_of_le h (by decide))
  rw [PySem.ofString_length]
  omega
mutual
theorem text_le : ∀ (d : PyData) (k : Nat), fine k d = true → d.shown.length ≤ mostText k
  | .none, k, _ => Nat.le_trans (by simp only [PyData.shown]; decide +kernel) (mostText_ge k)
  | .bool true, k, _ => Nat.le_trans (by simp only [PyData.shown]; decide +kernel) (mostText_ge k)
  | .bool false, k, _ => Nat.le_trans (by simp only [PyData.shown]; decide +kernel) (mostText_ge k)
  | .int i, k, f => by
    have h : i.natAbs < 2 ^ 64 := by cases k <;> simpa [fine] using f
    simp only [PyData.shown]
    exact Nat.le_trans (digits_len i h) (mostText_ge k)
  | .str x, k, f => by
    have h : (reprText x).length ≤ 50 := by cases k <;> exact of_decide_eq_true (Bool.and_eq_true_iff.mp f).1
    simp only [PyData.shown]
    exact Nat.le_trans h (mostText_ge k)
  | .list _, k, f => by cases k <;> simp [fine] at f
  | .dict _, k, f => by cases k <;> simp [fine] at f
  | .tuple _, 0, f => by simp [fine] at f
  | .tuple xs, k + 1, f => by
    simp only [fine, Bool.and_eq_true, decide_eq_true_eq] at f
    have h1 := texts_le xs k (List.all_eq_true.mp f.2)
    have h2 := tuple_text (PyData.shownAll xs)
    simp only [PyData.shown]
    have h3 : xs.length * (mostText k + 2) ≤ 20 * (mostText k + 2) := Nat.mul_le_mul_right _ f.1
    show _ ≤ 20 * (mostText k + 2) + 2
    omega
theorem texts_le : ∀ (ds : List PyData) (k : Nat), (∀ d ∈ ds, fine k d = true) → piled (PyData.shownAll ds) ≤ ds.length * (mostText k + 2)
  | [], _, _ => by simp [PyData.shownAll, piled]
  | d :: ds, k, f => by
    have h1 := text_le d k (f d List.mem_cons_self)
    have h2 := texts_le ds k fun x hx => f x (List.mem_cons_of_mem _ hx)
    simp only [PyData.shownAll, piled_cons, List.length_cons, Nat.succ_mul]
    omega
end
mutual
theorem shows : ∀ (d : PyData) (k : Nat), fine k d = true → d.showable = true ∧ d.hasDict = false ∧ d.depth ≤ k + 1
  | .none, k, _ => ⟨rfl, rfl, by simp [PyData.depth]⟩
  | .bool _, k, _ => ⟨rfl, rfl, by simp [PyData.depth]⟩
  | .str x, k, _ => ⟨rfl, rfl, by simp [PyData.depth]⟩
  | .int i, k, f => by
    have h : i.natAbs < 2 ^ 64 := by cases k <;> simpa [fine] using f
    refine ⟨?_, rfl, by simp [PyData.depth]⟩
    simp only [PyData.showable, decide_eq_true_eq]
    by_cases z : i.natAbs = 0
    · rw [z]; decide
    · have := (Nat.log2_lt z).mpr h
      omega
  | .list _, k, f => by cases k <;> simp [fine] at f
  | .dict _, k, f => by cases k <;> simp [fine] at f
  | .tuple _, 0, f => by simp [fine] at f
  | .tuple xs, k + 1, f => by
    simp only [fine, Bool.and_eq_true, decide_eq_true_eq] at f
    have h := showsAll xs k (List.all_eq_true.mp f.2)
    refine ⟨by simpa only [PyData.showable] using h.1, by simpa only [PyData.hasDict] using h.2.1, ?_⟩
    simp only [PyData.depth]
    omega
theorem showsAll : ∀ (ds : List PyData) (k : Nat), (∀ d ∈ ds, fine k d = true) → PyData.showableAll ds = true ∧ PyData.hasDictAll ds = false ∧ PyData.depthAll ds ≤ k + 1
  | [], k, _ => ⟨rfl, rfl, by simp [PyData.depthAll]⟩
  | d :: ds, k, f => by
    have h1 := shows d k (f d List.mem_cons_self)
    have h2 := showsAll ds k fun x hx => f x (List.mem_cons_of_mem _ hx)
    refine ⟨by simp [PyData.showableAll, h1.1, h2.1], by simp [PyData.hasDictAll, h1.2.1, h2.2.1], ?_⟩
    simp only [PyData.depthAll]
    omega
end
end Own


namespace Own
open PySem PySem.Spec PyProof.Rows L2
open Evl (Ex RetV)
theorem kit_self {K : PySem.W.Frag} {C : Addr} : PySem.W.kitOne K (.ref C) (.ref C) = some true := if_pos (beq_self_eq_true _)
/-! ### what is asked of data -/
def tyOf : PyData → String
  | .none => "NoneType"
  | .bool _ => "bool"
  | .int _ => "int"
  | .str _ => "str"
  | .list _ => "list"
  | .tuple _ => "tuple"
  | .dict _ => "dict"
theorem tyx {K : PySem.W.Frag} {H : Hp} {v : V} {d : PyData} (h : Dp K H v d) (n : ∀ xs, d ≠ .list xs) : TyX K H v (.type (tyOf d)) := by
  cases h with
  | non => exact .base .non
  | bl b => exact .base (.bl b)
  | int i => exact .base (.int i)
  | str x => exact .base (.str x)
  | lst hs _ => exact absurd rfl (n _)
  | tup hs _ =>
    rcases hs with (h | ⟨o, h⟩) | ⟨o, its, n, h, hc, _⟩
    · exact .base (.tup h)
    · exact .fTuple h
    · exact .kTuple h hc
theorem fine_nl {k : Nat} {d : PyData} (f : fine k d = true) : ∀ xs, d ≠ .list xs := fun xs e => by
  subst e
  cases k <;> simp [fine] at f
theorem fine_nd {k : Nat} {d : PyData} (f : fine k d = true) : ∀ xs, d ≠ .dict xs := fun xs e => by
  subst e
  cases k <;> simp [fine] at f
/-- isinstance of data and a built-in type -/
theorem isi_d {K : PySem.W.Frag} {H : Hp} {k : Nat} {v : V} {d : PyData} {t : String} {b : Bool} {Q : VK} (g : Gd K H k v d) (e : kitB (tyOf d) t = some b) (q : Q (.bl b) H) : rIsi K [v, .ty t] H Q :=
  ⟨v, .ty t, _, .type t, b, rfl, .ty t, tyx g.dp (fine_nl g.fn), kit_ty e, q⟩
def isI : PyData → Bool
  | .bool _ => true
  | .int _ => true
  | _ => false
def isB : PyData → Bool
  | .bool _ => true
  | _ => false
def isT : PyData → Bool
  | .tuple _ => true
  | _ => false
theorem isi_int {K : PySem.W.Frag} {H : Hp} {k : Nat} {v : V} {d : PyData} {Q : VK} (g : Gd K H k v d) (q : Q (.bl (isI d)) H) : rIsi K [v, .ty "int"] H Q := by
  refine isi_d (b := isI d) g ?_ q
  cases d with
  | none => exact (by decide +kernel : kitB "NoneType" "int" = some false)
  | bool b => exact (by decide +kernel : kitB "bool" "int" = some true)
  | int i => exact (by decide +kernel : kitB "int" "int" = some true)
  | str x => exact (by decide +kernel : kitB "str" "int" = some false)
  | list xs => exact (by decide +kernel : kitB "list" "int" = some false)
  | tuple xs => exact (by decide +kernel : kitB "tuple" "int" = some false)
  | dict xs => exact (by decide +kernel : kitB "dict" "int" = some false)
theorem isi_bool {K : PySem.W.Frag} {H : Hp} {k : Nat} {v : V} {d : PyData} {Q : VK} (g : Gd K H k v d) (q : Q (.bl (isB d)) H) : rIsi K [v, .ty "bool"] H Q := by
  refine isi_d (b := isB d) g ?_ q
  cases d with
  | none => exact (by decide +kernel : kitB "NoneType" "bool" = some false)
  | bool b => exact (by decide +kernel : kitB "bool" "bool" = some true)
  | int i => exact (by decide +kernel : kitB "int" "bool" = some false)
  | str x => exact (by decide +kernel : kitB "str" "bool" = some false)
  | list xs => exact (by decide +kernel : kitB "list" "bool" = some false)
  | tuple xs => exact (by decide +kernel : kitB "tuple" "bool" = some false)
  | dict xs => exact (by decide +kernel : kitB "dict" "bool" = some false)
theorem isi_tup {K : PySem.W.Frag} {H : Hp} {k : Nat} {v : V} {d : PyData} {Q : VK} (g : Gd K H k v d) (q : Q (.bl (isT d)) H) : rIsi K [v, .ty "tuple"] H Q := by
  refine isi_d (b := isT d) g ?_ q
  cases d with
  | none => exact (by decide +kernel : kitB "NoneType" "tuple" = some false)
  | bool b => exact (by decide +kernel : kitB "bool" "tuple" = some false)
  | int i => exact (by decide +kernel : kitB "int" "tuple" = some false)
  | str x => exact (by decide +kernel : kitB "str" "tuple" = some false)
  | list xs => exact (by decide +kernel : kitB "list" "tuple" = some false)
  | tuple xs => exact (by decide +kernel : kitB "tuple" "tuple" = some true)
  | dict xs => exact (by decide +kernel : kitB "dict" "tuple" = some false)
/-- a number from lo to hi -/
def within (d : PyData) (lo hi : Int) : Bool := match d with
  | .int i => decide (lo ≤ i) && decide (i ≤ hi)
  | _ => false
theorem dpAll_len {K : PySem.W.Frag} {H : Hp} : ∀ {vs : List V} {ds : List PyData}, DpAll K H vs ds → vs.length = ds.length
  | _, _, .nil => rfl
  | _, _, .cons _ t => congrArg Nat.succ (dpAll_len t)
theorem dpAll_get {K : PySem.W.Frag} {H : Hp} : ∀ {vs : List V} {ds : List PyData} {i : Nat} {v : V}, DpAll K H vs ds → vs[i]? = some v → ∃ d, ds[i]? = some d ∧ Dp K H v d
  | _, _, _, _, .nil, e => by simp at e
  | _, _, 0, _, .cons h _, e => by simp at e; subst e; exact ⟨_, rfl, h⟩
  | _, _, i + 1, v, .cons _ t, e => by
    obtain ⟨d, h1, h2⟩ := dpAll_get (i := i) (v := v) t (by simpa using e)
    exact ⟨d, by simpa using h1, h2⟩
/-- a tuple of data: where it stands, its items -/
theorem Gd.tup {K : PySem.W.Frag} {H : Hp} {k : Nat} {v : V} {ds : List PyData} (g : Gd K H k v (.tuple ds)) : ∃ a xs j, v = .ref a ∧ k = j + 1 ∧ SqT K H a xs ∧ xs.length = ds.length ∧ ds.length ≤ 20 ∧ DpAll K H xs ds ∧ (∀ d ∈ ds, fine j d = true) ∧
    ∀ (i : Nat) (x : V), xs[i]? = some x → ∃ d, ds[i]? = some d ∧ Gd K H j x d := by
  obtain ⟨h, f⟩ := g
  cases h with
  | tup hs ha =>
    rename_i a xs
    match k, f with
    | 0, f => simp [fine] at f
    | j + 1, f =>
      simp only [fine, Bool.and_eq_true, decide_eq_true_eq] at f
      have fa := List.all_eq_true.mp f.2
      exact ⟨a, xs, j, rfl, rfl, hs, dpAll_len ha, f.1, ha, fa, fun i x e => let ⟨d, h1, h2⟩ := dpAll_get ha e; ⟨d, h1, h2, fa d (List.mem_of_getElem? h1)⟩⟩
/-- the text of data, asked -/
theorem show_d {K : PySem.W.Frag} {H : Hp} {k : Nat} {v : V} {d : PyData} {Q : VK} (g : Gd K H k v d) (hk : k ≤ 4) (q : Q (.str d.shown) H) : rShow K [v] H Q := by
  obtain ⟨h1, h2, h3⟩ := shows d k g.fn
  have h4 := text_le d k g.fn
  have h5 : mostText k ≤ sizeLine := by
    match k, hk with
    | 0, _ => decide
    | 1, _ => decide
    | 2, _ => decide
    | 3, _ => decide
    | 4, _ => decide
  exact ⟨v, d, rfl, g.dp, ⟨h1, h2, by omega, by omega⟩, q⟩
theorem gd_bl {K : PySem.W.Frag} {H : Hp} {b : Bool} : Gd K H 0 (.bl b) (.bool b) := ⟨.bl b, rfl⟩
theorem gd_int {K : PySem.W.Frag} {H : Hp} {i : Int} (h : i.natAbs < 2 ^ 64) : Gd K H 0 (.int i) (.int i) := ⟨.int i, decide_eq_true h⟩
theorem gd_non {K : PySem.W.Frag} {H : Hp} : Gd K H 0 .non .none := ⟨.non, rfl⟩
theorem gd_str {K : PySem.W.Frag} {H : Hp} {x : Str} (h : fine 0 (.str x) = true) : Gd K H 0 (.str x) (.str x) := ⟨.str x, h⟩
end Own


namespace Own
open PySem PySem.Spec PyProof.Rows L2
open Evl
section
variable {K : PySem.W.Frag} {σ : L2.St} {H H' : Hp} {ta tb tc te : TE} {x y v : V} {k : Nat} {d : PyData} {D : Ends}
theorem ev_isi {t : String} {b : Bool} (h : Ev ta σ H x) (r : ∀ H1, Ex H H1 → ∀ Q : VK, Q (.bl b) H1 → rIsi K [x, .ty t] H1 Q) : Ev (tCB (rIsi K) (tCons ta (tCons (tC (.ty t)) tNil))) σ H (.bl b) :=
  fun H1 e Q q => h H1 e _ fun H2 e2 => r H2 (e.trans e2) Q (q H2 e2)
theorem ev_isI (h : Ev ta σ H x) (g : Gd K H k x d) : Ev (tCB (rIsi K) (tCons ta (tCons (tC (.ty "int")) tNil))) σ H (.bl (isI d)) := ev_isi h fun _ e _ q => isi_int (g.ex e) q
theorem ev_isB (h : Ev ta σ H x) (g : Gd K H k x d) : Ev (tCB (rIsi K) (tCons ta (tCons (tC (.ty "bool")) tNil))) σ H (.bl (isB d)) := ev_isi h fun _ e _ q => isi_bool (g.ex e) q
theorem ev_isT (h : Ev ta σ H x) (g : Gd K H k x d) : Ev (tCB (rIsi K) (tCons ta (tCons (tC (.ty "tuple")) tNil))) σ H (.bl (isT d)) := ev_isi h fun _ e _ q => isi_tup (g.ex e) q
theorem ev_chain {i j l : Int} (ha : Ev ta σ H (.int i)) (hb : Ev tb σ H (.int j)) (hc : Ev tc σ H (.int l)) : Ev (tChain rLeI rLeI ta tb tc) σ H (.bl (decide (i ≤ j) && decide (j ≤ l))) :=
  fun H1 e Q q => ha H1 e _ fun H2 e2 => hb H2 (e.trans e2) _ fun H3 e3 => ⟨i, j, rfl, rfl, _, rfl, by
    by_cases c : i ≤ j
    · rw [decide_eq_true c]
      exact iteT (hc H3 ((e.trans e2).trans e3) _ fun H4 e4 => ⟨j, l, rfl, rfl, by simpa [c] using q H4 ((e2.trans e3).trans e4)⟩)
    · rw [decide_eq_false c]
      exact iteF (by simpa [c] using q H3 (e2.trans e3))⟩
theorem ev_lenT {a : Addr} {xs : List V} (h : Ev ta σ H (.ref a)) (hs : SqT K H a xs) : Ev (tCB (rLenV K) (tCons ta tNil)) σ H (.int (xs.length : Int)) :=
  fun H1 e Q q => h H1 e _ fun H2 e2 => ⟨_, _, rfl, .inr ⟨xs, ex_t (e.trans e2) hs, rfl⟩, q H2 e2⟩
theorem ev_lenL {a : Addr} {xs : List V} (h : Ev ta σ H (.ref a)) (hs : SqL K H a xs) : Ev (tCB (rLenV K) (tCons ta tNil)) σ H (.int (xs.length : Int)) :=
  fun H1 e Q q => h H1 e _ fun H2 e2 => ⟨_, _, rfl, .inl ⟨xs, ex_l (e.trans e2) hs, rfl⟩, q H2 e2⟩
theorem ev_addI {i j : Int} (ha : Ev ta σ H (.int i)) (hb : Ev tb σ H (.int j)) : Ev (tOp rAddI ta tb) σ H (.int (i + j)) := ev_op ha hb rv_I0
theorem ev_subI {i j : Int} (ha : Ev ta σ H (.int i)) (hb : Ev tb σ H (.int j)) : Ev (tOp rSubI ta tb) σ H (.int (i - j)) := ev_op ha hb rv_I0
theorem ev_mulI {i j : Int} (ha : Ev ta σ H (.int i)) (hb : Ev tb σ H (.int j)) (c : CMul i j) : Ev (tOp rMulI ta tb) σ H (.int (i * j)) := ev_op ha hb (rv_I (C := CMul) c)
theorem ev_modI {i j : Int} (ha : Ev ta σ H (.int i)) (hb : Ev tb σ H (.int j)) (c : 0 < j) : Ev (tOp rModI ta tb) σ H (.int (i % j)) := ev_op ha hb (rv_I (C := fun _ j => 0 < j) c)
theorem ev_ltI {i j : Int} (ha : Ev ta σ H (.int i)) (hb : Ev tb σ H (.int j)) : EvT (tTest (tOp rLtI ta tb)) σ H (decide (i < j)) := et_test (ev_op ha hb rv_I0)
theorem ev_leI {i j : Int} (ha : Ev ta σ H (.int i)) (hb : Ev tb σ H (.int j)) : EvT (tTest (tOp rLeI ta tb)) σ H (decide (i ≤ j)) := et_test (ev_op ha hb rv_I0)
theorem ev_gtI {i j : Int} (ha : Ev ta σ H (.int i)) (hb : Ev tb σ H (.int j)) : EvT (tTest (tOp rGtI ta tb)) σ H (decide (j < i)) := et_test (ev_op ha hb rv_I0)
theorem ev_geI {i j : Int} (ha : Ev ta σ H (.int i)) (hb : Ev tb σ H (.int j)) : EvT (tTest (tOp rGeI ta tb)) σ H (decide (j ≤ i)) := et_test (ev_op ha hb rv_I0)
theorem dec_int' {i j : Int} : decide (V.int i = V.int j) = decide (i = j) := by
  by_cases h : i = j
  · subst h; simp
  · simp [h]
theorem ev_eqI {i j : Int} (ha : Ev ta σ H (.int i)) (hb : Ev tb σ H (.int j)) : Ev (tOp rEq ta tb) σ H (.bl (decide (i = j))) := by
  rw [← dec_int']
  exact ev_op ha hb (rv_eq rfl)
theorem ev_neI {i j : Int} (ha : Ev ta σ H (.int i)) (hb : Ev tb σ H (.int j)) : Ev (tOp rNe ta tb) σ H (.bl (!decide (i = j))) := by
  rw [← dec_int']
  exact ev_op ha hb (rv_ne rfl)
theorem et_eqI {i j : Int} (ha : Ev ta σ H (.int i)) (hb : Ev tb σ H (.int j)) : EvT (tTest (tOp rEq ta tb)) σ H (decide (i = j)) := et_test (ev_eqI ha hb)
theorem et_neI {i j : Int} (ha : Ev ta σ H (.int i)) (hb : Ev tb σ H (.int j)) : EvT (tTest (tOp rNe ta tb)) σ H (!decide (i = j)) := et_test (ev_neI ha hb)
theorem ev_isN (ha : Ev ta σ H x) : Ev (tOp rIsN ta (tC .non)) σ H (.bl (decide (x = .non))) := fun H1 e Q q => ha H1 e _ fun H2 e2 => ⟨rfl, q H2 e2⟩
theorem ev_notN (ha : Ev ta σ H x) : Ev (tOp rNotN ta (tC .non)) σ H (.bl (!decide (x = .non))) := fun H1 e Q q => ha H1 e _ fun H2 e2 => ⟨rfl, q H2 e2⟩
theorem ev_min2 {i j : Int} (ha : Ev ta σ H (.int i)) (hb : Ev tb σ H (.int j)) : Ev (tCB rMin2 (tCons ta (tCons tb tNil))) σ H (.int (if j < i then j else i)) :=
  fun H1 e Q q => ha H1 e _ fun H2 e2 => hb H2 (e.trans e2) _ fun H3 e3 => ⟨i, j, rfl, q H3 (e2.trans e3)⟩
theorem ev_max2 {i j : Int} (ha : Ev ta σ H (.int i)) (hb : Ev tb σ H (.int j)) : Ev (tCB rMax2 (tCons ta (tCons tb tNil))) σ H (.int (if j > i then j else i)) :=
  fun H1 e Q q => ha H1 e _ fun H2 e2 => hb H2 (e.trans e2) _ fun H3 e3 => ⟨i, j, rfl, q H3 (e2.trans e3)⟩
theorem ev_int1 {i : Int} (ha : Ev ta σ H (.int i)) : Ev (tCB rInt1 (tCons ta tNil)) σ H (.int i) := fun H1 e Q q => ha H1 e _ fun H2 e2 => .inl ⟨i, rfl, q H2 e2⟩
theorem ev_intB {b : Bool} (ha : Ev ta σ H (.bl b)) : Ev (tCB rInt1 (tCons ta tNil)) σ H (.int (if b then 1 else 0)) := fun H1 e Q q => ha H1 e _ fun H2 e2 => .inr ⟨b, rfl, q H2 e2⟩
theorem ev_ixL {a : Addr} {xs : List V} {i : Int} (ha : Ev ta σ H (.ref a)) (hb : Ev tb σ H (.int i)) (hs : SqL K H a xs) (h : atI xs i = some v) : Ev (tOp (rIxL K) ta tb) σ H v := ev_op ha hb (rv_ixL hs h)
theorem ev_ixT {a : Addr} {xs : List V} {i : Int} (ha : Ev ta σ H (.ref a)) (hb : Ev tb σ H (.int i)) (hs : SqT K H a xs) (h : atI xs i = some v) : Ev (tOp (rIxT K) ta tb) σ H v := ev_op ha hb (rv_ixT hs h)
theorem ea_1 (h : Ev ta σ H x) : EvA (tCons ta tNil) σ H [x] := ea_cons h ea_nil
theorem ea_2 (h : Ev ta σ H x) (h2 : Ev tb σ H y) : EvA (tCons ta (tCons tb tNil)) σ H [x, y] := ea_cons h (ea_1 h2)
theorem ea_3 (h : Ev ta σ H x) (h2 : Ev tb σ H y) (h3 : Ev tc σ H v) : EvA (tCons ta (tCons tb (tCons tc tNil))) σ H [x, y, v] := ea_cons h (ea_2 h2 h3)
/-- a promise of a value alone, as Evl has it -/
theorem spv {sp : Sp} {vs : List V} {z : V} (h : ∀ H1, Ex H H1 → ∀ Q : VK, RetV z H1 Q → ∀ E : XK, sp vs H1 Q E) : SpV sp vs H z := fun H1 e Q q E => h H1 e Q q E
end
end Own


namespace Own
open PySem PySem.Spec PyProof.Rows L2
open Evl
section
variable {K : PySem.W.Frag} {σ : L2.St} {H H' : Hp} {ta tb tc te : TE} {t : TT} {x y v : V} {k : Nat} {d : PyData} {D : Ends}
/-- over a range from lo -/
theorem el_lcRg {ta : TA} {j : Nat} {vs : List Nat} {lo hi : Int} (f : Nat → Bool) (v : Nat → V) (h : EvA ta σ H [.int lo, .int hi]) (h1 : 0 ≤ lo ∧ lo ≤ 100000) (h2 : lo ≤ hi ∧ hi ≤ lo + 40000) (hw : ∀ x, wipe ((wipe σ vs).set j (some x)) vs = wipe σ vs)
    (ht : ∀ (i : Nat) H1, Ex H H1 → (i : Int) < hi - lo → EvT t ((wipe σ vs).set j (some (.int (lo + (i : Int))))) H1 (f i)) (he : ∀ (i : Nat) H1, Ex H H1 → (i : Int) < hi - lo → f i = true → Ev te ((wipe σ vs).set j (some (.int (lo + (i : Int))))) H1 (v i)) :
    EvL (tLc (iRng2 ta) (gName j) t te vs) σ H (given (hi - lo).toNat f v) := fun H0 e Q q => h H0 e _ fun H1 e1 => ⟨lo, hi, rfl, ⟨by omega, by omega, by omega, by omega⟩, fun Dl hD =>
  lc_range (lo := lo) (n := (hi - lo).toNat) (Cw H1 f v Dl) ⟨hD, Ex.new hD, upd_same⟩
    (fun i H' hi p => ⟨hw _, cw_turn p (by omega) (ht i H1 (e.trans e1) (by omega)) (fun hf => he i H1 (e.trans e1) (by omega) hf)⟩) (fun H' p => q Dl H' (fresh_back e1 p.1) (e1.trans p.2.1) p.2.2)⟩
/-- over a tuple -/
theorem el_lcTp {a : Addr} {xs : List V} {tl : TE} {j : Nat} {vs : List Nat} (f : Nat → Bool) (v : Nat → V) (h : Ev tl σ H (.ref a)) (hx : SqT K H a xs) (hz : xs.length ≤ 40000) (hw : ∀ x, wipe ((wipe σ vs).set j (some x)) vs = wipe σ vs)
    (ht : ∀ (i : Nat) (x : V) H1, Ex H H1 → xs[i]? = some x → EvT t ((wipe σ vs).set j (some x)) H1 (f i)) (he : ∀ (i : Nat) (x : V) H1, Ex H H1 → xs[i]? = some x → f i = true → Ev te ((wipe σ vs).set j (some x)) H1 (v i)) :
    EvL (tLc (iTup K tl) (gName j) t te vs) σ H (given xs.length f v) := fun H0 e Q q => h H0 e _ fun H1 e1 => ⟨a, rfl, ⟨xs, ex_t (e.trans e1) hx⟩, fun Dl hD =>
  lc_tup (xs := xs) (Cw H1 f v Dl) ⟨hD, Ex.new hD, upd_same⟩ (fun i H' _ p => ex_t ((e.trans e1).trans p.2.1) hx)
    (fun i x H' hi p => ⟨hw x, cw_turn p (by have := (List.getElem?_eq_some_iff.mp hi).1; omega) (ht i x H1 (e.trans e1) hi) (fun hf => he i x H1 (e.trans e1) hi hf)⟩) (fun H' p => q Dl H' (fresh_back e1 p.1) (e1.trans p.2.1) p.2.2)⟩
theorem et_yes : EvT tYes σ H true := fun H1 e Q q => q H1 (.refl _)
mutual
theorem fine_lay : ∀ (d : PyData) (k : Nat), fine k d = true → d.canLay0 = true
  | .none, _, _ => rfl
  | .bool _, _, _ => rfl
  | .int _, _, _ => rfl
  | .str x, k, f => by cases k <;> exact (Bool.and_eq_true_iff.mp f).2
  | .list _, k, f => by cases k <;> simp [fine] at f
  | .dict _, k, f => by cases k <;> simp [fine] at f
  | .tuple _, 0, f => by simp [fine] at f
  | .tuple xs, k + 1, f => by
    simp only [fine, Bool.and_eq_true, decide_eq_true_eq] at f
    have h := fine_layAll xs k (List.all_eq_true.mp f.2)
    simpa only [PyData.canLay0] using h
theorem fine_layAll : ∀ (ds : List PyData) (k : Nat), (∀ d ∈ ds, fine k d = true) → PyData.canLayAll0 ds = true
  | [], _, _ => rfl
  | d :: ds, k, f => by
    have h1 := fine_lay d k (f d List.mem_cons_self)
    have h2 := fine_layAll ds k fun x hx => f x (List.mem_cons_of_mem _ hx)
    simp [PyData.canLayAll0, h1, h2]
end
theorem fine_shaped {d : PyData} {k : Nat} (hk : k ≤ 60) (f : fine k d = true) : SeqAt.shaped d = true := by
  unfold SeqAt.shaped
  rw [fine_lay d k f, decide_eq_true (show d.depth ≤ 64 by have := (shows d k f).2.2; omega)]
  rfl
/-- a list of data -/
inductive GdAll (K : PySem.W.Frag) (H : Hp) (k : Nat) : List V → List PyData → Prop
  | nil : GdAll K H k [] []
  | cons {v : V} {vs : List V} {d : PyData} {ds : List PyData} : Gd K H k v d → GdAll K H k vs ds → GdAll K H k (v :: vs) (d :: ds)
theorem GdAll.dp {k : Nat} : ∀ {vs : List V} {ds : List PyData}, GdAll K H k vs ds → DpAll K H vs ds ∧ ∀ d ∈ ds, fine k d = true
  | _, _, .nil => ⟨.nil, fun _ h => absurd h List.not_mem_nil⟩
  | _, _, .cons g t => ⟨.cons g.dp t.dp.1, fun d h => by
    rcases List.mem_cons.mp h with e | e
    · rw [e]; exact g.fn
    · exact t.dp.2 d e⟩
theorem gdAll_of {k : Nat} : ∀ {vs : List V}, (∀ v ∈ vs, ∃ d, Gd K H k v d) → ∃ ds, GdAll K H k vs ds
  | [], _ => ⟨[], .nil⟩
  | v :: vs, h => by
    obtain ⟨d, g⟩ := h v List.mem_cons_self
    obtain ⟨ds, gs⟩ := gdAll_of (vs := vs) fun x hx => h x (List.mem_cons_of_mem _ hx)
    exact ⟨d :: ds, .cons g gs⟩
theorem gdAll_len {k : Nat} : ∀ {vs : List V} {ds : List PyData}, GdAll K H k vs ds → vs.length = ds.length
  | _, _, .nil => rfl
  | _, _, .cons _ t => congrArg Nat.succ (gdAll_len t)
theorem GdAll.kp {k : Nat} (e : Kp H H') : ∀ {vs : List V} {ds : List PyData}, GdAll K H k vs ds → GdAll K H' k vs ds
  | _, _, .nil => .nil
  | _, _, .cons g t => .cons (g.kp e) (t.kp e)
theorem GdAll.up {k j : Nat} (l : k ≤ j) : ∀ {vs : List V} {ds : List PyData}, GdAll K H k vs ds → GdAll K H j vs ds
  | _, _, .nil => .nil
  | _, _, .cons g t => .cons (g.up l) (t.up l)
theorem GdAll.app {k : Nat} : ∀ {vs ws : List V} {ds es : List PyData}, GdAll K H k vs ds → GdAll K H k ws es → GdAll K H k (vs ++ ws) (ds ++ es)
  | _, _, _, _, .nil, h => h
  | _, _, _, _, .cons g t, h => .cons g (t.app h)
theorem gd_tup {k : Nat} {a : Addr} {vs : List V} {ds : List PyData} (hs : SqT K H a vs) (g : GdAll K H k vs ds) (hl : vs.length ≤ 20) : Gd K H (k + 1) (.ref a) (.tuple ds) :=
  ⟨.tup hs g.dp.1, by
    simp only [fine, Bool.and_eq_true, decide_eq_true_eq]
    exact ⟨by rw [← gdAll_len g]; exact hl, List.all_eq_true.mpr g.dp.2⟩⟩
theorem shaped_list {k : Nat} (hk : k ≤ 60) {ds : List PyData} (f : ∀ d ∈ ds, fine k d = true) : SeqAt.shaped (.list ds) = true := by
  unfold SeqAt.shaped
  have h1 : PyData.canLay0 (.list ds) = true := by simpa only [PyData.canLay0] using fine_layAll ds k f
  have h2 := (showsAll ds k f).2.2
  rw [h1, decide_eq_true (show (PyData.list ds).depth ≤ 64 by simp only [PyData.depth]; omega)]
  rfl
/-- a list of data against the empty one -/
theorem eqD_nil {p q : Addr} {vs : List V} {ds : List PyData} {k : Nat} {Q : VK} (hk : k ≤ 60) (h1 : SqL K H p vs) (g : GdAll K H k vs ds) (h2 : SqL K H q []) (w : Q (.bl (vs.isEmpty)) H) : rEqD K (.ref p) (.ref q) H Q :=
  ⟨.list ds, .list [], .lst h1 g.dp.1, .lst h2 .nil, shaped_list hk g.dp.2, rfl, by
    have e : PyData.eqv (.list ds) (.list []) = vs.isEmpty := by
      cases g <;> simp [PyData.eqv, PyData.eqvAll]
    rw [e]
    exact w⟩
theorem neD_nil {p q : Addr} {vs : List V} {ds : List PyData} {k : Nat} {Q : VK} (hk : k ≤ 60) (h1 : SqL K H p vs) (g : GdAll K H k vs ds) (h2 : SqL K H q []) (w : Q (.bl (!vs.isEmpty)) H) : rNeD K (.ref p) (.ref q) H Q :=
  ⟨.list ds, .list [], .lst h1 g.dp.1, .lst h2 .nil, shaped_list hk g.dp.2, rfl, by
    have e : PyData.eqv (.list ds) (.list []) = vs.isEmpty := by
      cases g <;> simp [PyData.eqv, PyData.eqvAll]
    rw [e]
    exact w⟩
theorem ev_eqNil {vs : List V} {ds : List PyData} {k : Nat} (hk : k ≤ 60) (h : EvL ta σ H vs) (g : GdAll K H k vs ds) : Ev (tOp (rEqD K) ta (tLst tNil)) σ H (.bl vs.isEmpty) :=
  ev_opLL h (el_lst ea_nil (Nat.zero_le _)) fun p q H1 hp hq e H2 e2 Q w => eqD_nil hk (sq_of (e2 p _ hp)) (g.kp (.ex (e.trans e2))) (sq_of (e2 q _ hq)) (w H2 (.refl _))
theorem ev_neNil {vs : List V} {ds : List PyData} {k : Nat} (hk : k ≤ 60) (h : EvL ta σ H vs) (g : GdAll K H k vs ds) : Ev (tOp (rNeD K) ta (tLst tNil)) σ H (.bl (!vs.isEmpty)) :=
  ev_opLL h (el_lst ea_nil (Nat.zero_le _)) fun p q H1 hp hq e H2 e2 Q w => neD_nil hk (sq_of (e2 p _ hp)) (g.kp (.ex (e.trans e2))) (sq_of (e2 q _ hq)) (w H2 (.refl _))
theorem given_empty : ∀ (n : Nat) (f : Nat → Bool) (v : Nat → V), (given n f v).isEmpty = (List.range n).all fun i => !f i := fun n f v => by
  unfold given
  induction n with
  | zero => rfl
  | succ n ih =>
    rw [List.range_succ, List.filter_append, List.map_append, List.all_append]
    cases h : f n with
    | true => simp [h]
    | false =>
      simp only [List.all_cons, List.all_nil, h, Bool.not_false, Bool.and_true]
      rw [← ih]
      simp [h]
theorem given_mem {n : Nat} {f : Nat → Bool} {v : Nat → V} {y : V} (h : y ∈ given n f v) : ∃ i, i < n ∧ f i = true ∧ y = v i := by
  unfold given at h
  obtain ⟨i, hi, e⟩ := List.mem_map.mp h
  obtain ⟨h1, h2⟩ := List.mem_filter.mp hi
  exact ⟨i, List.mem_range.mp h1, h2, e.symm⟩
end
end Own


namespace My
open PySem PySem.Spec PyProof.Rows L2 Own
def topS (i : Nat) : Stmt := PySem.Challenge.pw_twicemany_k00_numbers_below_a_prime.main.body.getD i (.Pass ⟨0, 0, 0, 0⟩)
abbrev s_number_within : Stmt := topS 1
abbrev n_number_within : List Str := ["thing", "low", "high"]
theorem sc_number_within : FnScope n_number_within ["thing", "low", "high"] (defScope s_number_within) := ⟨rfl, rfl, rfl, by decide +kernel, rfl, by decide +kernel, by decide +kernel⟩
abbrev s_is_prime : Stmt := topS 4
abbrev n_is_prime : List Str := ["p", "divisor"]
theorem sc_is_prime : FnScope n_is_prime ["p"] (defScope s_is_prime) := ⟨rfl, rfl, rfl, by decide +kernel, rfl, by decide +kernel, by decide +kernel⟩
abbrev s_inverse : Stmt := topS 5
abbrev n_inverse : List Str := ["a", "p", "high", "low", "above", "b", "times"]
theorem sc_inverse : FnScope n_inverse ["a", "p"] (defScope s_inverse) := ⟨rfl, rfl, rfl, by decide +kernel, rfl, by decide +kernel, by decide +kernel⟩
abbrev s_reduced : Stmt := topS 6
abbrev n_reduced : List Str := ["matrix", "many", "p", "rows", "done", "column", "found", "row"]
theorem sc_reduced : FnScope n_reduced ["matrix", "many", "p"] (defScope s_reduced) := ⟨rfl, rfl, rfl, by decide +kernel, rfl, by decide +kernel, by decide +kernel⟩
abbrev s_first_with : Stmt := topS 7
abbrev n_first_with : List Str := ["rows", "start", "column", "at"]
theorem sc_first_with : FnScope n_first_with ["rows", "start", "column"] (defScope s_first_with) := ⟨rfl, rfl, rfl, by decide +kernel, rfl, by decide +kernel, by decide +kernel⟩
abbrev s_clear_column : Stmt := topS 8
abbrev n_clear_column : List Str := ["rows", "pivot", "column", "p", "scale", "chosen", "at", "times", "number", "other"]
theorem sc_clear_column : FnScope n_clear_column ["rows", "pivot", "column", "p"] (defScope s_clear_column) := ⟨rfl, rfl, rfl, by decide +kernel, rfl, by decide +kernel, by decide +kernel⟩
abbrev s_pivots_of : Stmt := topS 9
abbrev n_pivots_of : List Str := ["rows", "row"]
theorem sc_pivots_of : FnScope n_pivots_of ["rows"] (defScope s_pivots_of) := ⟨rfl, rfl, rfl, by decide +kernel, rfl, by decide +kernel, by decide +kernel⟩
abbrev s_first_place : Stmt := topS 10
abbrev n_first_place : List Str := ["numbers", "place", "number"]
theorem sc_first_place : FnScope n_first_place ["numbers"] (defScope s_first_place) := ⟨rfl, rfl, rfl, by decide +kernel, rfl, by decide +kernel, by decide +kernel⟩
abbrev s_kernel : Stmt := topS 11
abbrev n_kernel : List Str := ["matrix", "many", "p", "rows", "pivots", "unseen", "free", "numbers", "row", "place"]
theorem sc_kernel : FnScope n_kernel ["matrix", "many", "p"] (defScope s_kernel) := ⟨rfl, rfl, rfl, by decide +kernel, rfl, by decide +kernel, by decide +kernel⟩
abbrev s_solved : Stmt := topS 12
abbrev n_solved : List Str := ["matrix", "many", "right", "p", "beside", "rows", "pivots", "numbers", "row", "place", "number"]
theorem sc_solved : FnScope n_solved ["matrix", "many", "right", "p"] (defScope s_solved) := ⟨rfl, rfl, rfl, by decide +kernel, rfl, by decide +kernel, by decide +kernel⟩
abbrev s_law_pool : Stmt := topS 14
abbrev n_law_pool : List Str := ["script", "k", "cell", "big", "mixed"]
theorem sc_law_pool : FnScope n_law_pool ["script", "k"] (defScope s_law_pool) := ⟨rfl, rfl, rfl, by decide +kernel, rfl, by decide +kernel, by decide +kernel⟩
abbrev s_law_take : Stmt := topS 15
abbrev n_law_take : List Str := ["source", "top", "drawn"]
theorem sc_law_take : FnScope n_law_take ["source", "top"] (defScope s_law_take) := ⟨rfl, rfl, rfl, by decide +kernel, rfl, by decide +kernel, by decide +kernel⟩
abbrev s_law_one : Stmt := topS 16
abbrev n_law_one : List Str := ["source", "things"]
theorem sc_law_one : FnScope n_law_one ["source", "things"] (defScope s_law_one) := ⟨rfl, rfl, rfl, by decide +kernel, rfl, by decide +kernel, by decide +kernel⟩
abbrev s_law_mixed : Stmt := topS 17
abbrev n_law_mixed : List Str := ["source", "things", "left", "found", "turn"]
theorem sc_law_mixed : FnScope n_law_mixed ["source", "things"] (defScope s_law_mixed) := ⟨rfl, rfl, rfl, by decide +kernel, rfl, by decide +kernel, by decide +kernel⟩
abbrev s_law_own_prime : Stmt := topS 18
abbrev n_law_own_prime : List Str := ["number", "by"]
theorem sc_law_own_prime : FnScope n_law_own_prime ["number"] (defScope s_law_own_prime) := ⟨rfl, rfl, rfl, by decide +kernel, rfl, by decide +kernel, by decide +kernel⟩
abbrev s_law_own_inverse : Stmt := topS 19
abbrev n_law_own_inverse : List Str := ["a", "p", "high", "low", "far", "near", "turn", "many"]
theorem sc_law_own_inverse : FnScope n_law_own_inverse ["a", "p"] (defScope s_law_own_inverse) := ⟨rfl, rfl, rfl, by decide +kernel, rfl, by decide +kernel, by decide +kernel⟩
abbrev s_law_drawn_prime : Stmt := topS 20
abbrev n_law_drawn_prime : List Str := ["source", "number", "turn"]
theorem sc_law_drawn_prime : FnScope n_law_drawn_prime ["source"] (defScope s_law_drawn_prime) := ⟨rfl, rfl, rfl, by decide +kernel, rfl, by decide +kernel, by decide +kernel⟩
abbrev s_law_led : Stmt := topS 21
abbrev n_law_led : List Str := ["row", "other", "factor", "p", "k"]
theorem sc_law_led : FnScope n_law_led ["row", "other", "factor", "p"] (defScope s_law_led) := ⟨rfl, rfl, rfl, by decide +kernel, rfl, by decide +kernel, by decide +kernel⟩
abbrev s_law_own_reduced : Stmt := topS 22
abbrev n_law_own_reduced : List Str := ["matrix", "many", "p", "rows", "at", "starts", "k", "some", "factor", "r", "row", "number"]
theorem sc_law_own_reduced : FnScope n_law_own_reduced ["matrix", "many", "p"] (defScope s_law_own_reduced) := ⟨rfl, rfl, rfl, by decide +kernel, rfl, by decide +kernel, by decide +kernel⟩
abbrev s_law_times : Stmt := topS 23
abbrev n_law_times : List Str := ["matrix", "row", "p", "line", "k"]
theorem sc_law_times : FnScope n_law_times ["matrix", "row", "p"] (defScope s_law_times) := ⟨rfl, rfl, rfl, by decide +kernel, rfl, by decide +kernel, by decide +kernel⟩
abbrev s_law_own_kernel : Stmt := topS 24
abbrev n_law_own_kernel : List Str := ["matrix", "many", "p", "rows", "starts", "found", "free", "one", "r", "k"]
theorem sc_law_own_kernel : FnScope n_law_own_kernel ["matrix", "many", "p"] (defScope s_law_own_kernel) := ⟨rfl, rfl, rfl, by decide +kernel, rfl, by decide +kernel, by decide +kernel⟩
abbrev s_law_own_solved : Stmt := topS 25
abbrev n_law_own_solved : List Str := ["matrix", "many", "right", "p", "joined", "rows", "starts", "found", "r"]
theorem sc_law_own_solved : FnScope n_law_own_solved ["matrix", "many", "right", "p"] (defScope s_law_own_solved) := ⟨rfl, rfl, rfl, by decide +kernel, rfl, by decide +kernel, by decide +kernel⟩
abbrev s_law_drawn_matrix : Stmt := topS 26
abbrev n_law_drawn_matrix : List Str := ["source", "p", "high", "many", "rows", "turn", "row", "k"]
theorem sc_law_drawn_matrix : FnScope n_law_drawn_matrix ["source", "p", "high", "many"] (defScope s_law_drawn_matrix) := ⟨rfl, rfl, rfl, by decide +kernel, rfl, by decide +kernel, by decide +kernel⟩
abbrev s_law_matrix_right : Stmt := topS 27
abbrev n_law_matrix_right : List Str := ["source", "p", "high", "many", "matrix", "own", "unknowns", "right", "due", "told", "row", "k", "r"]
theorem sc_law_matrix_right : FnScope n_law_matrix_right ["source", "p"] (defScope s_law_matrix_right) := ⟨rfl, rfl, rfl, by decide +kernel, rfl, by decide +kernel, by decide +kernel⟩
abbrev s_law_primes_right : Stmt := topS 28
abbrev n_law_primes_right : List Str := ["source", "p", "some", "turn", "one", "other", "number"]
theorem sc_law_primes_right : FnScope n_law_primes_right ["source", "p"] (defScope s_law_primes_right) := ⟨rfl, rfl, rfl, by decide +kernel, rfl, by decide +kernel, by decide +kernel⟩
abbrev s_law : Stmt := topS 29
abbrev n_law : List Str := ["script", "source", "p", "turn", "a", "told"]
theorem sc_law : FnScope n_law ["script"] (defScope s_law) := ⟨rfl, rfl, rfl, by decide +kernel, rfl, by decide +kernel, by decide +kernel⟩
section
/-- what the top has written -/
structure Txt (K : PySem.W.Frag) (mg : Str → Option Value) where
  f_number_within : Addr
  fd_number_within : FuncData
  d_number_within : DefAt K mg "number_within" s_number_within ["thing", "low", "high"] f_number_within fd_number_within
  f_is_prime : Addr
  fd_is_prime : FuncData
  d_is_prime : DefAt K mg "is_prime" s_is_prime ["p"] f_is_prime fd_is_prime
  f_inverse : Addr
  fd_inverse : FuncData
  d_inverse : DefAt K mg "inverse" s_inverse ["a", "p"] f_inverse fd_inverse
  f_reduced : Addr
  fd_reduced : FuncData
  d_reduced : DefAt K mg "reduced" s_reduced ["matrix", "many", "p"] f_reduced fd_reduced
  f_first_with : Addr
  fd_first_with : FuncData
  d_first_with : DefAt K mg "first_with" s_first_with ["rows", "start", "column"] f_first_with fd_first_with
  f_clear_column : Addr
  fd_clear_column : FuncData
  d_clear_column : DefAt K mg "clear_column" s_clear_column ["rows", "pivot", "column", "p"] f_clear_column fd_clear_column
  f_pivots_of : Addr
  fd_pivots_of : FuncData
  d_pivots_of : DefAt K mg "pivots_of" s_pivots_of ["rows"] f_pivots_of fd_pivots_of
  f_first_place : Addr
  fd_first_place : FuncData
  d_first_place : DefAt K mg "first_place" s_first_place ["numbers"] f_first_place fd_first_place
  f_kernel : Addr
  fd_kernel : FuncData
  d_kernel : DefAt K mg "kernel" s_kernel ["matrix", "many", "p"] f_kernel fd_kernel
  f_solved : Addr
  fd_solved : FuncData
  d_solved : DefAt K mg "solved" s_solved ["matrix", "many", "right", "p"] f_solved fd_solved
  f_law_pool : Addr
  fd_law_pool : FuncData
  d_law_pool : DefAt K mg "_law_pool" s_law_pool ["script", "k"] f_law_pool fd_law_pool
  f_law_take : Addr
  fd_law_take : FuncData
  d_law_take : DefAt K mg "_law_take" s_law_take ["source", "top"] f_law_take fd_law_take
  f_law_one : Addr
  fd_law_one : FuncData
  d_law_one : DefAt K mg "_law_one" s_law_one ["source", "things"] f_law_one fd_law_one
  f_law_own_prime : Addr
  fd_law_own_prime : FuncData
  d_law_own_prime : DefAt K mg "_law_own_prime" s_law_own_prime ["number"] f_law_own_prime fd_law_own_prime
  f_law_own_inverse : Addr
  fd_law_own_inverse : FuncData
  d_law_own_inverse : DefAt K mg "_law_own_inverse" s_law_own_inverse ["a", "p"] f_law_own_inverse fd_law_own_inverse
  f_law_drawn_prime : Addr
  fd_law_drawn_prime : FuncData
  d_law_drawn_prime : DefAt K mg "_law_drawn_prime" s_law_drawn_prime ["source"] f_law_drawn_prime fd_law_drawn_prime
  f_law_led : Addr
  fd_law_led : FuncData
  d_law_led : DefAt K mg "_law_led" s_law_led ["row", "other", "factor", "p"] f_law_led fd_law_led
  f_law_own_reduced : Addr
  fd_law_own_reduced : FuncData
  d_law_own_reduced : DefAt K mg "_law_own_reduced" s_law_own_reduced ["matrix", "many", "p"] f_law_own_reduced fd_law_own_reduced
  f_law_times : Addr
  fd_law_times : FuncData
  d_law_times : DefAt K mg "_law_times" s_law_times ["matrix", "row", "p"] f_law_times fd_law_times
  f_law_own_kernel : Addr
  fd_law_own_kernel : FuncData
  d_law_own_kernel : DefAt K mg "_law_own_kernel" s_law_own_kernel ["matrix", "many", "p"] f_law_own_kernel fd_law_own_kernel
  f_law_own_solved : Addr
  fd_law_own_solved : FuncData
  d_law_own_solved : DefAt K mg "_law_own_solved" s_law_own_solved ["matrix", "many", "right", "p"] f_law_own_solved fd_law_own_solved
  f_law_drawn_matrix : Addr
  fd_law_drawn_matrix : FuncData
  d_law_drawn_matrix : DefAt K mg "_law_drawn_matrix" s_law_drawn_matrix ["source", "p", "high", "many"] f_law_drawn_matrix fd_law_drawn_matrix
  f_law_matrix_right : Addr
  fd_law_matrix_right : FuncData
  d_law_matrix_right : DefAt K mg "_law_matrix_right" s_law_matrix_right ["source", "p"] f_law_matrix_right fd_law_matrix_right
  f_law_primes_right : Addr
  fd_law_primes_right : FuncData
  d_law_primes_right : DefAt K mg "_law_primes_right" s_law_primes_right ["source", "p"] f_law_primes_right fd_law_primes_right
  f_law : Addr
  fd_law : FuncData
  d_law : DefAt K mg "law" s_law ["script"] f_law fd_law
  m_bool : mg "bool" = none
  m_enumerate : mg "enumerate" = none
  m_int : mg "int" = none
  m_isinstance : mg "isinstance" = none
  m_len : mg "len" = none
  m_list : mg "list" = none
  m_max : mg "max" = none
  m_range : mg "range" = none
  m_repr : mg "repr" = none
  m_sum : mg "sum" = none
  m_tuple : mg "tuple" = none
  m_zip : mg "zip" = none
  tk_GREATEST_PRIME : Tok
  v_GREATEST_PRIME : mg "GREATEST_PRIME" = some (.int 1000003 tk_GREATEST_PRIME)
end

/-- the law, of any script -/
def sp_law (K : PySem.W.Frag) : Sp := fun vs H Q _ => ∃ (a : Addr) (ns : List Int), vs = [.ref a] ∧ SqL K H a (ns.map V.int) ∧ ns.length ≤ 63 ∧ (∀ xs, H a ≠ some (.lst xs)) ∧ ∀ H', Q (.bl true) H'
theorem law_sp {K : PySem.W.Frag} {H : Hp} {a : Addr} {ns : List Int} (h1 : ns.length ≤ 63) (h2 : Only H) (h3 : SqL K H a (ns.map V.int)) : sp_law K [.ref a] H (fun v _ => v = .bl true) E0 :=
  ⟨a, ns, rfl, h3, h1, (fun xs e => by rcases h2 a with z | ⟨o, ys, z⟩ <;> (rw [e] at z; cases z)), fun _ => rfl⟩
end My


namespace Own
/-! ### numbers that nothing divides -/
def noDiv (p : Int) : Bool := (List.range 999).all fun i => !(decide ((2 + (i : Int)) * (2 + (i : Int)) ≤ p) && decide (p % (2 + (i : Int)) = 0))
theorem noDiv_iff {p : Int} (hp : p ≤ 1000003) : noDiv p = true ↔ ∀ e : Int, 2 ≤ e → e * e ≤ p → p % e ≠ 0 := by
  unfold noDiv
  rw [List.all_eq_true]
  constructor
  · intro h e h2 hm z
    have he : e ≤ 1000 := by
      refine Int.not_lt.mp fun c => ?_
      have : 1001 * 1001 ≤ e * e := Int.mul_le_mul (by omega) (by omega) (by omega) (by omega)
      omega
    have := h (e - 2).toNat (List.mem_range.mpr (by omega))
    have e1 : (2 : Int) + ((e - 2).toNat : Int) = e := by omega
    rw [e1] at this
    simp [hm, z] at this
  · intro h i hi
    by_cases c : (2 + (i : Int)) * (2 + (i : Int)) ≤ p
    · have := h (2 + (i : Int)) (by omega) c
      simp [c, this]
    · simp [c]
theorem noDiv_small {p : Int} (h2 : 2 ≤ p) (h : p < 4) : noDiv p = true := (noDiv_iff (by omega)).mpr fun e h2 hm => by
  have : 2 * 2 ≤ e * e := Int.mul_le_mul h2 h2 (by omega) (by omega)
  omega
theorem noDiv_even {p : Int} (h4 : 4 ≤ p) (hp : p ≤ 1000003) (h : p % 2 = 0) : noDiv p = false := by
  refine Bool.eq_false_iff.mpr fun z => ?_
  exact (noDiv_iff hp).mp z 2 (by omega) (by omega) h
theorem noDiv_found {p m : Int} (hp : p ≤ 1000003) (h2 : 2 ≤ m) (hm : m * m ≤ p) (h : p % m = 0) : noDiv p = false := by
  refine Bool.eq_false_iff.mpr fun z => ?_
  exact (noDiv_iff hp).mp z m h2 hm h
/-- what the odd search knows at m -/
def Sought (p m : Int) : Prop := m % 2 = 1 ∧ 3 ≤ m ∧ ∀ e : Int, 2 ≤ e → e < m → p % e ≠ 0
theorem Sought.start {p : Int} (h : p % 2 ≠ 0) : Sought p 3 := ⟨by omega, by omega, fun e h1 h2 => by
  have : e = 2 := by omega
  rw [this]
  exact h⟩
theorem Sought.next {p m : Int} (h0 : p % 2 ≠ 0) (s : Sought p m) (h : p % m ≠ 0) : Sought p (m + 2) := by
  obtain ⟨a, b, c⟩ := s
  refine ⟨by omega, by omega, fun e h1 h2 => ?_⟩
  by_cases e1 : e < m
  · exact c e h1 e1
  · by_cases e2 : e = m
    · rw [e2]; exact h
    · have e3 : e = m + 1 := by omega
      intro z
      have d : e ∣ p := Int.dvd_of_emod_eq_zero z
      have d2 : (2 : Int) ∣ e := Int.dvd_of_emod_eq_zero (by omega)
      have d3 : (2 : Int) ∣ p := Int.dvd_trans d2 d
      have := Int.emod_eq_zero_of_dvd d3
      exact h0 this
theorem Sought.done {p m : Int} (hp : p ≤ 1000003) (s : Sought p m) (h : ¬ m * m ≤ p) : noDiv p = true := (noDiv_iff hp).mpr fun e h2 hm => by
  refine s.2.2 e h2 (Int.not_le.mp fun c => ?_)
  have : m * m ≤ e * e := Int.mul_le_mul c c (by have := s.2.1; omega) (by omega)
  omega
theorem Sought.small {p m : Int} (hp : p ≤ 1000003) (s : Sought p m) (h : m * m ≤ p) : m ≤ 1000 := by
  refine Int.not_lt.mp fun c => ?_
  have : 1001 * 1001 ≤ m * m := Int.mul_le_mul (by omega) (by omega) (by omega) (by omega)
  omega
end Own


namespace Own
/-! ### numbers below a prime: inverses -/
/-- b makes one with a below p -/
def IsInv (p a b : Int) : Prop := 0 ≤ b ∧ b < p ∧ p ∣ a * b - 1
theorem IsInv.uniq {p a b c : Int} (h : IsInv p a b) (k : IsInv p a c) : b = c := by
  obtain ⟨b0, b1, hb⟩ := h
  obtain ⟨c0, c1, hc⟩ := k
  have d : p ∣ b - c := by
    have h1 : p ∣ c * (a * b - 1) := Int.dvd_mul_of_dvd_right hb
    have h2 : p ∣ b * (a * c - 1) := Int.dvd_mul_of_dvd_right hc
    have e : b - c = c * (a * b - 1) - b * (a * c - 1) := by
      rw [Int.mul_sub, Int.mul_sub, show c * (a * b) = b * (a * c) by rw [Int.mul_left_comm, Int.mul_comm c b, Int.mul_left_comm]]
      omega
    rw [e]
    exact Int.dvd_sub h1 h2
  have := Int.emod_eq_emod_iff_emod_sub_eq_zero.mpr (Int.emod_eq_zero_of_dvd d)
  rwa [Int.emod_eq_of_lt b0 b1, Int.emod_eq_of_lt c0 c1] at this
open Classical in
noncomputable def inv (p a : Int) : Int := if h : ∃ b, IsInv p a b then Classical.choose h else 0
theorem inv_of {p a b : Int} (h : IsInv p a b) : inv p a = b := by
  have e : ∃ b, IsInv p a b := ⟨b, h⟩
  unfold inv
  rw [dif_pos e]
  exact (Classical.choose_spec e).uniq h
theorem inv_is {p a b : Int} (h : IsInv p a b) : IsInv p a (inv p a) := by rw [inv_of h]; exact h
/-- no number but one and itself divides p, and no greater part -/
def Prm (p : Int) : Prop := 5 ≤ p ∧ p ≤ 1000003 ∧ noDiv p = true
theorem Prm.part {p g : Int} (h : Prm p) (g1 : 0 < g) (g2 : g < p) (d : g ∣ p) : g = 1 := by
  obtain ⟨h5, h6, hn⟩ := h
  have N := (noDiv_iff h6).mp hn
  refine Classical.byContradiction fun ne => ?_
  obtain ⟨m, e⟩ := d
  have m2 : 1 < m := by
    refine Int.not_le.mp fun c => ?_
    have : g * m ≤ g * 1 := Int.mul_le_mul_of_nonneg_left c (by omega)
    omega
  by_cases c : g ≤ m
  · exact N g (by omega) (by rw [e]; exact Int.mul_le_mul_of_nonneg_left c (by omega)) (Int.emod_eq_zero_of_dvd ⟨m, e⟩)
  · exact N m (by omega) (by rw [e]; exact Int.mul_le_mul_of_nonneg_right (by omega) (by omega)) (Int.emod_eq_zero_of_dvd ⟨g, by rw [e, Int.mul_comm]⟩)
/-! the steps of Euclid: what divides both of a pair divides p and a -/
structure Euc (p a high low far near : Int) : Prop where
  h0 : 0 < high
  l0 : 0 ≤ low
  lt : low < high
  hp : high ≤ p
  dv : ∀ g : Int, g ∣ high → g ∣ low → g ∣ p ∧ g ∣ a
  fa : p ∣ a * far - high
  ne : p ∣ a * near - low
theorem Euc.start {p a : Int} (h0 : 0 ≤ a) (h1 : a < p) : Euc p a p a 0 1 :=
  ⟨by omega, h0, h1, by omega, fun g h k => ⟨h, k⟩, by rw [Int.mul_zero, Int.zero_sub]; exact Int.dvd_neg.mpr (Int.dvd_refl p), by rw [Int.mul_one, Int.sub_self]; exact Int.dvd_zero p⟩
theorem Euc.step {p a high low far near : Int} (e : Euc p a high low far near) (hl : 0 < low) : Euc p a low (high - high / low * low) near (far - high / low * near) := by
  have m : high - high / low * low = high % low := by rw [Int.emod_def, Int.mul_comm]
  refine ⟨hl, by rw [m]; exact Int.emod_nonneg _ (by omega), by rw [m]; exact Int.emod_lt_of_pos _ hl, by have := e.lt; have := e.hp; omega, fun g h k => ?_, e.ne, ?_⟩
  · refine e.dv g ?_ h
    have k1 : g ∣ high / low * low := Int.dvd_mul_of_dvd_right h
    have : high = (high - high / low * low) + high / low * low := by omega
    rw [this]
    exact Int.dvd_add k k1
  · have h1 : p ∣ high / low * (a * near - low) := Int.dvd_mul_of_dvd_right e.ne
    have h2 := Int.dvd_sub e.fa h1
    have : a * (far - high / low * near) - (high - high / low * low) = a * far - high - high / low * (a * near - low) := by
      rw [Int.mul_sub, Int.mul_sub, Int.mul_left_comm]
      omega
    rw [this]
    exact h2
/-- the one that is left is one -/
theorem Euc.one {p a high far near : Int} (P : Prm p) (a0 : 0 < a) (a1 : a < p) (e : Euc p a high 0 far near) : high = 1 := by
  have d := e.dv high (Int.dvd_refl _) (Int.dvd_zero _)
  have hle : high ≤ a := Int.le_of_dvd a0 d.2
  exact P.part e.h0 (by omega) d.1
theorem Euc.low {p a high low far near : Int} (P : Prm p) (a0 : 0 < a) (a1 : a < p) (e : Euc p a high low far near) (h : 1 < high) : 0 < low := by
  have := e.l0
  refine Int.not_le.mp fun c => ?_
  have z : low = 0 := by omega
  subst z
  have := e.one P a0 a1
  omega
theorem inv_mod {p a b : Int} (hp : 0 < p) (h : p ∣ a * b - 1) : IsInv p a (b % p) := by
  refine ⟨Int.emod_nonneg _ (by omega), Int.emod_lt_of_pos _ hp, ?_⟩
  have h2 : p ∣ a * (p * (b / p)) := Int.dvd_mul_of_dvd_right (Int.dvd_mul_right _ _)
  have : a * (b % p) - 1 = a * b - 1 - a * (p * (b / p)) := by
    rw [Int.emod_def, Int.mul_sub]
    omega
  rw [this]
  exact Int.dvd_sub h h2
/-- both sides of a pair, halved at each turn -/
theorem Euc.half {p a high low far near : Int} (e : Euc p a high low far near) (hl : 0 < low) : 2 * (low * (high - high / low * low)) ≤ high * low := by
  have m : high - high / low * low = high % low := by rw [Int.emod_def, Int.mul_comm]
  have r0 : 0 ≤ high % low := Int.emod_nonneg _ (by omega)
  have r1 := Int.emod_lt_of_pos high hl
  have q1 : 1 ≤ high / low := Int.le_ediv_of_mul_le hl (by have := e.lt; omega)
  have q2 : low * 1 ≤ low * (high / low) := Int.mul_le_mul_of_nonneg_left q1 (by omega)
  have h1 := Int.mul_ediv_add_emod high low
  have : 2 * (high % low) ≤ high := by omega
  rw [m]
  have h3 := Int.mul_le_mul_of_nonneg_left this (show 0 ≤ low by omega)
  rw [Int.mul_left_comm, Int.mul_comm high low]
  exact h3
end Own


namespace Own
/-! ### no two primes below 1000003 lie further than 199 from one another -/
def fac : Nat → Nat
  | 0 => 1
  | n + 1 => (n + 1) * fac n
theorem dvd_fac {e : Nat} : ∀ {n : Nat}, 1 ≤ e → e ≤ n → e ∣ fac n
  | 0, h1, h2 => by omega
  | n + 1, h1, h2 => by
    by_cases c : e = n + 1
    · rw [c]; exact Nat.dvd_mul_right _ _
    · exact Nat.dvd_trans (dvd_fac h1 (by omega)) (Nat.dvd_mul_left _ _)
def bigF : Nat := 402387260077093773543702433923003985719374864210714632543799910429938512398629020592044208486969404800479988610197196058631666872994808558901323829669944590997424504087073759918823627727188732519779505950995276120874975462497043601418278094646496291056393887437886487337119181045825783647849977012476632889835955735432513185323958463075557409114262417474349347553428646576611667797396668820291207379143853719588249808126867838374559731746136085379534524221586593201928090878297308431392844403281231558611036976801357304216168747609675871348312025478589320767169132448426236131412508780208000261683151027341827977704784635868170164365024153691398281264810213092761244896359928705114964975419909342221566832572080821333186116811553615836546984046708975602900950537616475847728421889679646244945160765353408198901385442487984959953319101723355556602139450399736280750137837615307127761926849034352625200015888535147331611702103968175921510907788019393178114194545257223865541461062892187960223838971476088506276862967146674697562911234082439208160153780889893964518263243671616762179168909779911903754031274622289988005195444414282012187361745992642956581746628302955570299024324153181617210465832036786906117260158783520751516284225540265170483304226143974286933061690897968482590125458327168226458066526769958652682272807075781391858178889652208164348344825993266043367660176999612831860788386150279465955131156552036093988180612138558600301435694527224206344631797460594682573103790084024432438465657245014402821885252470935190620929023136493273497565513958720559654228749774011413346962715422845862377387538230483865688976461927383814900140767310446640259899490222221765904339901886018566526485061799702356193897017860040811889729918311021171229845901641921068884387121855646124960798722908519296819372388642614839657382291123125024186649353143970137428531926649875337218940694281434118520158014123344828015051399694290153483077644569099073152433278288269864602789864321139083506217095002597389863554277196742822248757586765752344220207573630569498825087968928162753848863396909959826280956121450994871701244516461260379029309120889086942028510640182154399457156805941872748998094254742173582401063677404595741785160829230135358081840096996372524230560855903700624271243416909004153690105933983835777939410970027753472000000000000000000000000000000000000000000000000000000000000000000000000000000000000000000000000000000000000000000000000000000000000000000000000000000000000000000000000000000000000000000000000000000000000000000000000000000000000000000000000000000000
theorem bigF_eq : fac 1000 = bigF := by decide +kernel
theorem noDiv_cop {q : Nat} (h : Nat.gcd q bigF = 1) (hq : q ≤ 1000003) : noDiv (q : Int) = true := (noDiv_iff (by omega)).mpr fun e h2 hm z => by
  have he : e ≤ 1000 := by
    refine Int.not_lt.mp fun c => ?_
    have : 1001 * 1001 ≤ e * e := Int.mul_le_mul (by omega) (by omega) (by omega) (by omega)
    omega
  have d : e ∣ (q : Int) := Int.dvd_of_emod_eq_zero z
  have e1 : (e.toNat : Int) = e := by omega
  rw [← e1] at d
  have d1 : e.toNat ∣ q := Int.ofNat_dvd.mp d
  have d2 : e.toNat ∣ bigF := by rw [← bigF_eq]; exact dvd_fac (by omega) (by omega)
  have := Nat.dvd_gcd d1 d2
  rw [h] at this
  have := Nat.le_of_dvd (by omega) this
  omega
def chk : Nat → List Nat → Nat → Bool
  | lo, [], last => Nat.beq lo last
  | lo, q :: l, last => Nat.ble lo q && Nat.ble q (lo + 199) && Nat.ble q 1000003 && Nat.beq (Nat.gcd q bigF) 1 && chk q l last
/-- from 5 to below b there is always a prime within 200 -/
structure Cov (b : Nat) : Prop where
  five : 5 ≤ b
  last : noDiv (b : Int) = true
  all : ∀ x : Nat, 5 ≤ x → x < b → ∃ q : Nat, 5 ≤ q ∧ q ≤ x ∧ x < q + 200 ∧ noDiv (q : Int) = true
theorem Cov.next {a b : Nat} (c : Cov a) (h1 : a ≤ b) (h2 : b ≤ a + 199) (h : noDiv (b : Int) = true) : Cov b :=
  ⟨by have := c.five; omega, h, fun x h5 hx => by
    by_cases l : x < a
    · exact c.all x h5 l
    · exact ⟨a, c.five, by omega, by omega, c.last⟩⟩
theorem Cov.go : ∀ {l : List Nat} {a b : Nat}, Cov a → chk a l b = true → Cov b
  | [], a, b, c, h => by rw [← Nat.eq_of_beq_eq_true h]; exact c
  | q :: l, a, b, c, h => by
    simp only [chk, Bool.and_eq_true] at h
    obtain ⟨⟨⟨⟨h1, h2⟩, h3⟩, h4⟩, h5⟩ := h
    exact (c.next (Nat.le_of_ble_eq_true h1) (Nat.le_of_ble_eq_true h2) (noDiv_cop (Nat.eq_of_beq_eq_true h4) (Nat.le_of_ble_eq_true h3))).go h5
theorem cov_start : Cov 5 := ⟨Nat.le_refl _, by decide +kernel, fun x h5 h => by omega⟩
theorem cov_s0 : Cov 199 := cov_start.next (by decide) (by decide) (by decide +kernel)
theorem cov_s1 : Cov 397 := cov_s0.next (by decide) (by decide) (by decide +kernel)
theorem cov_s2 : Cov 593 := cov_s1.next (by decide) (by decide) (by decide +kernel)
theorem cov_s3 : Cov 787 := cov_s2.next (by decide) (by decide) (by decide +kernel)
theorem cov_s4 : Cov 983 := cov_s3.next (by decide) (by decide) (by decide +kernel)
theorem cov_0 : Cov 12589 := cov_s4.go (a := 983) (l := [1181, 1373, 1571, 1759, 1951, 2143, 2341, 2539, 2731, 2927, 3121, 3319, 3517, 3709, 3907, 4099, 4297, 4493, 4691, 4889, 5087, 5281, 5479, 5669, 5867, 6053, 6247, 6427, 6619, 6803, 7001, 7193, 7369, 7561, 7759, 7951, 8147, 8329, 8527, 8719, 8893, 9091, 9283, 9479, 9677, 9871, 10069, 10267, 10463, 10657, 10853, 11047, 11243, 11437, 11633, 11831, 12011, 12203, 12401, 12589]) (by decide +kernel)
theorem cov_1 : Cov 24121 := cov_0.go (a := 12589) (l := [12781, 12979, 13177, 13367, 13553, 13751, 13933, 14107, 14303, 14489, 14683, 14879, 15077, 15271, 15467, 15661, 15859, 16057, 16253, 16451, 16649, 16843, 17041, 17239, 17431, 17627, 17807, 17989, 18181, 18379, 18553, 18749, 18947, 19141, 19333, 19531, 19727, 19919, 20117, 20297, 20483, 20681, 20879, 21067, 21247, 21433, 21617, 21803, 21997, 22193, 22391, 22573, 22769, 22963, 23159, 23357, 23549, 23747, 23929, 24121]) (by decide +kernel)
theorem cov_2 : Cov 35617 := cov_1.go (a := 24121) (l := [24317, 24509, 24697, 24889, 25087, 25261, 25457, 25643, 25841, 26029, 26227, 26423, 26597, 26783, 26981, 27179, 27367, 27551, 27749, 27947, 28123, 28319, 28517, 28711, 28909, 29101, 29297, 29483, 29671, 29867, 30059, 30253, 30449, 30643, 30841, 31039, 31237, 31397, 31583, 31771, 31963, 32159, 32353, 32537, 32719, 32917, 33113, 33311, 33503, 33679, 33871, 34061, 34259, 34457, 34651, 34849, 35027, 35221, 35419, 35617]) (by decide +kernel)
theorem cov_3 : Cov 47059 := cov_2.go (a := 35617) (l := [35809, 36007, 36191, 36389, 36587, 36781, 36979, 37171, 37369, 37567, 37747, 37907, 38083, 38281, 38461, 38653, 38851, 39047, 39241, 39439, 39631, 39829, 40013, 40193, 40387, 40583, 40771, 40961, 41149, 41341, 41539, 41737, 41927, 42101, 42299, 42491, 42689, 42863, 43051, 43237, 43427, 43613, 43801, 43997, 44189, 44383, 44579, 44777, 44971, 45161, 45343, 45541, 45737, 45893, 46091, 46279, 46477, 46663, 46861, 47059]) (by decide +kernel)
theorem cov_4 : Cov 58567 := cov_3.go (a := 47059) (l := [47251, 47441, 47639, 47837, 48029, 48221, 48413, 48611, 48809, 49003, 49201, 49393, 49559, 49757, 49943, 50131, 50329, 50527, 50723, 50909, 51071, 51263, 51461, 51659, 51853, 52051, 52249, 52433, 52631, 52817, 53003, 53201, 53381, 53569, 53759, 53951, 54139, 54331, 54521, 54713, 54907, 55103, 55291, 55487, 55681, 55871, 56053, 56249, 56443, 56633, 56827, 56999, 57193, 57389, 57587, 57781, 57977, 58171, 58369, 58567]) (by decide +kernel)
theorem cov_5 : Cov 69959 := cov_4.go (a := 58567) (l := [58763, 58943, 59141, 59333, 59513, 59707, 59887, 60083, 60271, 60457, 60649, 60821, 61007, 61169, 61363, 61561, 61757, 61949, 62143, 62327, 62507, 62701, 62897, 63079, 63277, 63473, 63671, 63863, 64037, 64231, 64403, 64601, 64793, 64969, 65167, 65357, 65551, 65731, 65929, 66109, 66301, 66499, 66697, 66889, 67079, 67273, 67453, 67651, 67843, 68041, 68239, 68437, 68633, 68821, 69019, 69203, 69401, 69593, 69779, 69959]) (by decide +kernel)
theorem cov_6 : Cov 81463 := cov_5.go (a := 69959) (l := [70157, 70351, 70549, 70729, 70921, 71119, 71317, 71503, 71699, 71887, 72077, 72271, 72469, 72661, 72859, 73043, 73237, 73433, 73613, 73783, 73973, 74167, 74363, 74561, 74759, 74941, 75133, 75329, 75527, 75721, 75913, 76103, 76289, 76487, 76679, 76873, 77069, 77267, 77447, 77641, 77839, 78031, 78229, 78427, 78623, 78809, 78989, 79187, 79379, 79561, 79757, 79943, 80141, 80329, 80527, 80713, 80911, 81101, 81299, 81463]) (by decide +kernel)
theorem cov_7 : Cov 92893 := cov_6.go (a := 81463) (l := [81649, 81847, 82039, 82237, 82421, 82619, 82813, 83009, 83207, 83401, 83597, 83791, 83987, 84181, 84377, 84559, 84751, 84947, 85133, 85331, 85523, 85717, 85909, 86083, 86269, 86467, 86629, 86813, 87011, 87187, 87383, 87559, 87751, 87943, 88129, 88327, 88523, 88721, 88919, 89113, 89303, 89501, 89689, 89867, 90059, 90247, 90439, 90631, 90823, 91019, 91199, 91397, 91591, 91781, 91969, 92153, 92347, 92507, 92699, 92893]) (by decide +kernel)
theorem cov_8 : Cov 104311 := cov_7.go (a := 92893) (l := [93089, 93287, 93481, 93637, 93827, 94009, 94207, 94399, 94597, 94793, 94961, 95153, 95339, 95531, 95723, 95917, 96097, 96293, 96487, 96671, 96857, 97039, 97231, 97429, 97613, 97789, 97987, 98179, 98377, 98573, 98737, 98929, 99119, 99317, 99497, 99689, 99881, 100069, 100267, 100459, 100649, 100847, 101027, 101221, 101419, 101611, 101807, 102001, 102199, 102397, 102593, 102769, 102967, 103141, 103333, 103529, 103723, 103919, 104113, 104311]) (by decide +kernel)
theorem cov_9 : Cov 115613 := cov_8.go (a := 104311) (l := [104491, 104683, 104879, 105071, 105269, 105467, 105653, 105829, 106019, 106217, 106411, 106591, 106787, 106979, 107171, 107357, 107509, 107699, 107897, 108089, 108287, 108463, 108649, 108827, 109013, 109211, 109397, 109589, 109751, 109943, 110129, 110323, 110503, 110681, 110879, 111053, 111229, 111427, 111623, 111821, 112019, 112213, 112403, 112601, 112799, 112997, 113189, 113383, 113567, 113761, 113957, 114143, 114329, 114493, 114691, 114889, 115079, 115259, 115429, 115613]) (by decide +kernel)
theorem cov_10 : Cov 127037 := cov_9.go (a := 115613) (l := [115811, 116009, 116201, 116387, 116579, 116747, 116933, 117127, 117319, 117517, 117709, 117899, 118093, 118277, 118471, 118669, 118861, 119057, 119243, 119429, 119627, 119813, 120011, 120209, 120401, 120587, 120779, 120977, 121171, 121369, 121559, 121727, 121921, 122117, 122299, 122497, 122693, 122891, 123083, 123269, 123457, 123653, 123833, 124021, 124213, 124367, 124561, 124759, 124951, 125149, 125339, 125527, 125717, 125899, 126097, 126271, 126461, 126653, 126851, 127037]) (by decide +kernel)
theorem cov_11 : Cov 138469 := cov_10.go (a := 127037) (l := [127219, 127403, 127601, 127781, 127979, 128173, 128351, 128549, 128747, 128941, 129127, 129313, 129509, 129707, 129901, 130099, 130279, 130477, 130657, 130843, 131041, 131231, 131413, 131611, 131797, 131969, 132157, 132347, 132541, 132739, 132929, 133121, 133319, 133499, 133697, 133877, 134059, 134257, 134443, 134639, 134837, 135029, 135221, 135409, 135607, 135799, 135979, 136177, 136373, 136559, 136753, 136951, 137147, 137341, 137537, 137723, 137911, 138107, 138289, 138469]) (by decide +kernel)
theorem cov_12 : Cov 149791 := cov_11.go (a := 138469) (l := [138661, 138841, 139033, 139201, 139397, 139591, 139787, 139981, 140177, 140363, 140557, 140741, 140939, 141131, 141319, 141511, 141709, 141907, 142099, 142297, 142469, 142657, 142841, 142993, 143177, 143357, 143551, 143743, 143909, 144103, 144299, 144497, 144671, 144847, 145043, 145219, 145417, 145603, 145799, 145991, 146173, 146369, 146563, 146749, 146941, 147139, 147331, 147517, 147709, 147881, 148079, 148249, 148439, 148633, 148829, 149027, 149213, 149411, 149603, 149791]) (by decide +kernel)
theorem cov_13 : Cov 161201 := cov_12.go (a := 149791) (l := [149971, 150169, 150343, 150533, 150721, 150919, 151091, 151289, 151483, 151681, 151871, 152063, 152249, 152443, 152641, 152839, 153001, 153191, 153379, 153563, 153757, 153953, 154127, 154321, 154501, 154699, 154897, 155087, 155269, 155461, 155657, 155851, 156041, 156229, 156421, 156619, 156817, 157013, 157211, 157393, 157579, 157771, 157951, 158143, 158341, 158537, 158731, 158927, 159119, 159311, 159503, 159701, 159899, 160093, 160253, 160441, 160639, 160829, 161017, 161201]) (by decide +kernel)
theorem cov_14 : Cov 172607 := cov_13.go (a := 161201) (l := [161387, 161573, 161771, 161969, 162143, 162293, 162473, 162671, 162859, 163027, 163223, 163417, 163613, 163811, 163997, 164191, 164387, 164581, 164771, 164963, 165161, 165349, 165541, 165721, 165901, 166099, 166297, 166487, 166679, 166871, 167051, 167249, 167443, 167641, 167809, 167987, 168151, 168347, 168541, 168737, 168913, 169111, 169307, 169501, 169693, 169891, 170081, 170279, 170473, 170669, 170857, 171053, 171251, 171449, 171641, 171827, 172021, 172219, 172411, 172607]) (by decide +kernel)
theorem cov_15 : Cov 184087 := cov_14.go (a := 172607) (l := [172801, 172999, 173191, 173359, 173549, 173743, 173933, 174121, 174311, 174491, 174679, 174877, 175069, 175267, 175463, 175649, 175843, 176041, 176237, 176431, 176629, 176819, 177013, 177211, 177409, 177601, 177797, 177979, 178169, 178361, 178559, 178757, 178951, 179143, 179327, 179519, 179717, 179909, 180097, 180289, 180473, 180667, 180847, 181039, 181219, 181409, 181607, 181789, 181981, 182179, 182353, 182549, 182747, 182933, 183119, 183317, 183511, 183709, 183907, 184087]) (by decide +kernel)
theorem cov_16 : Cov 195479 := cov_15.go (a := 184087) (l := [184279, 184477, 184669, 184859, 185057, 185243, 185441, 185621, 185819, 186013, 186211, 186397, 186587, 186773, 186959, 187141, 187339, 187531, 187721, 187909, 188107, 188303, 188491, 188687, 188869, 189067, 189257, 189439, 189619, 189817, 189997, 190181, 190369, 190543, 190717, 190913, 191099, 191297, 191491, 191689, 191861, 192053, 192251, 192431, 192629, 192817, 193013, 193201, 193393, 193577, 193771, 193957, 194149, 194323, 194521, 194717, 194911, 195103, 195281, 195479]) (by decide +kernel)
theorem cov_17 : Cov 206827 := cov_16.go (a := 195479) (l := [195677, 195869, 196051, 196247, 196439, 196613, 196799, 196993, 197161, 197359, 197551, 197741, 197933, 198127, 198323, 198503, 198701, 198899, 199081, 199267, 199457, 199637, 199831, 200029, 200227, 200407, 200597, 200789, 200987, 201167, 201359, 201557, 201743, 201937, 202129, 202327, 202519, 202717, 202907, 203057, 203249, 203431, 203627, 203821, 204019, 204173, 204371, 204563, 204751, 204947, 205141, 205339, 205537, 205721, 205913, 206083, 206281, 206477, 206651, 206827]) (by decide +kernel)
theorem cov_18 : Cov 218233 := cov_17.go (a := 206827) (l := [207017, 207199, 207377, 207569, 207763, 207953, 208147, 208337, 208529, 208721, 208907, 209089, 209269, 209459, 209647, 209837, 210031, 210229, 210421, 210619, 210811, 211007, 211199, 211373, 211571, 211747, 211943, 212141, 212297, 212479, 212677, 212873, 213067, 213263, 213461, 213659, 213847, 214043, 214237, 214433, 214631, 214817, 214993, 215191, 215389, 215587, 215771, 215959, 216157, 216347, 216523, 216719, 216917, 217111, 217309, 217499, 217697, 217859, 218047, 218233]) (by decide +kernel)
theorem cov_19 : Cov 229519 := cov_18.go (a := 218233) (l := [218423, 218611, 218809, 219001, 219187, 219377, 219547, 219731, 219917, 220063, 220243, 220421, 220613, 220811, 220973, 221171, 221327, 221509, 221707, 221891, 222073, 222269, 222461, 222659, 222857, 223051, 223247, 223441, 223637, 223831, 224027, 224221, 224401, 224591, 224771, 224969, 225167, 225353, 225529, 225721, 225919, 226103, 226283, 226463, 226657, 226843, 227027, 227219, 227407, 227603, 227797, 227993, 228181, 228359, 228539, 228737, 228929, 229127, 229321, 229519]) (by decide +kernel)
theorem cov_20 : Cov 240869 := cov_19.go (a := 229519) (l := [229717, 229903, 230101, 230291, 230479, 230663, 230861, 231053, 231241, 231433, 231631, 231827, 232013, 232207, 232391, 232571, 232753, 232937, 233117, 233297, 233489, 233687, 233881, 234067, 234259, 234457, 234653, 234851, 235043, 235241, 235439, 235621, 235813, 235997, 236167, 236339, 236527, 236723, 236917, 237091, 237287, 237467, 237631, 237821, 238019, 238213, 238397, 238591, 238789, 238967, 239147, 239333, 239531, 239713, 239893, 240089, 240287, 240479, 240677, 240869]) (by decide +kernel)
theorem cov_21 : Cov 252223 := cov_20.go (a := 240869) (l := [241067, 241261, 241453, 241651, 241847, 242009, 242201, 242399, 242591, 242789, 242971, 243167, 243343, 243539, 243709, 243889, 244087, 244261, 244457, 244639, 244837, 245033, 245209, 245407, 245593, 245789, 245983, 246173, 246371, 246569, 246739, 246937, 247099, 247279, 247463, 247651, 247847, 248041, 248231, 248407, 248597, 248789, 248987, 249181, 249377, 249563, 249749, 249947, 250123, 250307, 250501, 250693, 250889, 251087, 251263, 251443, 251639, 251833, 252029, 252223]) (by decide +kernel)
theorem cov_22 : Cov 263621 := cov_21.go (a := 252223) (l := [252419, 252617, 252779, 252971, 253159, 253349, 253543, 253741, 253937, 254119, 254299, 254491, 254663, 254857, 255053, 255251, 255443, 255641, 255839, 256033, 256219, 256393, 256589, 256771, 256967, 257161, 257353, 257539, 257731, 257921, 258119, 258317, 258499, 258697, 258887, 259033, 259229, 259421, 259619, 259813, 260011, 260209, 260399, 260587, 260773, 260969, 261167, 261353, 261529, 261721, 261917, 262111, 262303, 262501, 262697, 262883, 263077, 263273, 263443, 263621]) (by decide +kernel)
theorem cov_23 : Cov 274871 := cov_22.go (a := 263621) (l := [263819, 264013, 264211, 264403, 264601, 264793, 264991, 265169, 265339, 265513, 265711, 265891, 266089, 266281, 266479, 266677, 266867, 267049, 267233, 267431, 267629, 267811, 268003, 268199, 268343, 268537, 268733, 268927, 269117, 269281, 269473, 269663, 269851, 270037, 270229, 270421, 270619, 270799, 270973, 271169, 271367, 271553, 271729, 271927, 272093, 272287, 272477, 272659, 272813, 273001, 273193, 273367, 273551, 273739, 273929, 274123, 274301, 274489, 274679, 274871]) (by decide +kernel)
theorem cov_24 : Cov 286063 := cov_23.go (a := 274871) (l := [275059, 275251, 275449, 275641, 275837, 276019, 276209, 276401, 276599, 276781, 276977, 277169, 277363, 277549, 277747, 277919, 278111, 278279, 278459, 278651, 278849, 279047, 279221, 279413, 279607, 279779, 279977, 280139, 280337, 280513, 280711, 280909, 281081, 281279, 281431, 281627, 281807, 282001, 282167, 282349, 282493, 282691, 282889, 283079, 283277, 283463, 283639, 283837, 284023, 284201, 284387, 284573, 284759, 284957, 285151, 285343, 285539, 285731, 285871, 286063]) (by decide +kernel)
theorem cov_25 : Cov 297317 := cov_24.go (a := 286063) (l := [286249, 286427, 286619, 286813, 287003, 287191, 287387, 287579, 287747, 287939, 288137, 288317, 288499, 288697, 288877, 289067, 289253, 289439, 289637, 289789, 289987, 290183, 290369, 290557, 290737, 290923, 291113, 291299, 291491, 291689, 291887, 292081, 292267, 292459, 292631, 292819, 292993, 293179, 293357, 293543, 293729, 293899, 294067, 294251, 294439, 294629, 294821, 295007, 295201, 295387, 295571, 295769, 295961, 296159, 296353, 296551, 296749, 296941, 297133, 297317]) (by decide +kernel)
theorem cov_26 : Cov 308723 := cov_25.go (a := 297317) (l := [297509, 297707, 297893, 298087, 298283, 298477, 298667, 298861, 299059, 299239, 299419, 299617, 299807, 299993, 300191, 300367, 300557, 300749, 300931, 301127, 301319, 301501, 301681, 301877, 302053, 302227, 302417, 302609, 302801, 302999, 303187, 303379, 303571, 303767, 303959, 304153, 304349, 304541, 304739, 304937, 305131, 305329, 305521, 305719, 305917, 306091, 306263, 306457, 306653, 306847, 307033, 307201, 307399, 307589, 307759, 307939, 308137, 308333, 308527, 308723]) (by decide +kernel)
theorem cov_27 : Cov 320119 := cov_26.go (a := 308723) (l := [308899, 309091, 309289, 309481, 309677, 309857, 310049, 310243, 310439, 310627, 310823, 311021, 311203, 311393, 311569, 311749, 311897, 312089, 312283, 312469, 312643, 312841, 313037, 313219, 313409, 313603, 313783, 313981, 314173, 314359, 314549, 314747, 314933, 315127, 315313, 315493, 315691, 315883, 316073, 316271, 316469, 316663, 316861, 317047, 317227, 317419, 317617, 317797, 317987, 318181, 318377, 318569, 318751, 318949, 319147, 319343, 319541, 319733, 319931, 320119]) (by decide +kernel)
theorem cov_28 : Cov 331537 := cov_27.go (a := 320119) (l := [320317, 320513, 320699, 320867, 321053, 321247, 321443, 321631, 321829, 322013, 322193, 322351, 322549, 322747, 322939, 323137, 323333, 323509, 323707, 323903, 324101, 324299, 324497, 324689, 324871, 325063, 325249, 325447, 325643, 325813, 325999, 326189, 326369, 326567, 326741, 326939, 327133, 327331, 327529, 327721, 327917, 328109, 328303, 328481, 328667, 328849, 329027, 329209, 329401, 329597, 329789, 329977, 330167, 330359, 330557, 330749, 330943, 331141, 331339, 331537]) (by decide +kernel)
theorem cov_29 : Cov 342949 := cov_28.go (a := 331537) (l := [331711, 331909, 332099, 332287, 332477, 332641, 332837, 333031, 333227, 333419, 333589, 333787, 333973, 334171, 334363, 334561, 334759, 334931, 335123, 335299, 335477, 335669, 335857, 336041, 336239, 336437, 336631, 336829, 337021, 337219, 337411, 337609, 337793, 337973, 338171, 338369, 338567, 338761, 338959, 339151, 339341, 339539, 339727, 339907, 340103, 340297, 340481, 340661, 340859, 341057, 341233, 341423, 341617, 341813, 341993, 342191, 342389, 342569, 342761, 342949]) (by decide +kernel)
theorem cov_30 : Cov 354401 := cov_29.go (a := 342949) (l := [343141, 343337, 343531, 343727, 343913, 344111, 344293, 344483, 344681, 344873, 345067, 345263, 345461, 345659, 345853, 346051, 346223, 346421, 346607, 346793, 346963, 347161, 347359, 347539, 347731, 347929, 348097, 348287, 348463, 348661, 348851, 349043, 349241, 349423, 349603, 349801, 349981, 350179, 350377, 350563, 350747, 350941, 351133, 351311, 351503, 351691, 351887, 352081, 352273, 352463, 352661, 352853, 353047, 353237, 353429, 353627, 353819, 354017, 354209, 354401]) (by decide +kernel)
theorem cov_31 : Cov 365699 := cov_30.go (a := 354401) (l := [354587, 354779, 354973, 355171, 355363, 355559, 355753, 355951, 356143, 356333, 356509, 356701, 356893, 357083, 357281, 357473, 357671, 357859, 358051, 358243, 358441, 358637, 358829, 359027, 359209, 359407, 359599, 359783, 359981, 360169, 360337, 360511, 360653, 360851, 361033, 361223, 361421, 361577, 361769, 361967, 362161, 362357, 362521, 362717, 362911, 363067, 363257, 363439, 363619, 363809, 363989, 364187, 364379, 364571, 364759, 364943, 365137, 365333, 365531, 365699]) (by decide +kernel)
theorem cov_32 : Cov 376969 := cov_31.go (a := 365699) (l := [365851, 366031, 366227, 366419, 366607, 366791, 366983, 367181, 367369, 367561, 367751, 367949, 368141, 368327, 368521, 368717, 368911, 369097, 369293, 369491, 369673, 369851, 370033, 370217, 370411, 370609, 370801, 370949, 371143, 371341, 371513, 371699, 371897, 372067, 372263, 372461, 372653, 372847, 373019, 373213, 373393, 373567, 373757, 373951, 374149, 374347, 374537, 374729, 374909, 375103, 375283, 375481, 375673, 375857, 376049, 376241, 376417, 376609, 376807, 376969]) (by decide +kernel)
theorem cov_33 : Cov 388363 := cov_32.go (a := 376969) (l := [377147, 377339, 377537, 377717, 377911, 378101, 378289, 378467, 378661, 378823, 379013, 379207, 379399, 379597, 379787, 379979, 380147, 380333, 380503, 380657, 380843, 381037, 381233, 381419, 381607, 381793, 381991, 382189, 382373, 382567, 382763, 382961, 383153, 383347, 383533, 383729, 383923, 384113, 384301, 384497, 384691, 384889, 385087, 385279, 385471, 385663, 385859, 386051, 386249, 386437, 386629, 386809, 387007, 387203, 387397, 387587, 387781, 387977, 388169, 388363]) (by decide +kernel)
theorem cov_34 : Cov 399677 := cov_33.go (a := 388363) (l := [388541, 388727, 388903, 389099, 389297, 389483, 389663, 389849, 390043, 390223, 390421, 390581, 390763, 390961, 391159, 391351, 391537, 391733, 391921, 392113, 392299, 392489, 392669, 392857, 393031, 393209, 393403, 393593, 393779, 393977, 394169, 394367, 394549, 394747, 394943, 395141, 395323, 395513, 395701, 395897, 396091, 396269, 396449, 396647, 396833, 397027, 397223, 397379, 397567, 397763, 397951, 398149, 398347, 398543, 398731, 398921, 399107, 399283, 399481, 399677]) (by decide +kernel)
theorem cov_35 : Cov 410903 := cov_34.go (a := 399677) (l := [399871, 400069, 400261, 400457, 400651, 400849, 401039, 401237, 401417, 401593, 401773, 401959, 402139, 402331, 402529, 402697, 402881, 403079, 403267, 403439, 403621, 403817, 404011, 404197, 404389, 404557, 404713, 404851, 405049, 405247, 405439, 405611, 405799, 405997, 406183, 406381, 406579, 406739, 406907, 407083, 407273, 407471, 407669, 407861, 408049, 408241, 408437, 408631, 408817, 409007, 409187, 409379, 409573, 409769, 409967, 410149, 410341, 410519, 410717, 410903]) (by decide +kernel)
theorem cov_36 : Cov 422111 := cov_35.go (a := 410903) (l := [411101, 411287, 411479, 411667, 411841, 412039, 412219, 412411, 412609, 412807, 412987, 413183, 413353, 413551, 413737, 413923, 414109, 414283, 414467, 414653, 414833, 415031, 415213, 415409, 415607, 415801, 415999, 416167, 416359, 416543, 416719, 416887, 417037, 417227, 417419, 417617, 417811, 418009, 418207, 418391, 418559, 418751, 418939, 419087, 419281, 419477, 419651, 419831, 420029, 420221, 420419, 420613, 420811, 421009, 421207, 421397, 421559, 421741, 421913, 422111]) (by decide +kernel)
theorem cov_37 : Cov 433399 := cov_36.go (a := 422111) (l := [422309, 422479, 422657, 422827, 423019, 423209, 423403, 423601, 423791, 423989, 424187, 424351, 424549, 424729, 424913, 425107, 425297, 425489, 425681, 425879, 426077, 426253, 426427, 426611, 426799, 426997, 427181, 427379, 427541, 427733, 427919, 428093, 428273, 428471, 428663, 428851, 429043, 429241, 429431, 429599, 429797, 429991, 430147, 430343, 430517, 430709, 430907, 431099, 431297, 431479, 431671, 431869, 432067, 432251, 432449, 432637, 432833, 433003, 433201, 433399]) (by decide +kernel)
theorem cov_38 : Cov 444739 := cov_37.go (a := 433399) (l := [433577, 433759, 433943, 434141, 434323, 434521, 434719, 434909, 435107, 435287, 435481, 435679, 435859, 436027, 436217, 436399, 436591, 436757, 436913, 437111, 437293, 437473, 437653, 437849, 438047, 438241, 438439, 438637, 438833, 439009, 439199, 439381, 439577, 439771, 439969, 440159, 440347, 440543, 440731, 440911, 441109, 441307, 441499, 441697, 441887, 442069, 442243, 442439, 442633, 442831, 443017, 443203, 443389, 443587, 443777, 443953, 444151, 444349, 444547, 444739]) (by decide +kernel)
theorem cov_39 : Cov 455953 := cov_38.go (a := 444739) (l := [444937, 445103, 445297, 445477, 445657, 445853, 446041, 446231, 446417, 446609, 446773, 446969, 447137, 447331, 447527, 447703, 447901, 448093, 448249, 448421, 448607, 448801, 448999, 449173, 449363, 449557, 449741, 449929, 450127, 450311, 450503, 450691, 450887, 451069, 451249, 451441, 451637, 451831, 452027, 452213, 452401, 452597, 452773, 452957, 453143, 453329, 453527, 453709, 453907, 454079, 454277, 454453, 454637, 454823, 455011, 455201, 455393, 455579, 455761, 455953]) (by decide +kernel)
theorem cov_40 : Cov 467101 := cov_39.go (a := 455953) (l := [456151, 456349, 456539, 456737, 456923, 457117, 457307, 457469, 457661, 457837, 458027, 458219, 458407, 458599, 458797, 458993, 459181, 459377, 459523, 459703, 459883, 460081, 460267, 460463, 460657, 460843, 461017, 461207, 461393, 461581, 461717, 461891, 462079, 462271, 462467, 462659, 462851, 463033, 463231, 463399, 463579, 463763, 463949, 464143, 464327, 464521, 464699, 464897, 465089, 465281, 465469, 465659, 465841, 466033, 466201, 466373, 466567, 466751, 466919, 467101]) (by decide +kernel)
theorem cov_41 : Cov 478531 := cov_40.go (a := 467101) (l := [467297, 467491, 467689, 467881, 468079, 468277, 468473, 468667, 468859, 469037, 469229, 469411, 469589, 469787, 469979, 470167, 470359, 470551, 470749, 470947, 471139, 471313, 471509, 471703, 471901, 472067, 472261, 472457, 472643, 472837, 473027, 473219, 473411, 473597, 473789, 473987, 474169, 474359, 474557, 474751, 474949, 475147, 475333, 475529, 475721, 475907, 476101, 476299, 476479, 476659, 476851, 477047, 477229, 477409, 477593, 477791, 477977, 478171, 478351, 478531]) (by decide +kernel)
theorem cov_42 : Cov 489761 := cov_41.go (a := 478531) (l := [478729, 478927, 479081, 479267, 479461, 479639, 479833, 480023, 480209, 480391, 480587, 480773, 480967, 481157, 481343, 481531, 481721, 481909, 482101, 482281, 482441, 482633, 482827, 483017, 483211, 483409, 483577, 483773, 483971, 484153, 484339, 484531, 484727, 484867, 485063, 485209, 485389, 485587, 485777, 485959, 486139, 486331, 486527, 486721, 486907, 487099, 487283, 487481, 487657, 487843, 488021, 488209, 488407, 488603, 488797, 488993, 489191, 489389, 489571, 489761]) (by decide +kernel)
theorem cov_43 : Cov 501197 := cov_42.go (a := 489761) (l := [489959, 490151, 490339, 490537, 490733, 490927, 491083, 491279, 491461, 491653, 491851, 492047, 492227, 492421, 492619, 492799, 492979, 493177, 493369, 493567, 493747, 493939, 494129, 494327, 494521, 494719, 494917, 495113, 495307, 495491, 495679, 495877, 496073, 496259, 496453, 496631, 496817, 497011, 497197, 497389, 497587, 497773, 497969, 498167, 498361, 498557, 498749, 498947, 499141, 499327, 499523, 499717, 499903, 500083, 500257, 500443, 500629, 500809, 501001, 501197]) (by decide +kernel)
theorem cov_44 : Cov 512443 := cov_43.go (a := 501197) (l := [501383, 501577, 501769, 501967, 502141, 502339, 502517, 502703, 502883, 503077, 503267, 503453, 503647, 503827, 504017, 504209, 504403, 504599, 504797, 504991, 505187, 505369, 505559, 505727, 505919, 506113, 506291, 506479, 506663, 506861, 507049, 507217, 507401, 507599, 507797, 507979, 508171, 508367, 508559, 508727, 508919, 509101, 509297, 509477, 509659, 509843, 510031, 510227, 510403, 510589, 510773, 510943, 511123, 511297, 511487, 511669, 511867, 512059, 512251, 512443]) (by decide +kernel)
theorem cov_45 : Cov 523801 := cov_44.go (a := 512443) (l := [512641, 512821, 513017, 513203, 513397, 513593, 513781, 513977, 514147, 514343, 514531, 514711, 514903, 515089, 515279, 515477, 515663, 515861, 516053, 516251, 516449, 516643, 516839, 517003, 517189, 517381, 517577, 517747, 517931, 518129, 518327, 518521, 518717, 518911, 519107, 519301, 519499, 519691, 519889, 520073, 520241, 520433, 520631, 520813, 521009, 521201, 521399, 521581, 521777, 521929, 522127, 522323, 522521, 522719, 522887, 523049, 523219, 523417, 523603, 523801]) (by decide +kernel)
theorem cov_46 : Cov 534889 := cov_45.go (a := 523801) (l := [523997, 524189, 524387, 524521, 524707, 524899, 525043, 525241, 525439, 525607, 525781, 525979, 526159, 526307, 526501, 526681, 526871, 527069, 527251, 527447, 527633, 527819, 528013, 528197, 528391, 528559, 528719, 528911, 529103, 529301, 529489, 529687, 529871, 530063, 530261, 530447, 530641, 530837, 531023, 531203, 531383, 531581, 531731, 531919, 532099, 532283, 532453, 532639, 532823, 533011, 533191, 533389, 533581, 533777, 533971, 534167, 534341, 534529, 534707, 534889]) (by decide +kernel)
theorem cov_47 : Cov 546109 := cov_46.go (a := 534889) (l := [535061, 535243, 535399, 535589, 535783, 535973, 536149, 536323, 536513, 536699, 536891, 537079, 537269, 537413, 537611, 537793, 537991, 538163, 538357, 538553, 538751, 538943, 539141, 539339, 539533, 539729, 539921, 540119, 540307, 540469, 540629, 540823, 541007, 541201, 541391, 541589, 541781, 541967, 542153, 542323, 542519, 542713, 542911, 543097, 543289, 543463, 543661, 543859, 544031, 544223, 544403, 544601, 544793, 544979, 545161, 545329, 545527, 545723, 545917, 546109]) (by decide +kernel)
theorem cov_48 : Cov 557377 := cov_47.go (a := 546109) (l := [546289, 546479, 546677, 546869, 547061, 547249, 547441, 547639, 547831, 548003, 548201, 548399, 548591, 548783, 548963, 549161, 549331, 549517, 549713, 549911, 550073, 550267, 550457, 550651, 550843, 551039, 551233, 551423, 551597, 551773, 551963, 552137, 552317, 552511, 552709, 552899, 553097, 553279, 553471, 553667, 553849, 554017, 554209, 554383, 554573, 554767, 554959, 555143, 555337, 555523, 555707, 555871, 556069, 556267, 556459, 556651, 556849, 557041, 557201, 557377]) (by decide +kernel)
theorem cov_49 : Cov 568627 := cov_48.go (a := 557377) (l := [557573, 557761, 557927, 558121, 558319, 558499, 558683, 558881, 559067, 559259, 559451, 559649, 559841, 560039, 560237, 560411, 560597, 560783, 560977, 561173, 561367, 561559, 561733, 561931, 562129, 562313, 562501, 562699, 562897, 563081, 563263, 563449, 563623, 563821, 564017, 564197, 564391, 564533, 564713, 564899, 565069, 565261, 565451, 565637, 565813, 566011, 566201, 566393, 566567, 566759, 566947, 567143, 567323, 567499, 567689, 567883, 568069, 568241, 568439, 568627]) (by decide +kernel)
theorem cov_50 : Cov 579851 := cov_49.go (a := 568627) (l := [568823, 569021, 569213, 569369, 569533, 569731, 569927, 570113, 570253, 570421, 570613, 570781, 570967, 571163, 571339, 571531, 571721, 571903, 572093, 572281, 572479, 572659, 572843, 573031, 573197, 573383, 573571, 573763, 573953, 574127, 574309, 574507, 574703, 574859, 575053, 575251, 575441, 575623, 575821, 576019, 576217, 576391, 576581, 576769, 576967, 577153, 577351, 577547, 577739, 577937, 578131, 578327, 578509, 578701, 578881, 579079, 579277, 579473, 579653, 579851]) (by decide +kernel)
theorem cov_51 : Cov 591127 := cov_50.go (a := 579851) (l := [580033, 580231, 580417, 580607, 580793, 580981, 581177, 581369, 581557, 581753, 581947, 582139, 582319, 582511, 582691, 582887, 583069, 583267, 583459, 583657, 583853, 584033, 584203, 584399, 584593, 584791, 584981, 585163, 585341, 585517, 585691, 585889, 586087, 586277, 586471, 586667, 586849, 587033, 587219, 587417, 587603, 587789, 587987, 588173, 588361, 588529, 588703, 588893, 589063, 589243, 589439, 589609, 589807, 589997, 590171, 590363, 590543, 590741, 590929, 591127]) (by decide +kernel)
theorem cov_52 : Cov 602477 := cov_51.go (a := 591127) (l := [591319, 591509, 591691, 591887, 592073, 592261, 592453, 592649, 592843, 593041, 593233, 593429, 593627, 593783, 593977, 594163, 594359, 594551, 594749, 594931, 595129, 595319, 595513, 595711, 595877, 596069, 596261, 596423, 596611, 596803, 596987, 597169, 597367, 597559, 597757, 597929, 598127, 598307, 598501, 598691, 598883, 599069, 599251, 599429, 599623, 599803, 599999, 600169, 600367, 600557, 600751, 600949, 601147, 601339, 601507, 601697, 601889, 602087, 602279, 602477]) (by decide +kernel)
theorem cov_53 : Cov 613637 := cov_52.go (a := 602477) (l := [602647, 602839, 603023, 603217, 603401, 603569, 603761, 603949, 604073, 604259, 604441, 604619, 604811, 605009, 605191, 605369, 605551, 605719, 605909, 606091, 606251, 606449, 606643, 606839, 607037, 607219, 607417, 607583, 607769, 607967, 608161, 608359, 608527, 608701, 608899, 609079, 609277, 609461, 609641, 609821, 609997, 610193, 610391, 610583, 610781, 610969, 611147, 611333, 611531, 611729, 611927, 612113, 612307, 612497, 612679, 612877, 613061, 613253, 613451, 613637]) (by decide +kernel)
theorem cov_54 : Cov 624917 := cov_53.go (a := 613637) (l := [613829, 613999, 614183, 614377, 614569, 614759, 614927, 615107, 615299, 615497, 615679, 615869, 616051, 616243, 616439, 616597, 616793, 616991, 617189, 617387, 617579, 617777, 617971, 618161, 618349, 618547, 618719, 618913, 619111, 619309, 619477, 619669, 619867, 620051, 620239, 620437, 620623, 620821, 621017, 621143, 621337, 621527, 621721, 621913, 622109, 622301, 622493, 622669, 622861, 623059, 623221, 623417, 623591, 623771, 623963, 624149, 624347, 624541, 624737, 624917]) (by decide +kernel)
theorem cov_55 : Cov 636109 := cov_54.go (a := 624917) (l := [625111, 625307, 625489, 625663, 625861, 626051, 626239, 626393, 626581, 626771, 626963, 627139, 627329, 627511, 627709, 627901, 628097, 628289, 628487, 628681, 628877, 629059, 629249, 629429, 629623, 629819, 630017, 630197, 630391, 630589, 630737, 630919, 631061, 631259, 631457, 631643, 631819, 631993, 632189, 632381, 632561, 632747, 632941, 633133, 633317, 633497, 633667, 633833, 634031, 634223, 634421, 634609, 634807, 635003, 635197, 635389, 635567, 635737, 635923, 636109]) (by decide +kernel)
theorem cov_56 : Cov 647341 := cov_55.go (a := 636109) (l := [636301, 636499, 636697, 636877, 637073, 637271, 637463, 637657, 637841, 638023, 638201, 638371, 638567, 638719, 638893, 639091, 639269, 639451, 639647, 639839, 640027, 640223, 640421, 640613, 640793, 640973, 641167, 641327, 641521, 641713, 641909, 642079, 642253, 642427, 642623, 642809, 642997, 643187, 643373, 643567, 643751, 643949, 644143, 644341, 644531, 644729, 644923, 645097, 645257, 645443, 645641, 645839, 646027, 646199, 646397, 646577, 646771, 646957, 647147, 647341]) (by decide +kernel)
theorem cov_57 : Cov 658703 := cov_56.go (a := 647341) (l := [647531, 647723, 647917, 648107, 648293, 648481, 648677, 648871, 649069, 649261, 649457, 649651, 649849, 650017, 650213, 650401, 650599, 650779, 650971, 651169, 651361, 651517, 651697, 651881, 652079, 652261, 652453, 652651, 652849, 653033, 653209, 653363, 653561, 653749, 653941, 654127, 654323, 654509, 654701, 654889, 655087, 655283, 655471, 655657, 655849, 656039, 656237, 656429, 656609, 656791, 656989, 657187, 657383, 657581, 657779, 657973, 658169, 658367, 658549, 658703]) (by decide +kernel)
theorem cov_58 : Cov 670099 := cov_57.go (a := 658703) (l := [658897, 659077, 659251, 659437, 659629, 659819, 660013, 660199, 660391, 660589, 660787, 660983, 661139, 661327, 661517, 661697, 661889, 662083, 662281, 662477, 662671, 662867, 663053, 663241, 663437, 663631, 663827, 664019, 664211, 664403, 664597, 664793, 664973, 665153, 665351, 665549, 665747, 665923, 666119, 666301, 666493, 666683, 666871, 667021, 667211, 667379, 667577, 667769, 667963, 668159, 668347, 668543, 668741, 668939, 669133, 669329, 669527, 669707, 669901, 670099]) (by decide +kernel)
theorem cov_59 : Cov 681361 := cov_58.go (a := 670099) (l := [670297, 670493, 670673, 670867, 671063, 671261, 671443, 671633, 671831, 672029, 672227, 672379, 672577, 672767, 672953, 673129, 673327, 673513, 673669, 673837, 674017, 674189, 674371, 674563, 674761, 674957, 675151, 675347, 675541, 675739, 675931, 676129, 676297, 676493, 676679, 676861, 677057, 677239, 677423, 677587, 677783, 677959, 678157, 678343, 678541, 678739, 678907, 679087, 679279, 679463, 679639, 679837, 680027, 680213, 680411, 680597, 680783, 680971, 681167, 681361]) (by decide +kernel)
theorem cov_60 : Cov 692581 := cov_59.go (a := 681361) (l := [681557, 681731, 681913, 682079, 682277, 682471, 682657, 682819, 683003, 683201, 683381, 683567, 683759, 683957, 684127, 684311, 684493, 684683, 684869, 685063, 685249, 685429, 685621, 685819, 686011, 686209, 686363, 686551, 686737, 686911, 687109, 687307, 687499, 687691, 687847, 688031, 688223, 688411, 688591, 688783, 688979, 689167, 689357, 689551, 689723, 689921, 690119, 690293, 690491, 690689, 690887, 691079, 691267, 691463, 691661, 691843, 692017, 692191, 692389, 692581]) (by decide +kernel)
theorem cov_61 : Cov 703753 := cov_60.go (a := 692581) (l := [692779, 692969, 693167, 693359, 693533, 693731, 693881, 694079, 694277, 694471, 694651, 694831, 695021, 695207, 695389, 695581, 695777, 695939, 696119, 696317, 696503, 696691, 696889, 697087, 697271, 697457, 697643, 697831, 698021, 698183, 698371, 698567, 698729, 698923, 699119, 699299, 699493, 699649, 699823, 700001, 700199, 700393, 700591, 700789, 700963, 701159, 701357, 701549, 701741, 701903, 702101, 702283, 702469, 702623, 702817, 703013, 703211, 703393, 703561, 703753]) (by decide +kernel)
theorem cov_62 : Cov 714991 := cov_61.go (a := 703753) (l := [703949, 704141, 704321, 704507, 704687, 704867, 705053, 705247, 705437, 705631, 705829, 706019, 706213, 706403, 706597, 706793, 706987, 707177, 707359, 707543, 707723, 707911, 708109, 708293, 708481, 708667, 708859, 709057, 709237, 709433, 709609, 709799, 709991, 710189, 710383, 710573, 710713, 710911, 711097, 711287, 711479, 711653, 711847, 712021, 712219, 712417, 712603, 712781, 712973, 713171, 713357, 713533, 713681, 713873, 714061, 714257, 714443, 714619, 714809, 714991]) (by decide +kernel)
theorem cov_63 : Cov 726181 := cov_62.go (a := 714991) (l := [715189, 715373, 715571, 715753, 715943, 716137, 716321, 716501, 716693, 716869, 717047, 717229, 717427, 717593, 717751, 717923, 718121, 718303, 718493, 718691, 718871, 719063, 719239, 719419, 719599, 719791, 719989, 720179, 720373, 720571, 720767, 720961, 721159, 721351, 721547, 721739, 721921, 722119, 722317, 722509, 722669, 722849, 723043, 723227, 723421, 723617, 723803, 724001, 724187, 724331, 724519, 724651, 724847, 725041, 725209, 725399, 725597, 725789, 725983, 726181]) (by decide +kernel)
theorem cov_64 : Cov 737353 := cov_63.go (a := 726181) (l := [726379, 726559, 726751, 726941, 727123, 727313, 727501, 727691, 727879, 728069, 728267, 728437, 728627, 728813, 728993, 729191, 729389, 729587, 729779, 729977, 730157, 730339, 730537, 730727, 730913, 731057, 731251, 731447, 731639, 731831, 732029, 732217, 732373, 732541, 732731, 732923, 733111, 733307, 733489, 733687, 733883, 734057, 734233, 734431, 734627, 734819, 735001, 735193, 735391, 735571, 735751, 735949, 736147, 736279, 736471, 736657, 736847, 737041, 737207, 737353]) (by decide +kernel)
theorem cov_65 : Cov 748639 := cov_64.go (a := 737353) (l := [737537, 737729, 737927, 738121, 738319, 738509, 738707, 738889, 739087, 739283, 739469, 739649, 739847, 740041, 740237, 740429, 740603, 740801, 740989, 741187, 741373, 741569, 741721, 741913, 742111, 742307, 742499, 742697, 742891, 743089, 743279, 743447, 743609, 743803, 743989, 744187, 744377, 744559, 744739, 744917, 745103, 745301, 745477, 745673, 745859, 746047, 746243, 746429, 746597, 746791, 746989, 747161, 747343, 747529, 747713, 747889, 748057, 748249, 748441, 748639]) (by decide +kernel)
theorem cov_66 : Cov 760007 := cov_65.go (a := 748639) (l := [748831, 749027, 749219, 749401, 749587, 749779, 749971, 750163, 750353, 750521, 750719, 750917, 751103, 751301, 751481, 751669, 751867, 752053, 752251, 752449, 752639, 752833, 753031, 753229, 753427, 753619, 753811, 754003, 754183, 754381, 754577, 754771, 754969, 755147, 755333, 755509, 755707, 755903, 756101, 756293, 756467, 756649, 756839, 757019, 757201, 757387, 757583, 757763, 757951, 758141, 758339, 758521, 758713, 758899, 759089, 759287, 759467, 759659, 759833, 760007]) (by decide +kernel)
theorem cov_67 : Cov 771301 := cov_66.go (a := 760007) (l := [760187, 760373, 760567, 760759, 760951, 761129, 761297, 761489, 761681, 761879, 762061, 762257, 762409, 762599, 762791, 762989, 763183, 763381, 763579, 763771, 763967, 764149, 764341, 764539, 764723, 764903, 765097, 765293, 765487, 765673, 765859, 766049, 766247, 766439, 766637, 766817, 766999, 767167, 767359, 767551, 767749, 767909, 768107, 768301, 768491, 768671, 768869, 769057, 769247, 769429, 769627, 769807, 769999, 770191, 770387, 770579, 770771, 770951, 771143, 771301]) (by decide +kernel)
theorem cov_68 : Cov 782689 := cov_67.go (a := 771301) (l := [771499, 771697, 771889, 772081, 772279, 772477, 772669, 772867, 773063, 773251, 773447, 773611, 773803, 774001, 774199, 774377, 774551, 774733, 774931, 775121, 775309, 775507, 775681, 775871, 776059, 776257, 776453, 776651, 776837, 777031, 777221, 777419, 777617, 777787, 777979, 778163, 778361, 778559, 778733, 778927, 779111, 779267, 779413, 779609, 779797, 779993, 780191, 780389, 780587, 780733, 780931, 781129, 781327, 781523, 781721, 781919, 782113, 782311, 782501, 782689]) (by decide +kernel)
theorem cov_69 : Cov 793901 := cov_68.go (a := 782689) (l := [782861, 783043, 783227, 783421, 783619, 783803, 783953, 784129, 784327, 784513, 784697, 784867, 785053, 785249, 785431, 785627, 785809, 786001, 786197, 786371, 786553, 786739, 786937, 787123, 787309, 787489, 787667, 787837, 788033, 788231, 788429, 788621, 788819, 789017, 789181, 789377, 789571, 789749, 789941, 790121, 790291, 790481, 790651, 790843, 791029, 791227, 791419, 791599, 791797, 791993, 792179, 792377, 792563, 792751, 792941, 793139, 793337, 793519, 793717, 793901]) (by decide +kernel)
theorem cov_70 : Cov 805187 := cov_69.go (a := 793901) (l := [794089, 794249, 794413, 794593, 794779, 794957, 795149, 795343, 795539, 795737, 795931, 796121, 796307, 796493, 796687, 796877, 797063, 797207, 797399, 797593, 797773, 797957, 798151, 798331, 798527, 798713, 798911, 799103, 799301, 799489, 799679, 799873, 800057, 800243, 800441, 800623, 800801, 800999, 801197, 801379, 801571, 801761, 801959, 802147, 802339, 802531, 802729, 802913, 803093, 803287, 803483, 803669, 803867, 804059, 804239, 804409, 804607, 804803, 804997, 805187]) (by decide +kernel)
theorem cov_71 : Cov 816427 := cov_70.go (a := 805187) (l := [805381, 805573, 805757, 805933, 806129, 806317, 806513, 806671, 806857, 807017, 807203, 807383, 807571, 807757, 807949, 808147, 808343, 808523, 808721, 808919, 809101, 809297, 809491, 809629, 809827, 810023, 810209, 810401, 810587, 810769, 810967, 811163, 811351, 811523, 811709, 811897, 812081, 812267, 812443, 812641, 812807, 812969, 813167, 813361, 813559, 813749, 813931, 814129, 814327, 814501, 814699, 814889, 815063, 815261, 815459, 815653, 815851, 816047, 816239, 816427]) (by decide +kernel)
theorem cov_72 : Cov 827719 := cov_71.go (a := 816427) (l := [816593, 816779, 816971, 817169, 817357, 817549, 817727, 817919, 818113, 818309, 818473, 818659, 818837, 819031, 819229, 819419, 819617, 819811, 819991, 820187, 820367, 820559, 820753, 820927, 821113, 821311, 821507, 821677, 821869, 822067, 822259, 822433, 822631, 822823, 823013, 823201, 823399, 823591, 823789, 823981, 824179, 824339, 824531, 824723, 824921, 825109, 825301, 825491, 825689, 825883, 826069, 826211, 826403, 826583, 826759, 826957, 827147, 827327, 827521, 827719]) (by decide +kernel)
theorem cov_73 : Cov 838781 := cov_72.go (a := 827719) (l := [827903, 828101, 828277, 828449, 828643, 828833, 829013, 829211, 829399, 829561, 829757, 829949, 830143, 830341, 830513, 830693, 830891, 831073, 831253, 831443, 831631, 831829, 832003, 832189, 832379, 832519, 832717, 832913, 833101, 833299, 833491, 833689, 833887, 834059, 834257, 834439, 834629, 834811, 835001, 835141, 835327, 835511, 835687, 835859, 836047, 836243, 836413, 836611, 836807, 836971, 837157, 837313, 837509, 837679, 837853, 838043, 838207, 838403, 838601, 838781]) (by decide +kernel)
theorem cov_74 : Cov 850147 := cov_73.go (a := 838781) (l := [838969, 839161, 839353, 839551, 839731, 839921, 840109, 840299, 840491, 840683, 840863, 841021, 841219, 841411, 841601, 841793, 841987, 842183, 842371, 842551, 842747, 842939, 843137, 843331, 843527, 843701, 843889, 844087, 844279, 844469, 844651, 844847, 845041, 845237, 845431, 845623, 845809, 845989, 846187, 846383, 846577, 846757, 846953, 847151, 847339, 847537, 847729, 847919, 848101, 848297, 848489, 848681, 848879, 849061, 849253, 849427, 849601, 849773, 849967, 850147]) (by decide +kernel)
theorem cov_75 : Cov 861437 := cov_74.go (a := 850147) (l := [850337, 850529, 850727, 850897, 851093, 851273, 851471, 851659, 851843, 852037, 852233, 852427, 852623, 852809, 853007, 853189, 853387, 853577, 853763, 853949, 854141, 854333, 854527, 854713, 854899, 855089, 855277, 855467, 855641, 855821, 855997, 856187, 856381, 856571, 856759, 856949, 857137, 857333, 857513, 857711, 857903, 858101, 858293, 858479, 858673, 858859, 859057, 859249, 859447, 859633, 859823, 860011, 860143, 860341, 860533, 860701, 860891, 861089, 861239, 861437]) (by decide +kernel)
theorem cov_76 : Cov 872671 := cov_75.go (a := 861437) (l := [861617, 861803, 861997, 862187, 862369, 862567, 862739, 862921, 863119, 863309, 863497, 863693, 863887, 864079, 864277, 864449, 864641, 864817, 865003, 865201, 865379, 865577, 865771, 865957, 866123, 866311, 866477, 866653, 866851, 867037, 867233, 867431, 867623, 867817, 867991, 868177, 868369, 868561, 868741, 868939, 869137, 869321, 869501, 869689, 869887, 870083, 870271, 870461, 870643, 870833, 871027, 871181, 871349, 871531, 871727, 871919, 872107, 872281, 872479, 872671]) (by decide +kernel)
theorem cov_77 : Cov 884003 := cov_76.go (a := 872671) (l := [872863, 873049, 873247, 873437, 873619, 873787, 873979, 874151, 874343, 874537, 874729, 874919, 875117, 875299, 875491, 875689, 875851, 876041, 876233, 876431, 876619, 876817, 877003, 877199, 877397, 877577, 877771, 877949, 878147, 878309, 878489, 878681, 878873, 879061, 879259, 879457, 879653, 879839, 880031, 880223, 880421, 880603, 880801, 880993, 881191, 881369, 881539, 881729, 881917, 882103, 882289, 882481, 882659, 882851, 883049, 883247, 883433, 883627, 883807, 884003]) (by decide +kernel)
theorem cov_78 : Cov 895387 := cov_77.go (a := 884003) (l := [884201, 884371, 884537, 884717, 884899, 885097, 885289, 885487, 885679, 885869, 886043, 886241, 886433, 886619, 886807, 886999, 887191, 887387, 887581, 887759, 887947, 888143, 888323, 888499, 888691, 888887, 889081, 889279, 889453, 889639, 889829, 890027, 890221, 890419, 890609, 890803, 891001, 891179, 891377, 891571, 891767, 891929, 892123, 892321, 892513, 892709, 892901, 893099, 893281, 893479, 893671, 893863, 894059, 894247, 894431, 894613, 894811, 895009, 895189, 895387]) (by decide +kernel)
theorem cov_79 : Cov 906793 := cov_78.go (a := 895387) (l := [895579, 895777, 895957, 896143, 896341, 896537, 896723, 896921, 897119, 897317, 897499, 897691, 897887, 898069, 898259, 898439, 898621, 898819, 899009, 899189, 899387, 899537, 899719, 899917, 900103, 900293, 900491, 900689, 900869, 901067, 901253, 901451, 901643, 901841, 902039, 902227, 902413, 902611, 902807, 902987, 903179, 903367, 903563, 903761, 903949, 904147, 904303, 904499, 904697, 904879, 905071, 905269, 905461, 905659, 905843, 906029, 906211, 906403, 906601, 906793]) (by decide +kernel)
theorem cov_80 : Cov 918109 := cov_79.go (a := 906793) (l := [906973, 907169, 907367, 907561, 907759, 907957, 908153, 908321, 908513, 908711, 908909, 909107, 909301, 909481, 909679, 909877, 910069, 910229, 910421, 910619, 910817, 911011, 911201, 911371, 911549, 911737, 911917, 912103, 912287, 912481, 912649, 912839, 913037, 913217, 913397, 913589, 913771, 913943, 914131, 914327, 914521, 914713, 914897, 915071, 915259, 915451, 915641, 915839, 916033, 916219, 916417, 916613, 916787, 916973, 917159, 917353, 917549, 917737, 917927, 918109]) (by decide +kernel)
theorem cov_81 : Cov 929459 := cov_80.go (a := 918109) (l := [918301, 918497, 918683, 918877, 919067, 919253, 919447, 919631, 919823, 920021, 920219, 920411, 920609, 920807, 921001, 921199, 921379, 921563, 921761, 921959, 922123, 922321, 922517, 922699, 922897, 923053, 923249, 923441, 923617, 923809, 923987, 924173, 924361, 924557, 924751, 924929, 925121, 925307, 925501, 925697, 925891, 926089, 926273, 926467, 926659, 926851, 927049, 927233, 927431, 927629, 927821, 928001, 928177, 928351, 928547, 928703, 928883, 929077, 929261, 929459]) (by decide +kernel)
theorem cov_82 : Cov 940739 := cov_81.go (a := 929459) (l := [929647, 929843, 930011, 930199, 930389, 930583, 930779, 930977, 931169, 931363, 931543, 931739, 931933, 932131, 932317, 932513, 932683, 932879, 933073, 933269, 933463, 933649, 933847, 934039, 934229, 934403, 934597, 934793, 934981, 935167, 935359, 935537, 935719, 935903, 936097, 936283, 936469, 936667, 936827, 937009, 937207, 937379, 937577, 937751, 937949, 938129, 938323, 938507, 938681, 938879, 939061, 939247, 939443, 939623, 939793, 939989, 940183, 940369, 940553, 940739]) (by decide +kernel)
theorem cov_83 : Cov 952073 := cov_82.go (a := 940739) (l := [940931, 941123, 941309, 941503, 941701, 941879, 942061, 942257, 942449, 942637, 942827, 943013, 943199, 943387, 943571, 943769, 943967, 944161, 944329, 944527, 944717, 944899, 945089, 945233, 945431, 945629, 945823, 946021, 946207, 946397, 946579, 946769, 946961, 947137, 947327, 947509, 947707, 947893, 948091, 948287, 948469, 948659, 948853, 949051, 949243, 949441, 949633, 949811, 950009, 950207, 950401, 950569, 950753, 950947, 951131, 951299, 951497, 951689, 951887, 952073]) (by decide +kernel)
theorem cov_84 : Cov 963191 := cov_83.go (a := 952073) (l := [952253, 952439, 952619, 952813, 952997, 953191, 953347, 953543, 953731, 953929, 954103, 954287, 954469, 954649, 954847, 955039, 955223, 955391, 955541, 955729, 955919, 956113, 956311, 956503, 956699, 956881, 957071, 957263, 957433, 957611, 957773, 957959, 958141, 958339, 958523, 958693, 958883, 959009, 959207, 959389, 959579, 959773, 959969, 960151, 960341, 960527, 960709, 960889, 961087, 961283, 961459, 961657, 961853, 962051, 962243, 962441, 962627, 962807, 962993, 963191]) (by decide +kernel)
theorem cov_85 : Cov 974599 := cov_84.go (a := 963191) (l := [963379, 963559, 963751, 963943, 964133, 964309, 964507, 964703, 964897, 965089, 965267, 965453, 965647, 965843, 966041, 966233, 966431, 966619, 966817, 967003, 967201, 967397, 967583, 967781, 967979, 968173, 968353, 968537, 968731, 968917, 969113, 969301, 969497, 969679, 969877, 970069, 970267, 970457, 970643, 970829, 971027, 971207, 971401, 971591, 971783, 971981, 972163, 972353, 972533, 972721, 972901, 973099, 973289, 973487, 973681, 973853, 974041, 974213, 974411, 974599]) (by decide +kernel)
theorem cov_86 : Cov 985997 := cov_85.go (a := 974599) (l := [974773, 974971, 975157, 975343, 975523, 975701, 975899, 976093, 976279, 976477, 976669, 976853, 977047, 977243, 977437, 977629, 977819, 978017, 978209, 978403, 978599, 978797, 978973, 979171, 979369, 979567, 979757, 979949, 980137, 980327, 980503, 980689, 980887, 981077, 981271, 981467, 981653, 981823, 982021, 982217, 982403, 982589, 982783, 982981, 983179, 983377, 983557, 983737, 983929, 984127, 984323, 984497, 984689, 984881, 985079, 985277, 985471, 985667, 985819, 985997]) (by decide +kernel)
theorem cov_87 : Cov 997219 := cov_86.go (a := 985997) (l := [986191, 986369, 986567, 986759, 986941, 987127, 987313, 987509, 987697, 987869, 988067, 988243, 988439, 988607, 988789, 988979, 989173, 989353, 989533, 989719, 989917, 990053, 990239, 990397, 990593, 990767, 990961, 991147, 991343, 991541, 991733, 991931, 992129, 992317, 992513, 992707, 992903, 993079, 993269, 993467, 993647, 993841, 994039, 994237, 994417, 994603, 994793, 994991, 995173, 995369, 995567, 995747, 995941, 996119, 996311, 996487, 996649, 996847, 997043, 997219]) (by decide +kernel)
theorem cov_88 : Cov 1000003 := cov_87.go (a := 997219) (l := [997391, 997589, 997783, 997973, 998167, 998353, 998551, 998749, 998947, 999133, 999331, 999529, 999727, 999917, 1000003]) (by decide +kernel)
/-- a prime at most 199 below -/
theorem near_prime {x : Int} (h5 : 5 ≤ x) (hx : x ≤ 1000003) : ∃ q : Int, 5 ≤ q ∧ q ≤ x ∧ x < q + 200 ∧ noDiv q = true := by
  by_cases e : x = 1000003
  · exact ⟨1000003, by decide, by omega, by omega, cov_88.last⟩
  · obtain ⟨q, h1, h2, h3, h4⟩ := cov_88.all x.toNat (by omega) (by omega)
    exact ⟨q, by omega, by omega, by omega, h4⟩
theorem hasInv_aux {p a : Int} (P : Prm p) (a0 : 0 < a) (a1 : a < p) : ∀ (n : Nat) (high low far near : Int), low.toNat ≤ n → Euc p a high low far near → ∃ b, p ∣ a * b - 1 := by
  intro n
  induction n with
  | zero =>
    intro high low far near hn e
    have z : low = 0 := by have := e.l0; omega
    subst z
    have o := e.one P a0 a1
    subst o
    exact ⟨far, e.fa⟩
  | succ n ih =>
    intro high low far near hn e
    by_cases z : low = 0
    · subst z
      have o := e.one P a0 a1
      subst o
      exact ⟨far, e.fa⟩
    · have l0 : 0 < low := by have := e.l0; omega
      have s := e.step l0
      exact ih _ _ _ _ (by have := s.lt; have := s.l0; omega) s
theorem Prm.has {p : Int} (P : Prm p) : ∀ a, 0 < a → a < p → ∃ b, IsInv p a b := fun a a0 a1 => by
  obtain ⟨b, h⟩ := hasInv_aux P a0 a1 _ _ _ _ _ (Nat.le_refl _) (Euc.start (by omega) a1)
  exact ⟨_, inv_mod (by omega) h⟩
end Own


namespace Own
open PySem PySem.Spec PyProof.Rows L2
open Evl
section
variable {K : PySem.W.Frag} {σ : L2.St} {H H' : Hp} {ta tb tc te : TE} {t u : TT} {x y v : V} {k : Nat} {d : PyData} {D : Ends}
theorem ev_allB {bs : List Bool} (h : EvL ta σ H (bs.map V.bl)) : Ev (tCB (rAll K) (tCons ta tNil)) σ H (.bl (bs.all id)) :=
  fun H1 e Q q => h H1 e _ fun p H2 hp e2 hl => ⟨p, bs, rfl, sq_of hl, q H2 e2⟩
theorem given_true (n : Nat) (v : Nat → V) : given n (fun _ => true) v = (List.range n).map v := by
  unfold given
  rw [List.filter_eq_self.mpr fun _ _ => rfl]
theorem range_getD {α β : Type} (ds : List α) (z : α) (f : α → β) : ((List.range ds.length).map fun i => f (ds.getD i z)) = ds.map f := by
  apply List.ext_getElem
  · simp
  · intro i h1 h2
    simp at h1
    simp [List.getD_eq_getElem?_getD, h1]
/-- all(f(x) for the items of a tuple of data) -/
theorem given_bools {α : Type} (ds : List α) (z : α) (f : α → Bool) : given ds.length (fun _ => true) (fun i => V.bl (f (ds.getD i z))) = (ds.map f).map V.bl := by
  rw [given_true, ← range_getD ds z f, List.map_map]
  rfl
theorem all_id {α : Type} (ds : List α) (f : α → Bool) : (ds.map f).all id = ds.all f := by
  rw [List.all_map]
  rfl
theorem getD_at {ds : List PyData} {i : Nat} {d : PyData} (h : ds[i]? = some d) (z : PyData) : ds.getD i z = d := by
  rw [List.getD_eq_getElem?_getD, h]
  rfl
theorem et_false_or {a : Bool} (h1 : EvT t σ H a) (e : a = true) : EvT (tOr t u) σ H true := by
  subst e
  exact fun H1 e Q q => h1 H1 e _ fun H2 e2 => iteT (q H2 e2)
/-- a number's test as an option's -/
def optV : Option Int → V
  | none => .non
  | some i => .int i
theorem optV_non (o : Option Int) : decide (optV o = .non) = o.isNone := by cases o <;> simp [optV]
end
end Own


namespace Own
open PySem PySem.Spec PyProof.Rows L2
open Evl
/-! ### a source of numbers: a list of two, that every draw changes -/
def Src (H : Hp) (a : Addr) : Prop := ∃ big mixed : Int, H a = some (.lst [.int big, .int mixed]) ∧ 0 ≤ big ∧ 0 ≤ mixed ∧ mixed < 2147483647
/-- all but the source at a is kept -/
structure Up (a : Addr) (H H' : Hp) : Prop where
  keep : ∀ b o, b ≠ a → H b = some o → H' b = some o
  src : Src H' a
theorem Up.refl {a : Addr} {H : Hp} (h : Src H a) : Up a H H := ⟨fun _ _ _ h => h, h⟩
theorem Up.trans {a : Addr} {H H1 H2 : Hp} (x : Up a H H1) (y : Up a H1 H2) : Up a H H2 := ⟨fun b o n h => y.keep b o n (x.keep b o n h), y.src⟩
theorem Src.ex {a : Addr} {H H' : Hp} (e : Ex H H') (s : Src H a) : Src H' a := let ⟨x, y, h, r⟩ := s; ⟨x, y, e a _ h, r⟩
theorem Up.ex {a : Addr} {H H' : Hp} (e : Ex H H') (s : Src H a) : Up a H H' := ⟨fun b o _ h => e b o h, s.ex e⟩
theorem Up.kp {a : Addr} {H H' : Hp} (s : Src H a) (u : Up a H H') : Kp H H' := fun b o h n => by
  by_cases e : b = a
  · subst e
    obtain ⟨x, y, q, _⟩ := s
    rw [h] at q
    injection q with q
    exact absurd q (n _)
  · exact u.keep b o e h
theorem Src.at {a b : Addr} {H : Hp} {o : HO} (s : Src H a) (h : H b = some o) (n : ∀ xs, o ≠ .lst xs) : b ≠ a := fun e => by
  subst e
  obtain ⟨x, y, q, _⟩ := s
  rw [h] at q
  injection q with q
  exact n _ q
theorem Src.new {a b : Addr} {H : Hp} (s : Src H a) (h : H b = none) : b ≠ a := fun e => by
  subst e
  obtain ⟨x, y, q, _⟩ := s
  rw [h] at q
  cases q
/-- a tuple stands -/
theorem Up.sqT {K : PySem.W.Frag} {a b : Addr} {H H' : Hp} {xs : List V} (s : Src H a) (u : Up a H H') (h : SqT K H b xs) : SqT K H' b xs := (u.kp s).sqT h
theorem Up.gd {K : PySem.W.Frag} {a : Addr} {H H' : Hp} {k : Nat} {v : V} {d : PyData} (s : Src H a) (u : Up a H H') (g : Gd K H k v d) : Gd K H' k v d := g.kp (u.kp s)
abbrev VP := V → Hp → Prop
def Mono (a : Addr) (P : VP) : Prop := ∀ v H H', Src H a → Up a H H' → P v H → P v H'
/-- te gives a value of which P is so, and changes nothing but the source -/
def EvS (a : Addr) (te : TE) (σ : L2.St) (H : Hp) (P : VP) : Prop := ∀ H1, Up a H H1 → ∀ Q : VK, (∀ v H2, Up a H1 H2 → P v H2 → Q v H2) → te σ H1 Q
/-- n values, of each of which P is so -/
def EvSA (a : Addr) (ta : TA) (σ : L2.St) (H : Hp) (n : Nat) (P : VP) : Prop := ∀ H1, Up a H H1 → ∀ Q : List V → Hp → Prop, (∀ vs H2, Up a H1 H2 → vs.length = n → (∀ v ∈ vs, P v H2) → Q vs H2) → ta σ H1 Q
def PInt (lo hi : Int) : VP := fun v _ => ∃ i, v = .int i ∧ lo ≤ i ∧ i ≤ hi
def PDat (K : PySem.W.Frag) (k : Nat) : VP := fun v H => ∃ d, Gd K H k v d
theorem mono_int {a : Addr} {lo hi : Int} : Mono a (PInt lo hi) := fun _ _ _ _ _ h => h
theorem mono_dat {K : PySem.W.Frag} {a : Addr} {k : Nat} : Mono a (PDat K k) := fun _ _ _ s u ⟨d, g⟩ => ⟨d, u.gd s g⟩
/-- a list at an address of its own, of things of which P is so -/
def PLst (a : Addr) (n : Nat) (P : VP) : VP := fun v H => ∃ b xs, v = .ref b ∧ b ≠ a ∧ H b = some (.lst xs) ∧ xs.length = n ∧ ∀ x ∈ xs, P x H
theorem mono_lst {a : Addr} {n : Nat} {P : VP} (m : Mono a P) : Mono a (PLst a n P) := fun _ _ _ s u ⟨b, xs, e, nb, hb, hl, hp⟩ => ⟨b, xs, e, nb, u.keep b _ nb hb, hl, fun x hx => m x _ _ s u (hp x hx)⟩
section
variable {K : PySem.W.Frag} {a : Addr} {σ : L2.St} {H H' : Hp} {te ta tb : TE} {P R S : VP} {D : Ends} {tz tu : TS}
theorem es_c {v : V} (h : ∀ H1, P v H1) : EvS a (tC v) σ H P := fun H1 u Q q => q v H1 (.refl u.src) (h H1)
theorem es_int {i lo hi : Int} (h1 : lo ≤ i) (h2 : i ≤ hi) : EvS a (tC (.int i)) σ H (PInt lo hi) := es_c fun _ => ⟨i, rfl, h1, h2⟩
theorem es_var {i : Nat} {v : V} (e : σ[i]? = some (some v)) (h : ∀ H1, Up a H H1 → P v H1) : EvS a (tVar i) σ H P := fun H1 u Q q => ⟨v, e, q v H1 (.refl u.src) (h H1 u)⟩
theorem es_vint {i : Nat} {j lo hi : Int} (e : σ[i]? = some (some (.int j))) (h1 : lo ≤ j) (h2 : j ≤ hi) : EvS a (tVar i) σ H (PInt lo hi) := es_var e fun _ _ => ⟨j, rfl, h1, h2⟩
theorem es_imp (h : EvS a te σ H P) (i : ∀ v H1, P v H1 → R v H1) : EvS a te σ H R := fun H1 u Q q => h H1 u Q fun v H2 u2 p => q v H2 u2 (i v H2 p)
theorem es_op {r : R2} (ha : EvS a ta σ H P) (hb : EvS a tb σ H R) (m : Mono a P) (hr : ∀ x y H1, Up a H H1 → P x H1 → R y H1 → ∀ Q : VK, (∀ z H2, Up a H1 H2 → S z H2 → Q z H2) → r x y H1 Q) : EvS a (tOp r ta tb) σ H S :=
  fun H1 u Q q => ha H1 u _ fun x H2 u2 p => hb H2 (u.trans u2) _ fun y H3 u3 p3 => hr x y H3 ((u.trans u2).trans u3) (m x H2 H3 u2.src u3 p) p3 Q fun z H4 u4 s => q z H4 ((u2.trans u3).trans u4) s
theorem es_add {l1 h1 l2 h2 : Int} (ha : EvS a ta σ H (PInt l1 h1)) (hb : EvS a tb σ H (PInt l2 h2)) : EvS a (tOp rAddI ta tb) σ H (PInt (l1 + l2) (h1 + h2)) :=
  es_op ha hb mono_int fun x y H1 u ⟨i, ei, a1, a2⟩ ⟨j, ej, b1, b2⟩ Q q => ⟨i, j, ei, ej, q _ H1 (.refl u.src) ⟨_, rfl, by omega, by omega⟩⟩
theorem es_sub {l1 h1 l2 h2 : Int} (ha : EvS a ta σ H (PInt l1 h1)) (hb : EvS a tb σ H (PInt l2 h2)) : EvS a (tOp rSubI ta tb) σ H (PInt (l1 - h2) (h1 - l2)) :=
  es_op ha hb mono_int fun x y H1 u ⟨i, ei, a1, a2⟩ ⟨j, ej, b1, b2⟩ Q q => ⟨i, j, ei, ej, q _ H1 (.refl u.src) ⟨_, rfl, by omega, by omega⟩⟩
theorem es_wide {l1 h1 l2 h2 : Int} (h : EvS a te σ H (PInt l1 h1)) (e1 : l2 ≤ l1) (e2 : h1 ≤ h2) : EvS a te σ H (PInt l2 h2) := es_imp h fun _ _ ⟨i, e, b1, b2⟩ => ⟨i, e, by omega, by omega⟩
theorem es_min {l1 h1 l2 h2 : Int} (ha : EvS a ta σ H (PInt l1 h1)) (hb : EvS a tb σ H (PInt l2 h2)) : EvS a (tCB rMin2 (tCons ta (tCons tb tNil))) σ H (PInt (min l1 l2) (min h1 h2)) :=
  fun H1 u Q q => ha H1 u _ fun x H2 u2 ⟨i, ei, a1, a2⟩ => hb H2 (u.trans u2) _ fun y H3 u3 ⟨j, ej, b1, b2⟩ => ⟨i, j, by rw [ei, ej], q _ H3 (u2.trans u3) ⟨_, rfl, by split <;> omega, by split <;> omega⟩⟩
theorem ea_nilS : EvSA a tNil σ H 0 P := fun H1 u Q q => q [] H1 (.refl u.src) rfl fun _ h => absurd h List.not_mem_nil
theorem ea_consS {ta : TA} {n : Nat} (h : EvS a te σ H P) (hr : EvSA a ta σ H n P) (m : Mono a P) : EvSA a (tCons te ta) σ H (n + 1) P :=
  fun H1 u Q q => h H1 u _ fun v H2 u2 p => hr H2 (u.trans u2) _ fun vs H3 u3 hl hp => q (v :: vs) H3 (u2.trans u3) (by rw [List.length_cons, hl]) fun x hx => by
    rcases List.mem_cons.mp hx with e | e
    · rw [e]; exact m v H2 H3 u2.src u3 p
    · exact hp x e
/-- a new list -/
theorem es_lst {ta : TA} {n : Nat} (h : EvSA a ta σ H n P) (hn : n ≤ 1000) (m : Mono a P) : EvS a (tLst ta) σ H (PLst a n P) :=
  fun H1 u Q q => h H1 u _ fun vs H2 u2 hl hp => ⟨sz_of (by omega), fun p np => q _ _ (u2.trans (.ex (Ex.new np) u2.src))
    ⟨p, vs, rfl, u2.src.new np, upd_same, hl, fun x hx => m x _ _ u2.src (.ex (Ex.new np) u2.src) (hp x hx)⟩⟩
/-- a new tuple -/
def PTup (K : PySem.W.Frag) (n : Nat) (P : VP) : VP := fun v H => ∃ b xs, v = .ref b ∧ SqT K H b xs ∧ xs.length = n ∧ ∀ x ∈ xs, P x H
theorem mono_tup {n : Nat} {P : VP} (m : Mono a P) : Mono a (PTup K n P) := fun _ _ _ s u ⟨b, xs, e, hb, hl, hp⟩ => ⟨b, xs, e, u.sqT s hb, hl, fun x hx => m x _ _ s u (hp x hx)⟩
theorem es_tup {ta : TA} {n : Nat} (h : EvSA a ta σ H n P) (hn : n ≤ 1000) (m : Mono a P) : EvS a (tTup ta) σ H (PTup K n P) :=
  fun H1 u Q q => h H1 u _ fun vs H2 u2 hl hp => ⟨sz_of (by omega), fun p np => q _ _ (u2.trans (.ex (Ex.new np) u2.src))
    ⟨p, vs, rfl, st_of upd_same, hl, fun x hx => m x _ _ u2.src (.ex (Ex.new np) u2.src) (hp x hx)⟩⟩
theorem ss_asg {i : Nat} (s : Src H a) (h : EvS a te σ H P) (k : ∀ v H1, Up a H H1 → P v H1 → tz D (σ.set i (some v)) H1) : tSeq (tAsg te (gName i)) tz D σ H := h H (.refl s) _ fun v H2 u p => k v H2 u p
theorem ss_last {i : Nat} (s : Src H a) (h : EvS a te σ H P) (k : ∀ v H1, Up a H H1 → P v H1 → D.nx (σ.set i (some v)) H1) : tAsg te (gName i) D σ H := h H (.refl s) _ fun v H2 u p => k v H2 u p
theorem ss_ret (s : Src H a) (h : EvS a te σ H P) (k : ∀ v H1, Up a H H1 → P v H1 → D.rt v H1) : tRet te D σ H := h H (.refl s) _ fun v H2 u p => k v H2 u p
/-! ### the promises of the three defs that draw -/
def spTake : Sp := fun vs H Q _ => ∃ (a : Addr) (top : Int), vs = [.ref a, .int top] ∧ Src H a ∧ 0 < top ∧ top < 1073741824 ∧ ∀ r H', 0 ≤ r → r < top → Up a H H' → Q (.int r) H'
def spOne (K : PySem.W.Frag) : Sp := fun vs H Q _ => ∃ (a b : Addr) (xs : List V), vs = [.ref a, .ref b] ∧ b ≠ a ∧ Src H a ∧ SqL K H b xs ∧ xs ≠ [] ∧ xs.length ≤ 1000 ∧ ∀ x ∈ xs, ∀ H', Up a H H' → Q x H'
def spPool (K : PySem.W.Frag) : Sp := fun vs H Q _ => ∃ (b : Addr) (ns : List Int) (k : Int), vs = [.ref b, .int k] ∧ SqL K H b (ns.map V.int) ∧ ns.length ≤ 63 ∧ 0 ≤ k ∧ k ≤ 1000 ∧ ∀ l H', H l = none → Ex H H' → Src H' l → Q (.ref l) H'
theorem es_take {lo hi : Int} {E : XK} {s0 : Nat} (e0 : σ[s0]? = some (some (.ref a))) (h : EvS a te σ H (PInt lo hi)) (h0 : 0 < lo) (h1 : hi < 1073741824) : EvS a (tCall spTake [] E (tCons (tVar s0) (tCons te tNil))) σ H (PInt 0 (hi - 1)) :=
  fun H1 u Q q => ⟨_, e0, h H1 u _ fun v H2 u2 ⟨i, ei, a1, a2⟩ => ⟨a, i, by rw [ei]; rfl, u2.src, by omega, by omega, fun r H3 r0 r1 u3 => q _ _ (u2.trans u3) ⟨r, rfl, r0, by omega⟩⟩⟩
theorem es_one {E : XK} {s0 n : Nat} (e0 : σ[s0]? = some (some (.ref a))) (h : EvS a te σ H (PLst a n P)) (h0 : 0 < n) (h1 : n ≤ 1000) (m : Mono a P) : EvS a (tCall (spOne K) [] E (tCons (tVar s0) (tCons te tNil))) σ H P :=
  fun H1 u Q q => ⟨_, e0, h H1 u _ fun v H2 u2 ⟨b, xs, ev, nb, hb, hl, hp⟩ => ⟨a, b, xs, by rw [ev]; rfl, nb, u2.src, sq_of hb, fun z => by rw [z] at hl; simp at hl; omega, by omega, fun x hx H3 u3 => q _ _ (u2.trans u3) (m x H2 H3 u2.src u3 (hp x hx))⟩⟩
end
end Own


namespace Own
open PySem PySem.Spec PyProof.Rows L2
open Evl
/-- stable where all but lists is kept -/
def MonoK (P : VP) : Prop := ∀ v H H', Kp H H' → P v H → P v H'
theorem MonoK.up {P : VP} {a : Addr} (m : MonoK P) : Mono a P := fun v _ _ s u p => m v _ _ (u.kp s) p
theorem monoK_int {lo hi : Int} : MonoK (PInt lo hi) := fun _ _ _ _ h => h
theorem monoK_dat {K : PySem.W.Frag} {k : Nat} : MonoK (PDat K k) := fun _ _ _ e ⟨d, g⟩ => ⟨d, g.kp e⟩
theorem monoK_tup {K : PySem.W.Frag} {n : Nat} {P : VP} (m : MonoK P) : MonoK (PTup K n P) := fun _ _ _ e ⟨b, xs, ev, hb, hl, hp⟩ => ⟨b, xs, ev, e.sqT hb, hl, fun x hx => m x _ _ e (hp x hx)⟩
/-- a list of at most n things of which P is so -/
def PLs (a : Addr) (n : Nat) (P : VP) : VP := fun v H => ∃ b xs, v = .ref b ∧ b ≠ a ∧ H b = some (.lst xs) ∧ xs.length ≤ n ∧ ∀ x ∈ xs, P x H
/-- a tuple of at most n things -/
def PTs (K : PySem.W.Frag) (n : Nat) (P : VP) : VP := fun v H => ∃ b xs, v = .ref b ∧ SqT K H b xs ∧ xs.length ≤ n ∧ ∀ x ∈ xs, P x H
theorem monoK_tups {K : PySem.W.Frag} {n : Nat} {P : VP} (m : MonoK P) : MonoK (PTs K n P) := fun _ _ _ e ⟨b, xs, ev, hb, hl, hp⟩ => ⟨b, xs, ev, e.sqT hb, hl, fun x hx => m x _ _ e (hp x hx)⟩
/-- a tuple of data is data -/
theorem tups_dat {K : PySem.W.Frag} {H : Hp} {n k : Nat} {v : V} (hn : n ≤ 20) (h : PTs K n (PDat K k) v H) : PDat K (k + 1) v H := by
  obtain ⟨b, xs, rfl, hb, hl, hp⟩ := h
  obtain ⟨ds, g⟩ := gdAll_of hp
  exact ⟨_, gd_tup hb g (by omega)⟩
theorem tup_dat {K : PySem.W.Frag} {H : Hp} {n k : Nat} {v : V} (hn : n ≤ 20) (h : PTup K n (PDat K k) v H) : PDat K (k + 1) v H :=
  tups_dat hn (let ⟨b, xs, e, hb, hl, hp⟩ := h; ⟨b, xs, e, hb, Nat.le_of_eq hl, hp⟩)
theorem int_dat {K : PySem.W.Frag} {H : Hp} {lo hi : Int} {v : V} (h1 : -1000000000 ≤ lo) (h2 : hi ≤ 1000000000) (h : PInt lo hi v H) : PDat K 0 v H := by
  obtain ⟨i, rfl, a, b⟩ := h
  exact ⟨_, gd_int (by omega)⟩
theorem dat_up {K : PySem.W.Frag} {H : Hp} {k j : Nat} {v : V} (l : k ≤ j) (h : PDat K k v H) : PDat K j v H := let ⟨d, g⟩ := h; ⟨d, g.up l⟩
section
variable {K : PySem.W.Frag} {a : Addr} {σ : L2.St} {H H' : Hp} {te ta tb : TE} {P R S : VP} {D : Ends} {tz tu t : TS}
theorem q_split (M : L2.St → Hp → Prop) (k : ∀ σ' H', M σ' H' → tz D σ' H') (h : (∀ σ' H', M σ' H' → tz D σ' H') → t { D with nx := tz D } σ H) : tSeq t tz D σ H := h k
theorem ev_divI {i j : Int} (ha : Ev ta σ H (.int i)) (hb : Ev tb σ H (.int j)) (c : CDiv i j) : Ev (tOp rDivI ta tb) σ H (.int (i / j)) := ev_op ha hb (rv_I (C := CDiv) c)
theorem ev_powI {i j : Int} (ha : Ev ta σ H (.int i)) (hb : Ev tb σ H (.int j)) (c : CPow i j) : Ev (tOp rPowI ta tb) σ H (.int (i ^ j.toNat)) := ev_op ha hb (rv_I (C := CPow) c)
theorem ev_negI {i : Int} (ha : Ev ta σ H (.int i)) : Ev (tUn rNegI ta) σ H (.int (-i)) := ev_un ha ru_neg
theorem ev_geV {i j : Int} (ha : Ev ta σ H (.int i)) (hb : Ev tb σ H (.int j)) : Ev (tOp rGeI ta tb) σ H (.bl (decide (j ≤ i))) := ev_op ha hb rv_I0
theorem ev_ltV {i j : Int} (ha : Ev ta σ H (.int i)) (hb : Ev tb σ H (.int j)) : Ev (tOp rLtI ta tb) σ H (.bl (decide (i < j))) := ev_op ha hb rv_I0
/-- a list of ints against the empty one -/
theorem dp_ints {H : Hp} : ∀ ns : List Int, DpAll K H (ns.map V.int) (ns.map PyData.int)
  | [] => .nil
  | n :: ns => .cons (.int n) (dp_ints ns)
theorem lay_ints : ∀ ns : List Int, PyData.canLayAll0 (ns.map PyData.int) = true ∧ PyData.depthAll (ns.map PyData.int) ≤ 1
  | [] => ⟨rfl, by simp [PyData.depthAll]⟩
  | n :: ns => ⟨by simp [PyData.canLayAll0, PyData.canLay0, (lay_ints ns).1], by have := (lay_ints ns).2; simp only [List.map_cons, PyData.depthAll, PyData.depth]; omega⟩
theorem shaped_ints (ns : List Int) : SeqAt.shaped (.list (ns.map PyData.int)) = true := by
  unfold SeqAt.shaped
  rw [show PyData.canLay0 (.list (ns.map PyData.int)) = true by simpa only [PyData.canLay0] using (lay_ints ns).1, decide_eq_true (show (PyData.list (ns.map PyData.int)).depth ≤ 64 by have := (lay_ints ns).2; simp only [PyData.depth]; omega)]
  rfl
theorem et_neInts {p : Addr} {ns : List Int} (h : Ev ta σ H (.ref p)) (hs : SqL K H p (ns.map V.int)) : EvT (tTest (tOp (rNeD K) ta (tLst tNil))) σ H (!ns.isEmpty) :=
  et_test (ev_opL h (el_lst ea_nil (Nat.zero_le _)) fun q H1 hq e H2 e2 Q w => ⟨.list (ns.map .int), .list [], .lst (ex_l (e.trans e2) hs) (dp_ints ns), .lst (sq_of (e2 q _ hq)) .nil, shaped_ints ns, rfl, by
    have z : PyData.eqv (.list (ns.map .int)) (.list []) = ns.isEmpty := by cases ns <;> simp [PyData.eqv, PyData.eqvAll]
    rw [z]
    exact w H2 (.refl _)⟩)
/-- for j in range(..), the count drawn -/
theorem ss_forR {j : Nat} {lo hi : Int} (s : Src H a) (h : EvS a te σ H (PInt lo hi)) (hlo : -1000 ≤ lo) (hhi : hi ≤ 100000) (Pv : Int → Nat → L2.St → Hp → Prop) (h0 : ∀ c H1, lo ≤ c → c ≤ hi → Up a H H1 → Pv c 0 σ H1)
    (hs : ∀ c (i : Nat) σ' H', (i : Int) < c → Pv c i σ' H' → tu { D with nx := Pv c (i + 1), ct := Pv c (i + 1), bk := tz D } (σ'.set j (some (.int (i : Int)))) H') (hd : ∀ c σ' H', Pv c c.toNat σ' H' → tz D σ' H') :
    tSeq (tFor (iRng1 (tCons te tNil)) (gName j) tu) tz D σ H :=
  h H (.refl s) _ fun v H2 u ⟨c, ev, c1, c2⟩ => ⟨c, by rw [ev], by omega, by omega, for_range (lo := 0) (n := c.toNat) (Pv c) (h0 c H2 c1 c2 u)
    (fun i σ' H' hi p => by
      show tu _ (σ'.set j (some (.int ((0 : Int) + (i : Int))))) H'
      rw [Int.zero_add]
      exact hs c i σ' H' (by omega) p) (hd c)⟩
/-- [e for j in range(..)], e drawing -/
theorem es_lc {elt : TE} {j : Nat} {vs : List Nat} {lo hi : Int} {m : Nat} (h : EvS a te σ H (PInt lo hi)) (hlo : -1000 ≤ lo) (hhi : hi ≤ (m : Int)) (hm : m ≤ 1000) (hw : ∀ x, wipe ((wipe σ vs).set j (some x)) vs = wipe σ vs)
    (he : ∀ (i : Nat) H1, Up a H H1 → (i : Int) < hi → EvS a elt ((wipe σ vs).set j (some (.int (i : Int)))) H1 P) (mk : MonoK P) : EvS a (tLc (iRng1 (tCons te tNil)) (gName j) tYes elt vs) σ H (PLs a m P) :=
  fun H1 u Q q => h H1 u _ fun v H2 u2 ⟨c, ev, c1, c2⟩ => ⟨c, by rw [ev], by omega, by omega, fun Dl hD =>
    lc_range (lo := 0) (n := c.toNat) (fun i H' => Up a H2 H' ∧ ∃ acc, H' Dl = some (.lst acc) ∧ acc.length = i ∧ ∀ x ∈ acc, P x H') ⟨.ex (Ex.new hD) u2.src, [], upd_same, rfl, fun _ z => absurd z List.not_mem_nil⟩
      (fun i H' hi ⟨u3, acc, hacc, hl, hp⟩ => by
        show wipe ((wipe σ vs).set j (some (.int ((0 : Int) + (i : Int))))) vs = wipe σ vs ∧ elt ((wipe σ vs).set j (some (.int ((0 : Int) + (i : Int))))) H' fun y H4 => ∃ acc, H4 Dl = some (.lst acc) ∧ acc.length < sizeLine ∧ (Up a H2 (upd H4 Dl (.lst (acc ++ [y]))) ∧ ∃ ac2, (upd H4 Dl (.lst (acc ++ [y]))) Dl = some (.lst ac2) ∧ ac2.length = i + 1 ∧ ∀ x ∈ ac2, P x (upd H4 Dl (.lst (acc ++ [y]))))
        rw [Int.zero_add]
        have nD : Dl ≠ a := u2.src.new hD
        refine ⟨hw _, he i H' ((u.trans u2).trans u3) (by omega) H' (.refl u3.src) _ fun y H4 u4 py => ?_⟩
        have h4 := u4.keep Dl _ nD hacc
        have kp : Kp H' (upd H4 Dl (.lst (acc ++ [y]))) := (u4.kp u3.src).trans (.lst h4)
        refine ⟨acc, h4, sz_lt (by omega), ⟨fun b o nb hb => ?_, ?_⟩, _, upd_same, by rw [List.length_append, hl]; rfl, fun x hx => ?_⟩
        · rw [upd_ne (ne_of_none hb hD)]
          exact u4.keep b o nb (u3.keep b o nb hb)
        · obtain ⟨big, mixed, e, r⟩ := u4.src
          exact ⟨big, mixed, by rw [upd_ne nD.symm]; exact e, r⟩
        · rcases List.mem_append.mp hx with z | z
          · exact mk x _ _ kp (hp x z)
          · rw [List.mem_singleton.mp z]
            exact mk y _ _ (.lst h4) py)
      (fun H' ⟨u3, acc, hacc, hl, hp⟩ => q _ _ (u2.trans u3) ⟨Dl, acc, rfl, u2.src.new hD, hacc, by omega, hp⟩)⟩
/-- tuple(a list) -/
theorem es_tupOf {n : Nat} (h : EvS a te σ H (PLs a n P)) (mk : MonoK P) : EvS a (tCB (rTupOf K) (tCons te tNil)) σ H (PTs K n P) :=
  fun H1 u Q q => h H1 u _ fun v H2 u2 ⟨b, xs, ev, nb, hb, hl, hp⟩ => ⟨b, xs, by rw [ev], .inl ⟨sq_of hb, fun l hl2 => q _ _ (u2.trans (.ex (Ex.new hl2) u2.src)) ⟨l, xs, rfl, st_of upd_same, hl, fun x hx => mk x _ _ (.new hl2) (hp x hx)⟩⟩⟩
/-- xs.append(e) -/
theorem ss_app {i : Nat} {l : Addr} {xs : List V} (s : Src H a) (nl : l ≠ a) (hl : H l = some (.lst xs)) (hv : σ[i]? = some (some (.ref l))) (h : EvS a te σ H P) (hz : xs.length < 100000)
    (k : ∀ y H1, Up a H H1 → P y H1 → D.nx σ (upd H1 l (.lst (xs ++ [y])))) : tDrop (tBM K "list" rAppend (tVar i) (tCons te tNil)) D σ H :=
  ⟨_, hv, .inl ⟨rfl, _, sq_of hl⟩, h H (.refl s) _ fun y H2 u p => ⟨l, xs, y, rfl, rfl, u.keep l _ nl hl, sz_lt hz, k y H2 u p⟩⟩
end
end Own


namespace Own
open PySem PySem.Spec PyProof.Rows L2
open Evl
section
variable {K : PySem.W.Frag} {a : Addr} {σ : L2.St} {H H' : Hp} {te ta tb : TE} {P R S : VP} {D : Ends} {tz tu t : TS}
theorem monoS_tups {n : Nat} (m : MonoK P) : Mono a (PTs K n P) := (monoK_tups m).up
/-- t + u -/
theorem es_cat {n k : Nat} (ha : EvS a ta σ H (PTs K n P)) (hb : EvS a tb σ H (PTs K k P)) (mk : MonoK P) (hz : n + k ≤ 1000) : EvS a (tOp (rCatA K) ta tb) σ H (PTs K (n + k) P) :=
  es_op ha hb (monoS_tups mk) fun x y H1 u ⟨b, xs, ex, hx, lx, px⟩ ⟨c, ys, ey, hy, ly, py⟩ Q q => ⟨b, c, xs, ys, ex, ey, hx, hy, sz_of (by omega),
    fun _ => q _ H1 (.refl u.src) ⟨c, ys, rfl, hy, by omega, py⟩, fun _ _ => q _ H1 (.refl u.src) ⟨b, xs, rfl, hx, by omega, px⟩,
    fun _ _ p np => q _ _ (.ex (Ex.new np) u.src) ⟨p, xs ++ ys, rfl, st_of upd_same, by rw [List.length_append]; omega, fun z hz => by
      rcases List.mem_append.mp hz with w | w
      · exact mk z _ _ (.new np) (px z w)
      · exact mk z _ _ (.new np) (py z w)⟩⟩
theorem cut_mem {xs : List V} {lo hi : Option Int} {x : V} (h : x ∈ cutV xs lo hi) : x ∈ xs := List.mem_of_mem_drop (List.mem_of_mem_take h)
/-- a part of a slice: none, or an int -/
def EvP (a : Addr) (to : TO) (σ : L2.St) (H : Hp) : Prop := ∀ H1, Up a H H1 → ∀ Q : Option Int → Hp → Prop, (∀ o H2, Up a H1 H2 → Q o H2) → to σ H1 Q
theorem ep_none : EvP a tNoPart σ H := fun H1 u Q q => q none H1 (.refl u.src)
theorem ep_some {lo hi : Int} (h : EvS a te σ H (PInt lo hi)) : EvP a (tPart te) σ H := fun H1 u Q q => h H1 u _ fun v H2 u2 ⟨i, e, _⟩ => ⟨i, e, q _ H2 u2⟩
/-- t[lo:hi] -/
theorem es_slice {n : Nat} {tl th : TO} (h : EvS a te σ H (PTs K n P)) (hl : EvP a tl σ H) (hh : EvP a th σ H) (mk : MonoK P) : EvS a (tSl (rSlA K) te tl th) σ H (PTs K n P) :=
  fun H1 u Q q => h H1 u _ fun x H2 u2 px => hl H2 (u.trans u2) _ fun lo H3 u3 => hh H3 ((u.trans u2).trans u3) _ fun hi H4 u4 => by
    obtain ⟨b, xs, ex, hx, lx, ps⟩ := monoS_tups mk x H2 H4 u2.src (u3.trans u4) px
    exact ⟨b, xs, ex, hx, fun _ => q _ H4 ((u2.trans u3).trans u4) ⟨b, xs, rfl, hx, lx, ps⟩, fun _ p np => q _ _ (((u2.trans u3).trans u4).trans (.ex (Ex.new np) u4.src))
      ⟨p, _, rfl, st_of upd_same, by have := cutV_length xs lo hi; omega, fun z hz => mk z _ _ (.new np) (ps z (cut_mem hz))⟩⟩
/-- (x,) * k -/
theorem es_rep {hi : Nat} {lo : Int} (ha : EvS a ta σ H (PTup K 1 P)) (hb : EvS a tb σ H (PInt lo (hi : Int))) (h1 : 1 ≤ lo) (h2 : hi ≤ 100) (mk : MonoK P) : EvS a (tOp (rTimes K) ta tb) σ H (PTs K hi P) :=
  es_op ha hb (monoK_tup mk).up fun x y H1 u ⟨b, xs, ex, hx, lx, px⟩ ⟨j, ej, j1, j2⟩ Q q => by
    by_cases c : j = 1
    · exact .inr ⟨b, xs, ex, by rw [ej, c], hx, q _ H1 (.refl u.src) ⟨b, xs, rfl, hx, by omega, px⟩⟩
    · refine .inl ⟨b, j, xs, ex, ej, hx, (fun z => by rw [z] at lx; simp at lx), by omega, by omega, by omega, fun p np => q _ _ (.ex (Ex.new np) u.src) ⟨p, _, rfl, st_of upd_same, ?_, fun z hz => ?_⟩⟩
      · rw [PyProof.Rows.lm_len_rep_flat, lx]
        omega
      · obtain ⟨l, hl, hz⟩ := List.mem_flatten.mp hz
        rw [List.eq_of_mem_replicate hl] at hz
        exact mk z _ _ (.new np) (px z hz)
theorem tup_tups {n m : Nat} (h : n ≤ m) {v : V} {H1 : Hp} (p : PTup K n P v H1) : PTs K m P v H1 := let ⟨b, xs, e, hb, hl, hp⟩ := p; ⟨b, xs, e, hb, by omega, hp⟩
theorem tups_imp {n m : Nat} (h : n ≤ m) (i : ∀ v H1, P v H1 → R v H1) {v : V} {H1 : Hp} (p : PTs K n P v H1) : PTs K m R v H1 := let ⟨b, xs, e, hb, hl, hp⟩ := p; ⟨b, xs, e, hb, by omega, fun x hx => i x H1 (hp x hx)⟩
/-- (x, ..) of at most m -/
theorem es_tups {ta : TA} {n m : Nat} (h : EvSA a ta σ H n P) (hn : n ≤ m) (hm : m ≤ 1000) (mk : MonoK P) : EvS a (tTup ta) σ H (PTs K m P) := es_imp (es_tup h (by omega) mk.up) fun _ _ p => tup_tups hn p
/-- xs + ys -/
theorem es_catL {n k : Nat} (ha : EvS a ta σ H (PLst a n P)) (hb : EvS a tb σ H (PLst a k P)) (mk : MonoK P) (hz : n + k ≤ 1000) : EvS a (tOp rCat ta tb) σ H (PLst a (n + k) P) :=
  es_op ha hb (mono_lst mk.up) fun x y H1 u ⟨b, xs, ex, nb, hx, lx, px⟩ ⟨c, ys, ey, nc, hy, ly, py⟩ Q q => ⟨b, c, xs, ys, ex, ey, hx, hy, sz_of (by omega), fun p np => q _ _ (.ex (Ex.new np) u.src)
    ⟨p, xs ++ ys, rfl, u.src.new np, upd_same, by rw [List.length_append]; omega, fun z hz => by
      rcases List.mem_append.mp hz with w | w
      · exact mk z _ _ (.new np) (px z w)
      · exact mk z _ _ (.new np) (py z w)⟩⟩
/-- list(t) == [] -/
theorem es_listNil {n k : Nat} (h : EvS a te σ H (PTs K n (PDat K k))) (hk : k ≤ 60) : EvS a (tOp (rEqD K) (tCB (rListOf K) (tCons te tNil)) (tLst tNil)) σ H (PDat K 0) :=
  fun H1 u Q q => h H1 u _ fun v H2 u2 ⟨b, xs, ev, hb, hl, hp⟩ => ⟨b, xs, by rw [ev], .inr hb, fun l nl => ⟨Nat.zero_le _, fun p np => by
    obtain ⟨ds, g⟩ := gdAll_of hp
    have e2 : Ex H2 (upd (upd H2 l (.lst xs)) p (.lst [])) := (Ex.new nl).trans (Ex.new np)
    refine eqD_nil hk (sq_of (by rw [upd_ne (ne_of_none upd_same np)]; exact upd_same)) (g.kp (.ex e2)) (sq_of upd_same) ?_
    exact q _ _ (u2.trans (.ex e2 u2.src)) ⟨_, gd_bl⟩⟩⟩
theorem es_dint {i : Int} {k : Nat} (h : i.natAbs < 2 ^ 64) : EvS a (tC (.int i)) σ H (PDat K k) := es_c fun _ => ⟨_, (gd_int h).up (Nat.zero_le k)⟩
theorem es_dnon {k : Nat} : EvS a (tC .non) σ H (PDat K k) := es_c fun _ => ⟨_, gd_non.up (Nat.zero_le k)⟩
theorem es_dbl {b : Bool} {k : Nat} : EvS a (tC (.bl b)) σ H (PDat K k) := es_c fun _ => ⟨_, gd_bl.up (Nat.zero_le k)⟩
theorem es_dstr {x : Str} {k : Nat} (h : fine 0 (.str x) = true) : EvS a (tC (.str x)) σ H (PDat K k) := es_c fun _ => ⟨_, (gd_str h).up (Nat.zero_le k)⟩
theorem es_dof {lo hi : Int} {k : Nat} (h : EvS a te σ H (PInt lo hi)) (h1 : -1000000000 ≤ lo) (h2 : hi ≤ 1000000000) : EvS a te σ H (PDat K k) := es_imp h fun _ _ p => dat_up (Nat.zero_le k) (int_dat h1 h2 p)
theorem es_dtup {n k : Nat} (h : EvS a te σ H (PTs K n (PDat K k))) (hn : n ≤ 20) : EvS a te σ H (PDat K (k + 1)) := es_imp h fun _ _ p => tups_dat hn p
theorem es_dup {k j : Nat} (h : EvS a te σ H (PDat K k)) (l : k ≤ j) : EvS a te σ H (PDat K j) := es_imp h fun _ _ p => dat_up l p
theorem s_tup3 {i j l : Nat} {x y z : V} (h : EvU te σ H [x, y, z]) (k : ∀ H1, Ex H H1 → D.nx (((σ.set i (some x)).set j (some y)).set l (some z)) H1) : tAsg te (gTup K 3 (gCons (gName i) (gCons (gName j) (gCons (gName l) gNil)))) D σ H :=
  h H (.refl H) _ fun p H1 np e hp => ⟨p, _, rfl, st_of hp, rfl, x, _, rfl, y, _, rfl, z, _, rfl, rfl, k H1 e⟩
theorem s_par3 {i j l : Nat} {x y z : V} {ta : TA} (h : EvA ta σ H [x, y, z]) (k : ∀ H1, Ex H H1 → D.nx (((σ.set i (some x)).set j (some y)).set l (some z)) H1) : tPar3 i j l ta D σ H :=
  h H (.refl H) _ fun H1 e => ⟨x, y, z, rfl, k H1 e⟩
theorem ss_tup2 {i j : Nat} (s : Src H a) (h : EvS a te σ H (PTup K 2 P)) (k : ∀ x y H1, Up a H H1 → P x H1 → P y H1 → D.nx ((σ.set i (some x)).set j (some y)) H1) : tAsg te (gTup K 2 (gCons (gName i) (gCons (gName j) gNil))) D σ H :=
  h H (.refl s) _ fun v H1 u ⟨b, xs, ev, hb, hl, hp⟩ => by
    match xs, hl with
    | [x, y], _ => exact ⟨b, _, ev, hb, rfl, x, _, rfl, y, _, rfl, rfl, k x y H1 u (hp x (by simp)) (hp y (by simp))⟩
theorem ss_par {i j : Nat} {ta : TA} (s : Src H a) (h : EvSA a ta σ H 2 P) (k : ∀ x y H1, Up a H H1 → P x H1 → P y H1 → D.nx ((σ.set i (some x)).set j (some y)) H1) : tPar i j ta D σ H :=
  h H (.refl s) _ fun vs H1 u hl hp => by
    match vs, hl with
    | [x, y], _ => exact ⟨x, y, rfl, k x y H1 u (hp x (by simp)) (hp y (by simp))⟩
end
end Own


namespace Own
open PySem PySem.Spec PyProof.Rows L2
open Evl
section
variable {K : PySem.W.Frag} {a : Addr} {σ : L2.St} {H H' : Hp} {te ta tb : TE} {P R S : VP} {D : Ends} {tz tu t : TS}
/-- the tuple of just these -/
def PSq (K : PySem.W.Frag) (xs : List V) : VP := fun v H => ∃ b, v = .ref b ∧ SqT K H b xs
theorem monoK_sq {xs : List V} : MonoK (PSq K xs) := fun _ _ _ e ⟨b, ev, hb⟩ => ⟨b, ev, e.sqT hb⟩
theorem cut_whole {xs : List V} {lo hi : Option Int} (h1 : HT.sIx xs.length 0 lo = 0) (h2 : HT.sIx xs.length xs.length hi = xs.length) : cutV xs lo hi = xs := by
  unfold cutV
  rw [h1, h2]
  simp
theorem es_cutX {xs : List V} {tl th : TO} {lo hi : Option Int} (h : EvS a te σ H (PSq K xs)) (hl : ∀ H1, Up a H H1 → ∀ Q : Option Int → Hp → Prop, (∀ H2, Up a H1 H2 → Q lo H2) → tl σ H1 Q) (hh : ∀ H1, Up a H H1 → ∀ Q : Option Int → Hp → Prop, (∀ H2, Up a H1 H2 → Q hi H2) → th σ H1 Q) :
    EvS a (tSl (rSlA K) te tl th) σ H (PSq K (cutV xs lo hi)) :=
  fun H1 u Q q => h H1 u _ fun x H2 u2 px => hl H2 (u.trans u2) _ fun H3 u3 => hh H3 ((u.trans u2).trans u3) _ fun H4 u4 => by
    obtain ⟨b, ex, hx⟩ := monoK_sq.up x H2 H4 u2.src (u3.trans u4) px
    exact ⟨b, xs, ex, hx, fun ⟨h1, h2⟩ => q _ H4 ((u2.trans u3).trans u4) ⟨b, rfl, by rw [cut_whole h1 h2]; exact hx⟩, fun _ p np => q _ _ (((u2.trans u3).trans u4).trans (.ex (Ex.new np) u4.src)) ⟨p, rfl, st_of upd_same⟩⟩
theorem cp_none : ∀ H1, Up a H H1 → ∀ Q : Option Int → Hp → Prop, (∀ H2, Up a H1 H2 → Q none H2) → tNoPart σ H1 Q := fun H1 u Q q => q H1 (.refl u.src)
theorem cp_some {i : Int} (h : EvS a te σ H (PInt i i)) : ∀ H1, Up a H H1 → ∀ Q : Option Int → Hp → Prop, (∀ H2, Up a H1 H2 → Q (some i) H2) → tPart te σ H1 Q :=
  fun H1 u Q q => h H1 u _ fun v H2 u2 ⟨j, e, h1, h2⟩ => ⟨j, e, by rw [show j = i by omega]; exact q H2 u2⟩
theorem es_catX {xs ys : List V} (ha : EvS a ta σ H (PSq K xs)) (hb : EvS a tb σ H (PSq K ys)) (hz : xs.length + ys.length ≤ 1000) : EvS a (tOp (rCatA K) ta tb) σ H (PSq K (xs ++ ys)) :=
  es_op ha hb monoK_sq.up fun x y H1 u ⟨b, ex, hx⟩ ⟨c, ey, hy⟩ Q q => ⟨b, c, xs, ys, ex, ey, hx, hy, sz_of (by omega),
    fun z => q _ H1 (.refl u.src) ⟨c, rfl, by rw [z]; exact hy⟩, fun _ z => q _ H1 (.refl u.src) ⟨b, rfl, by rw [z, List.append_nil]; exact hx⟩, fun _ _ p np => q _ _ (.ex (Ex.new np) u.src) ⟨p, rfl, st_of upd_same⟩⟩
theorem es_oneX {i : Nat} {v : V} (e : σ[i]? = some (some v)) : EvS a (tTup (tCons (tVar i) tNil)) σ H (PSq K [v]) :=
  fun H1 u Q q => ⟨v, e, ⟨by show 1 ≤ sizeLine; decide, fun p np => q _ _ (.ex (Ex.new np) u.src) ⟨p, rfl, st_of upd_same⟩⟩⟩
theorem cut_lo {xs : List V} {w : Nat} (h : w ≤ xs.length) : cutV xs none (some (w : Int)) = xs.take w := by
  unfold cutV
  rw [HT.sIx_none, HT.sIx_nat, Nat.min_eq_left h]
  simp
theorem cut_hi {xs : List V} {w : Nat} (h : w ≤ xs.length) : cutV xs (some (w : Int)) none = xs.drop w := by
  unfold cutV
  rw [HT.sIx_none, HT.sIx_nat, Nat.min_eq_left h]
  exact List.take_of_length_le (by rw [List.length_drop]; omega)
/-! ### lists of data, kept in a list -/
structure Men (K : PySem.W.Frag) (a l : Addr) (n : Nat) (H : Hp) : Prop where
  ne : l ≠ a
  all : ∃ items, H l = some (.lst items) ∧ items.length = n ∧ ∀ x ∈ items, ∃ b ys, x = .ref b ∧ b ≠ a ∧ b ≠ l ∧ H b = some (.lst ys) ∧ 0 < ys.length ∧ ys.length ≤ 20 ∧ ∀ y ∈ ys, PDat K 1 y H
theorem Men.up {l : Addr} {n : Nat} (s : Src H a) (u : Up a H H') (m : Men K a l n H) : Men K a l n H' :=
  let ⟨ne, items, h, hl, hp⟩ := m
  ⟨ne, items, u.keep l _ ne h, hl, fun x hx => let ⟨b, ys, e, n1, n2, hb, l0, l1, py⟩ := hp x hx; ⟨b, ys, e, n1, n2, u.keep b _ n1 hb, l0, l1, fun y hy => monoK_dat y _ _ (u.kp s) (py y hy)⟩⟩
theorem men_add {H0 : Hp} {l : Addr} {n m i : Nat} {ta : TA} (s : Src H0 a) (u0 : Up a H0 H) (nl : H0 l = none) (M : Men K a l n H) (hv : σ[i]? = some (some (.ref l))) (h : EvSA a ta σ H m (PDat K 1)) (h1 : 0 < m) (hm : m ≤ 20) (hn : n < 100)
    (k : ∀ H1, Up a H0 H1 → Men K a l (n + 1) H1 → tz D σ H1) : tSeq (tDrop (tBM K "list" rAppend (tVar i) (tCons (tLst ta) tNil))) tz D σ H := by
  obtain ⟨ne, items, hi, hl, hp⟩ := M
  refine ⟨_, hv, .inl ⟨rfl, _, sq_of hi⟩, h H (.refl u0.src) _ fun vs H2 u2 hvs pv => ⟨sz_of (by omega), fun p np => ?_⟩⟩
  have hi2 := u2.keep l _ ne hi
  have pl : p ≠ l := fun z => by subst z; rw [hi2] at np; cases np
  have pa : p ≠ a := u2.src.new np
  have k1 : Kp H2 (upd H2 p (.lst vs)) := .new np
  have hi3 : (upd H2 p (.lst vs)) l = some (.lst items) := by rw [upd_ne pl.symm]; exact hi2
  have k2 : Kp (upd H2 p (.lst vs)) (upd (upd H2 p (.lst vs)) l (.lst (items ++ [.ref p]))) := .lst hi3
  refine ⟨l, items, .ref p, rfl, rfl, hi3, sz_lt (by omega), k _ ⟨fun b o nb hb => ?_, ?_⟩ ⟨ne, items ++ [.ref p], upd_same, by rw [List.length_append, hl]; rfl, fun x hx => ?_⟩⟩
  · have bl : b ≠ l := ne_of_none hb nl
    have h2 := u2.keep b o nb (u0.keep b o nb hb)
    rw [upd_ne bl, upd_ne (ne_of_none h2 np)]
    exact h2
  · obtain ⟨big, mixed, e, r⟩ := u2.src
    exact ⟨big, mixed, by rw [upd_ne ne.symm, upd_ne pa.symm]; exact e, r⟩
  · rcases List.mem_append.mp hx with z | z
    · obtain ⟨b, ys, e, n1, n2, hb, l0, l1, py⟩ := hp x z
      have hb2 := u2.keep b _ n1 hb
      exact ⟨b, ys, e, n1, n2, by rw [upd_ne n2, upd_ne (ne_of_none hb2 np)]; exact hb2, l0, l1, fun y hy => monoK_dat y _ _ (((u2.kp u0.src).trans k1).trans k2) (py y hy)⟩
    · rw [List.mem_singleton.mp z]
      exact ⟨p, vs, rfl, pa, pl, by rw [upd_ne pl]; exact upd_same, by omega, by omega, fun y hy => monoK_dat y _ _ (k1.trans k2) (pv y hy)⟩
/-- [[..]] -/
theorem ss_first {i n : Nat} {ta : TA} (s : Src H a) (h : EvSA a ta σ H n P) (hn : n ≤ 1000) (k : ∀ vs H1, Up a H H1 → vs.length = n → (∀ v ∈ vs, P v H1) → ∀ p, H1 p = none → ∀ l, (upd H1 p (.lst vs)) l = none → tz D (σ.set i (some (.ref l))) (upd (upd H1 p (.lst vs)) l (.lst [.ref p]))) :
    tSeq (tAsg (tLst (tCons (tLst ta) tNil)) (gName i)) tz D σ H :=
  h H (.refl s) _ fun vs H1 u1 hl pv => ⟨sz_of (by omega), fun p np => ⟨by show 1 ≤ sizeLine; decide, fun l nl => k vs H1 u1 hl pv p np l nl⟩⟩
/-- one of the j-th list -/
theorem es_men {l : Addr} {n s0 s1 s2 : Nat} {w : Int} {E : XK} (e0 : σ[s0]? = some (some (.ref a))) (e1 : σ[s1]? = some (some (.ref l))) (e2 : σ[s2]? = some (some (.int w))) (M : ∀ H1, Up a H H1 → Men K a l n H1) (h0 : 0 ≤ w) (h1 : w < (n : Int)) :
    EvS a (tCall (spOne K) [] E (tCons (tVar s0) (tCons (tOp (rIxL K) (tVar s1) (tVar s2)) tNil))) σ H (PDat K 1) := fun H1 u Q q => by
  obtain ⟨ne, items, hi, hl, hp⟩ := M H1 u
  have hw : w.toNat < items.length := by omega
  obtain ⟨b, ys, e, n1, n2, hb, l0, l1, py⟩ := hp items[w.toNat] (List.getElem_mem hw)
  refine ⟨_, e0, _, e1, _, e2, l, items, w, .ref b, rfl, rfl, sq_of hi, ?_, a, b, ys, rfl, n1, u.src, sq_of hb, (fun z => by rw [z] at l0; cases l0), by omega, fun x hx H3 u3 => q _ _ u3 (monoK_dat x _ _ (u3.kp u.src) (py x hx))⟩
  exact at_of (j := w.toNat) (by omega) (by rw [List.getElem?_eq_getElem hw, e])
end
end Own


namespace Own
open PySem PySem.Spec PyProof.Rows L2
open Evl
/-! ### the same without a source -/
def EvX (te : TE) (σ : L2.St) (H : Hp) (P : VP) : Prop := ∀ H1, Ex H H1 → ∀ Q : VK, (∀ v H2, Ex H1 H2 → P v H2 → Q v H2) → te σ H1 Q
def EvXA (ta : TA) (σ : L2.St) (H : Hp) (n : Nat) (P : VP) : Prop := ∀ H1, Ex H H1 → ∀ Q : List V → Hp → Prop, (∀ vs H2, Ex H1 H2 → vs.length = n → (∀ v ∈ vs, P v H2) → Q vs H2) → ta σ H1 Q
def PLx (n : Nat) (P : VP) : VP := fun v H => ∃ b xs, v = .ref b ∧ H b = some (.lst xs) ∧ xs.length = n ∧ ∀ x ∈ xs, P x H
section
variable {K : PySem.W.Frag} {σ : L2.St} {H H' : Hp} {te ta tb : TE} {P R S : VP} {D : Ends} {tz tu t : TS}
theorem ex_c {v : V} (h : ∀ H1, P v H1) : EvX (tC v) σ H P := fun H1 u Q q => q v H1 (.refl H1) (h H1)
theorem ex_dint {i : Int} {k : Nat} (h : i.natAbs < 2 ^ 64) : EvX (tC (.int i)) σ H (PDat K k) := ex_c fun _ => ⟨_, (gd_int h).up (Nat.zero_le k)⟩
theorem ex_dnon {k : Nat} : EvX (tC .non) σ H (PDat K k) := ex_c fun _ => ⟨_, gd_non.up (Nat.zero_le k)⟩
theorem ex_imp (h : EvX te σ H P) (i : ∀ v H1, P v H1 → R v H1) : EvX te σ H R := fun H1 u Q q => h H1 u Q fun v H2 u2 p => q v H2 u2 (i v H2 p)
theorem xa_nil : EvXA tNil σ H 0 P := fun H1 u Q q => q [] H1 (.refl H1) rfl fun _ h => absurd h List.not_mem_nil
theorem xa_cons {ta : TA} {n : Nat} (h : EvX te σ H P) (hr : EvXA ta σ H n P) (m : MonoK P) : EvXA (tCons te ta) σ H (n + 1) P :=
  fun H1 u Q q => h H1 u _ fun v H2 u2 p => hr H2 (u.trans u2) _ fun vs H3 u3 hl hp => q (v :: vs) H3 (u2.trans u3) (by rw [List.length_cons, hl]) fun x hx => by
    rcases List.mem_cons.mp hx with e | e
    · rw [e]; exact m v H2 H3 (.ex u3) p
    · exact hp x e
theorem ex_tup {ta : TA} {n : Nat} (h : EvXA ta σ H n P) (hn : n ≤ 1000) (m : MonoK P) : EvX (tTup ta) σ H (PTup K n P) :=
  fun H1 u Q q => h H1 u _ fun vs H2 u2 hl hp => ⟨sz_of (by omega), fun p np => q _ _ (u2.trans (Ex.new np)) ⟨p, vs, rfl, st_of upd_same, hl, fun x hx => m x _ _ (.new np) (hp x hx)⟩⟩
theorem ex_dtup {ta : TA} {n k : Nat} (h : EvXA ta σ H n (PDat K k)) (hn : n ≤ 20) : EvX (tTup ta) σ H (PDat K (k + 1)) := ex_imp (ex_tup h (by omega) monoK_dat) fun _ _ p => tup_dat hn p
theorem ex_up {k j : Nat} (h : EvX te σ H (PDat K k)) (l : k ≤ j) : EvX te σ H (PDat K j) := ex_imp h fun _ _ p => dat_up l p
theorem ex_lst {ta : TA} {n : Nat} (h : EvXA ta σ H n P) (hn : n ≤ 1000) (m : MonoK P) : EvX (tLst ta) σ H (PLx n P) :=
  fun H1 u Q q => h H1 u _ fun vs H2 u2 hl hp => ⟨sz_of (by omega), fun p np => q _ _ (u2.trans (Ex.new np)) ⟨p, vs, rfl, upd_same, hl, fun x hx => m x _ _ (.new np) (hp x hx)⟩⟩
/-- (e,) * c, c written -/
theorem ex_rep {c : Int} (h : EvX te σ H P) (h1 : 2 ≤ c) (h2 : c ≤ 20) (mk : MonoK P) : EvX (tOp (rTimes K) (tTup (tCons te tNil)) (tC (.int c))) σ H (PTs K 20 P) :=
  fun H1 u Q q => h H1 u _ fun v H2 u2 pv => ⟨by show 1 ≤ sizeLine; decide, fun p np => .inl ⟨p, c, [v], rfl, rfl, st_of upd_same, by simp, h1, by omega, by show 1 ≤ 1000; decide, fun r nr =>
    q _ _ (u2.trans ((Ex.new np).trans (Ex.new nr))) ⟨r, _, rfl, st_of upd_same, by rw [PyProof.Rows.lm_len_rep_flat]; show c.toNat * 1 ≤ 20; omega, fun z hz => by
      obtain ⟨l, hl, hz⟩ := List.mem_flatten.mp hz
      rw [List.eq_of_mem_replicate hl] at hz
      rw [List.mem_singleton.mp hz]
      exact mk v _ _ ((Kp.new np).trans (.new nr)) pv⟩⟩⟩
theorem ex_catL {n k : Nat} (ha : EvX ta σ H (PLx n P)) (hb : EvX tb σ H (PLx k P)) (mk : MonoK P) (hz : n + k ≤ 1000) : EvX (tOp rCat ta tb) σ H (PLx (n + k) P) :=
  fun H1 u Q q => ha H1 u _ fun x H2 u2 ⟨b, xs, ex, hx, lx, px⟩ => hb H2 (u.trans u2) _ fun y H3 u3 ⟨c, ys, ey, hy, ly, py⟩ => ⟨b, c, xs, ys, ex, ey, u3 b _ hx, hy, sz_of (by omega), fun p np => q _ _ (u2.trans (u3.trans (Ex.new np)))
    ⟨p, xs ++ ys, rfl, upd_same, by rw [List.length_append]; omega, fun z hz => by
      rcases List.mem_append.mp hz with w | w
      · exact mk z _ _ ((Kp.ex u3).trans (.new np)) (px z w)
      · exact mk z _ _ (.new np) (py z w)⟩⟩
theorem ex_vl {i n : Nat} {v : V} (e : σ[i]? = some (some v)) (h : PLx n P v H) (mk : MonoK P) : EvX (tVar i) σ H (PLx n P) := fun H1 u Q q => ⟨v, e, q v H1 (.refl H1) (let ⟨b, xs, ev, hb, hl, hp⟩ := h; ⟨b, xs, ev, u b _ hb, hl, fun x hx => mk x _ _ (.ex u) (hp x hx)⟩)⟩
theorem sx_asg {i : Nat} (h : EvX te σ H P) (k : ∀ v H1, Ex H H1 → P v H1 → tz D (σ.set i (some v)) H1) : tSeq (tAsg te (gName i)) tz D σ H := h H (.refl H) _ fun v H2 u p => k v H2 u p
/-- xs.append(e) -/
theorem sx_app {i : Nat} {l : Addr} {xs : List V} (hl : H l = some (.lst xs)) (hv : σ[i]? = some (some (.ref l))) (h : EvX te σ H P) (hz : xs.length < 100000)
    (k : ∀ y H1, Ex H H1 → P y H1 → tz D σ (upd H1 l (.lst (xs ++ [y])))) : tSeq (tDrop (tBM K "list" rAppend (tVar i) (tCons te tNil))) tz D σ H :=
  ⟨_, hv, .inl ⟨rfl, _, sq_of hl⟩, h H (.refl H) _ fun y H2 u p => ⟨l, xs, y, rfl, rfl, u l _ hl, sz_lt hz, k y H2 u p⟩⟩
end
end Own


namespace Own
open PySem PySem.Spec PyProof.Rows L2
/-! ### enumerate and zip of lists (false) and tuples (true), in any mix -/
def SqB (t : Bool) (K : PySem.W.Frag) (H : Hp) (a : Addr) (xs : List V) : Prop := bif t then SqT K H a xs else SqL K H a xs
def ItB (t : Bool) (h : Heap) (i a : Addr) (k : Nat) : Prop := bif t then h.IsTupleIter i a k else h.IsListIter i a k
def HpB (t : Bool) (h : Heap) (a : Addr) (items : Array Value) : Prop := bif t then h.IsTuple a items else h.IsList a items
theorem ItB.at {t : Bool} {h h' : Heap} {i a : Addr} {k : Nat} (x : ItB t h i a k) (hk : ∀ o, h.get? i = some o → h'.get? i = some o) : ItB t h' i a k := by
  cases t
  · exact Heap.IsListIter.at x hk
  · exact Heap.IsTupleIter.at x hk
theorem ItB.obj {t : Bool} {h : Heap} {i a : Addr} {k : Nat} (x : ItB t h i a k) : ∃ o, h.get? i = some o ∧ ∀ v, o.data ≠ .cell v := by
  cases t
  · obtain ⟨o, e, _, d⟩ : h.IsListIter i a k := x
    exact ⟨o, e, fun v q => by rw [d] at q; cases q⟩
  · obtain ⟨o, e, _, d⟩ : h.IsTupleIter i a k := x
    exact ⟨o, e, fun v q => by rw [d] at q; cases q⟩
theorem invB {X : Cx} {pins : List (Addr × Obj)} {σ : L2.St} {H : Hp} {s : Shared} {t : Bool} {a : Addr} {xs : List V} (I : Inv X pins σ H s) (h : SqB t X.K H a xs) : ∃ its : List Value, Vals xs its ∧ HpB t s.heap a its.toArray ∧ a < s.heap.objs.size := by
  cases t
  · obtain ⟨its, rv, p, _⟩ := I.list h
    exact ⟨its, rv, p.isList, p.lt⟩
  · obtain ⟨its, rv, p, _⟩ := I.tuple h
    obtain ⟨o, ho, _⟩ := id p
    exact ⟨its, rv, p, Heap.lt_size ho⟩
theorem injB {X : Cx} {pins : List (Addr × Obj)} {σ : L2.St} {H : Hp} {s : Shared} {t : Bool} {a : Addr} {xs ys : List V} (I : Inv X pins σ H s) (h : SqB t X.K H a xs) (h' : SqB t X.K H a ys) : xs = ys := by
  cases t
  · exact I.list_inj h h'
  · exact I.tuple_inj h h'
theorem drawsB {prog : Program} {w : World} {A : Around} (t : Bool) (hh : A.handled = none) (it l : Addr) (hne : l ≠ it) (items : Array Value) : Draws prog w A it [it, l] items.size (fun i v => items[i]? = some v) (fun i h => ItB t h it l i ∧ HpB t h l items) := by
  cases t
  · exact Draws.list hh it l hne items
  · exact Draws.tuple hh it l hne items
def objB (t : Bool) (a : Addr) : Obj := bif t then { cls := .type "tuple_iterator", data := .fields #[.ref a, .int 0 0] } else { cls := .type "list_iterator", data := .fields #[.ref a, .int 0 0] }
theorem beginsB (t : Bool) (a : Addr) (items : Array Value) : Begins (.ref a) (objB t a) fun h => HpB t h a items := by
  cases t
  · exact begins_list a items
  · exact begins_tuple a items
theorem itB_new {t : Bool} {h : Heap} {i a : Addr} (e : h.get? i = some (objB t a)) : ItB t h i a 0 := by
  cases t
  · exact ⟨_, e, rfl, rfl⟩
  · exact ⟨_, e, rfl, rfl⟩
/-! enumerate -/
def IteB (t : Bool) (K : PySem.W.Frag) (a : Addr) : It :=
  ⟨fun i H => ∃ (xs : List V) (x : V), SqB t K H a xs ∧ xs[i]? = some x, fun i H v H' => ∃ T x, v = .ref T ∧ H T = none ∧ H' = upd H T (.tup [.int (i : Nat), x]) ∧ ∀ xs, SqB t K H a xs → xs[i]? = some x, fun i H => ∃ xs : List V, SqB t K H a xs ∧ i = xs.length⟩
theorem turn_enumB {P : Program} {w : World} {K : PySem.W.Frag} {elts : List Expr} {kk : Nat} {tpos : Pos} (t : Bool) (a e it : Addr) :
    Turn P w K (.Tuple elts kk tpos) (IteB t K a) [e, it] e (fun i h => (∃ old, IsEnum h e it ((0 : Int) + (i : Int)) old) ∧ ItB t h it a i ∧ e ≠ it ∧ a ≠ it ∧ e ≠ a) where
  mem := by simp
  obj := fun i h st b hb => by
    obtain ⟨⟨old, he⟩, hi, _⟩ := st
    have e' : b = e ∨ b = it := by simpa using hb
    rcases e' with z | z
    · rw [z]; exact ⟨_, he, fun v q => nomatch q⟩
    · rw [z]; exact hi.obj
  keep := fun i h h' st k => let ⟨⟨old, he⟩, hi, hne⟩ := st; ⟨⟨old, k e (by simp) _ he⟩, hi.at fun o q => k it (by simp) o q, hne⟩
  item := by
    intro X hP hw hK hc i pins s σ H E I hf st hg
    subst hP hw hK
    obtain ⟨hen, hit, n1, n2, n3⟩ := st
    obtain ⟨xs, x, hq, hx⟩ := hg
    obtain ⟨its, rv, p, hz⟩ := invB I hq
    obtain ⟨u, hu, ru⟩ := rv.get hx
    have hel : e < s.heap.objs.size := by obtain ⟨_, he⟩ := hen; exact Heap.lt_size he
    have hil : it < s.heap.objs.size := by obtain ⟨o, q, _⟩ := hit.obj; exact Heap.lt_size q
    have G := GoesN.enumFrom (prog := X.prog) (w := X.w) (A := X.A) (elts := elts) (x1 := kk) (pos := tpos) 0 (drawsB (prog := X.prog) (w := X.w) (A := X.A.in1) t (I.ok.hd hc) it a n2 its.toArray) e n1 (by simp [n1, n3]) (by simp)
    have hlen : i < its.toArray.size := by
      have := (List.getElem?_eq_some_iff.mp hu).1
      simpa using this
    refine G.goes i s (fun v s2 => ∃ x H', Inv X pins σ H' s2 ∧ RelV x v ∧ (IteB t X.K a).yld i H x H' ∧ _ ∧ ∀ b ∈ [e, it], H' b = none) E hlen ⟨hen, hit, p⟩ fun v h' tk hY st' hk htk => ?_
    obtain ⟨T, tt, y, ev, hT, hy, hTup⟩ := hY
    subst ev
    have hy' : y = u := by
      have q : its.toArray[i]? = some u := by simpa using hu
      rw [q] at hy; injection hy with hy; exact hy.symm
    subst hy'
    have new : ObjOk X.prog X.w (upd H T (.tup [.int (i : Nat), x])) h' T (.tup [.int (i : Nat), x]) :=
      ⟨by show 2 ≤ sizeLine; decide, [.int (0 + (i : Int)) tt, y], .cons ⟨tt, by rw [Int.zero_add]⟩ (.cons ru .nil), hTup⟩
    have I1 : Inv X pins σ (upd H T (.tup [.int (i : Nat), x])) { s with heap := h', toks := tk } :=
      I.turnedNew (ch := [e, it]) (fun b ob hb q => hk b ob hb q) hf hT new
    refine ⟨.ref T, _, I1, rfl, ⟨_, x, rfl, I.hok.fresh hT, rfl, fun ys hy => by rw [injB I hy hq]; exact hx⟩, ⟨st'.1, st'.2.1, n1, n2, n3⟩, fun b hb => ?_⟩
    have hb' : b < s.heap.objs.size := by
      have e' : b = e ∨ b = it := by simpa using hb
      rcases e' with z | z
      · rw [z]; exact hel
      · rw [z]; exact hil
    rw [upd_ne (Nat.ne_of_lt (Nat.lt_of_lt_of_le hb' hT))]
    exact (hf b hb).1
  done := by
    intro X hP hw hK hc i pins s σ H E I hf st hg
    subst hP hw hK
    obtain ⟨hen, hit, n1, n2, n3⟩ := st
    obtain ⟨xs, hq, hx⟩ := hg
    obtain ⟨its, rv, p, hz⟩ := invB I hq
    have hl := rv.length
    obtain ⟨f0, f1, f2, f3, f4, f5⟩ := hf it (by simp)
    have h : i = its.toArray.size := by simp; omega
    subst h
    have G := GoesN.enumFrom (prog := X.prog) (w := X.w) (A := X.A) (elts := elts) (x1 := kk) (pos := tpos) 0 (drawsB (prog := X.prog) (w := X.w) (A := X.A.in1) t (I.ok.hd hc) it a n2 its.toArray) e n1 (by simp [n1, n3]) (by simp)
    exact G.stops s _ E ⟨hen, hit, p⟩ fun h' tk hk htk => I.turnedL (ch := [e, it]) (fun b o hb q => hk b o hb q) hf
  self := fun A i s Q E st h => let ⟨⟨_, he⟩, _⟩ := st; wpAny_pyIter_enum he h

def iEnumB (t : Bool) (K : PySem.W.Frag) (ta : TA) : TI := fun σ H R => ta σ H fun vs H1 => ∃ a xs, vs = [.ref a] ∧ SqB t K H1 a xs ∧ R (IteB t K a) H1
theorem meets_enumB {v : Value} {o : Obj} {H : Heap → Prop} (B : Begins v o H) :
    Meets (Builtin.«enumerate.__new__» ⟨[.type "enumerate", v], []⟩) (fun _ R s => H s.heap ∧
      R (.ok (.ret (.ref (s.heap.push o).objs.size))) { s with heap := (s.heap.push o).push { cls := .type "enumerate", data := .fields #[.none, .bool false, .ref s.heap.objs.size, rawInt 0, .none, .none] } }) :=
  .of_wp fun prog w A R s h => by
    obtain ⟨hp, g, d, tk, os⟩ := s; obtain ⟨h1, h⟩ := h
    have hsub := sub_enumerate
    have q1 : ∀ {A' : Around} {E : Value → Shared → Prop} {Q : Value → Shared → Prop}, Q (.ref hp.objs.size) ⟨hp.push o, g, d, tk, os⟩ → wpAny (model prog w) A' (pyIter v) Q E ⟨hp, g, d, tk, os⟩ :=
      fun q => B.iter prog w _ _ ⟨hp, g, d, tk, os⟩ _ h1 q
    wp_walk using q1
    refine wpAny_stack_any fun st => wpAny_pure ?_
    split
    · rename_i c _ _ _ _ _
      cases (c == Value.type "enumerate")
      · wp_walk using q1
        exact ⟨_, rfl, h⟩
      · wp_walk using q1
        exact ⟨_, rfl, h⟩
    · wp_walk using q1
      exact ⟨_, rfl, h⟩
theorem call_enumB {prog : Program} {w : World} {A : Around} {E : Value → Shared → Prop} {s : Shared} {v : Value} {o : Obj} {H : Heap → Prop} {Q : Value → Shared → Prop} (B : Begins v o H) (h1 : H s.heap)
    (h : ∀ h', IsEnum h' (s.heap.objs.size + 1) s.heap.objs.size 0 .none → h'.get? s.heap.objs.size = some o → (∀ b o, s.heap.get? b = some o → h'.get? b = some o) → Q (.ref (s.heap.objs.size + 1)) { s with heap := h' }) :
    wpAny (model prog w) A (call (.type "enumerate") [v]) Q E s := by
  refine callType_new F.called_enumerate (by decide) (F.typeCall_enumerate_1 _) (F.newCall_enumerate_1 _) (fun obj => F.args_object_init_2 obj _) F.entry_enumerate_new (meets_enumB B) ⟨h1, ?_⟩
  have hz : (s.heap.push o).objs.size = s.heap.objs.size + 1 := Heap.size_push ..
  show _ ∧ _
  rw [hz]
  have he : IsEnum ((s.heap.push o).push { cls := .type "enumerate", data := .fields #[.none, .bool false, .ref s.heap.objs.size, rawInt 0, .none, .none] }) (s.heap.objs.size + 1) s.heap.objs.size 0 .none := by
    have := Heap.get?_push_size (s.heap.push o) (o := { cls := .type "enumerate", data := .fields #[.none, .bool false, .ref s.heap.objs.size, rawInt 0, .none, .none] }) rfl
    rw [hz] at this; exact this
  exact ⟨⟨_, he, rfl⟩, h _ he (Heap.get?_push_of_some _ (Heap.get?_push_size _ B.free)) fun b o x => Heap.get?_push_of_some _ (Heap.get?_push_of_some _ x)⟩
theorem pi_enumB (t : Bool) {X : Cx} {e : Expr} {ta : TA} {p pos tpos : Pos} {elts : List Expr} {kk : Nat} (hg : Gl X "enumerate") (hm : X.mg "enumerate" = none) (ha : PA X [e] ta) (hs : starEach [e] X.env = [(false, eval e X.env)] := by rfl) :
    PI X (.Tuple elts kk tpos) (.Call (.Name "enumerate" p) [e] [] pos) (iEnumB t X.K ta) := by
  refine ⟨fun pins s σ H R I h => ?_⟩
  refine Call_ (ld_blt I hg hm boot_enumerate (PyProof.Rows.callWith_type1 (thn (ha.run pos pins s σ H _ I h) fun us s1 ⟨vs, H1, I1, r1, q1⟩ => ?_) hs rfl))
  obtain ⟨a, xs, ex, hq, q⟩ := q1
  subst ex
  cases r1 with
  | cons r rr =>
    cases rr
    cases r
    obtain ⟨its, rv, p', hz⟩ := invB I1 hq
    refine call_enumB (beginsB t a its.toArray) p' fun h' he hit hk => wpAny_pyIter_enum he ?_
    have I2 : Inv X pins σ H1 { s1 with heap := h' } := I1.kept (t' := s1.toks) hk
    refine ⟨s1.heap.objs.size + 1, [s1.heap.objs.size + 1, s1.heap.objs.size], _, _, H1, rfl, I2, turn_enumB t a (s1.heap.objs.size + 1) s1.heap.objs.size, ⟨⟨.none, he⟩, itB_new hit, Nat.succ_ne_self _, Nat.ne_of_lt hz, Nat.ne_of_gt (Nat.lt_succ_of_lt hz)⟩, fun b hb => ?_, q⟩
    have e' : b = s1.heap.objs.size + 1 ∨ b = s1.heap.objs.size := by simpa using hb
    have hle : s1.heap.objs.size ≤ b := by
      rcases e' with z | z
      · rw [z]; exact Nat.le_add_right _ _
      · rw [z]; exact Nat.le_refl _
    exact I1.fpOk hle (I1.hok.fresh hle)
/-! zip -/
def ItzB (t1 t2 : Bool) (K : PySem.W.Frag) (a b : Addr) : It :=
  ⟨fun i H => ∃ (xs ys : List V) (x y : V), SqB t1 K H a xs ∧ SqB t2 K H b ys ∧ xs[i]? = some x ∧ ys[i]? = some y,
    fun i H v H' => ∃ T x y, v = .ref T ∧ H T = none ∧ H' = upd H T (.tup [x, y]) ∧ (∀ xs, SqB t1 K H a xs → xs[i]? = some x) ∧ ∀ ys, SqB t2 K H b ys → ys[i]? = some y,
    fun i H => ∃ xs ys : List V, SqB t1 K H a xs ∧ SqB t2 K H b ys ∧ i = min xs.length ys.length⟩
structure ZApart (z TI TO i1 i2 a b : Addr) : Prop where
  s : ZipSep2 z TI TO i1 i2 [i1, a] [i2, b]
  a1 : a ≠ i1
  b2 : b ≠ i2
theorem turn_zipB {P : Program} {w : World} {K : PySem.W.Frag} {elts : List Expr} {kk : Nat} {tpos : Pos} (t1 t2 : Bool) {a b z TI TO i1 i2 : Addr} (D : ZApart z TI TO i1 i2 a b) :
    Turn P w K (.Tuple elts kk tpos) (ItzB t1 t2 K a b) [z, TI, TO, i1, i2] z (fun i h => IsZip h z TI TO .none ∧ IsTupOf2 h TI (.ref i1) (.ref i2) ∧ (∃ x y, IsTupOf2 h TO x y) ∧ ItB t1 h i1 a i ∧ ItB t2 h i2 b i) where
  mem := by simp
  obj := fun i h st c hc => by
    obtain ⟨hz, hTI, ⟨x, y, hTO⟩, h1, h2⟩ := st
    have e' : c = z ∨ c = TI ∨ c = TO ∨ c = i1 ∨ c = i2 := by simpa using hc
    rcases e' with q | q | q | q | q
    · rw [q]; exact ⟨_, hz, fun v q => nomatch q⟩
    · rw [q]; exact ⟨_, hTI, fun v q => nomatch q⟩
    · rw [q]; exact ⟨_, hTO, fun v q => nomatch q⟩
    · rw [q]; exact h1.obj
    · rw [q]; exact h2.obj
  keep := fun i h h' st k => by
    obtain ⟨hz, hTI, ⟨x, y, hTO⟩, h1, h2⟩ := st
    exact ⟨k z (by simp) _ hz, k TI (by simp) _ hTI, ⟨x, y, k TO (by simp) _ hTO⟩, h1.at fun o q => k i1 (by simp) o q, h2.at fun o q => k i2 (by simp) o q⟩
  item := by
    intro X hP hw hK hc i pins s σ H E I hf st hg
    subst hP hw hK
    obtain ⟨hz, hTI, hTO, h1, h2⟩ := st
    obtain ⟨xs, ys, x, y, hqx, hqy, hx, hy⟩ := hg
    obtain ⟨its, rv, p, l1⟩ := invB I hqx
    obtain ⟨its2, rv2, p2, l2⟩ := invB I hqy
    obtain ⟨u, hu, ru⟩ := rv.get hx
    obtain ⟨u2, hu2, ru2⟩ := rv2.get hy
    have G := GoesN.zip2 (prog := X.prog) (w := X.w) (A := X.A) (elts := elts) (x1 := kk) (pos := tpos) D.s (drawsB (prog := X.prog) (w := X.w) (A := X.A.in1) t1 (I.ok.hd hc) i1 a D.a1 its.toArray) (drawsB (prog := X.prog) (w := X.w) (A := X.A.in1) t2 (I.ok.hd hc) i2 b D.b2 its2.toArray)
    have hl1 : i < its.toArray.size := by simpa using (List.getElem?_eq_some_iff.mp hu).1
    have hl2 : i < its2.toArray.size := by simpa using (List.getElem?_eq_some_iff.mp hu2).1
    have hfp : ∀ c ∈ [z, TI, TO, i1, i2], c < s.heap.objs.size := fun c hcm => by
      have e' : c = z ∨ c = TI ∨ c = TO ∨ c = i1 ∨ c = i2 := by simpa using hcm
      rcases e' with q | q | q | q | q
      · rw [q]; exact Heap.lt_size hz
      · rw [q]; exact Heap.lt_size hTI
      · rw [q]; obtain ⟨_, _, e⟩ := hTO; exact Heap.lt_size e
      · rw [q]; obtain ⟨_, e, _⟩ := h1.obj; exact Heap.lt_size e
      · rw [q]; obtain ⟨_, e, _⟩ := h2.obj; exact Heap.lt_size e
    refine G.goes i s (fun v s2 => ∃ x H', Inv X pins σ H' s2 ∧ RelV x v ∧ (ItzB t1 t2 X.K a b).yld i H x H' ∧ _ ∧ ∀ c ∈ [z, TI, TO, i1, i2], H' c = none) E (Nat.lt_min.mpr ⟨hl1, hl2⟩) ⟨hz, hTI, hTO, ⟨h1, p⟩, ⟨h2, p2⟩⟩ fun v h' tk hY st' hk htk => ?_
    obtain ⟨T, v1, v2, ev, hT, hv1, hv2, hTup⟩ := hY
    subst ev
    have e1 : v1 = u := by
      have q : its.toArray[i]? = some u := by simpa using hu
      rw [q] at hv1; injection hv1 with hv1; exact hv1.symm
    have e2 : v2 = u2 := by
      have q : its2.toArray[i]? = some u2 := by simpa using hu2
      rw [q] at hv2; injection hv2 with hv2; exact hv2.symm
    subst e1 e2
    have new : ObjOk X.prog X.w (upd H T (.tup [x, y])) h' T (.tup [x, y]) := ⟨by show 2 ≤ sizeLine; decide, [v1, v2], .cons ru (.cons ru2 .nil), hTup⟩
    have I1 : Inv X pins σ (upd H T (.tup [x, y])) { s with heap := h', toks := tk } :=
      I.turnedNew (ch := [z, TI, TO, i1, i2]) (fun c ob hb q => hk c ob (fun hm => hb (by
        have e' : c = z ∨ c = TO ∨ c = i1 ∨ c = i2 := by simpa using hm
        rcases e' with q | q | q | q <;> simp [q])) q) hf hT new
    refine ⟨.ref T, _, I1, rfl, ⟨_, x, y, rfl, I.hok.fresh hT, rfl, fun l hl => by rw [injB I hl hqx]; exact hx, fun l hl => by rw [injB I hl hqy]; exact hy⟩, ⟨st'.1, st'.2.1, st'.2.2.1, st'.2.2.2.1.1, st'.2.2.2.2.1⟩, fun c hcm => ?_⟩
    rw [upd_ne (Nat.ne_of_lt (Nat.lt_of_lt_of_le (hfp c hcm) hT))]
    exact (hf c hcm).1
  done := by
    intro X hP hw hK hc i pins s σ H E I hf st hg
    subst hP hw hK
    obtain ⟨hz, hTI, hTO, h1, h2⟩ := st
    obtain ⟨xs, ys, hqx, hqy, hend⟩ := hg
    obtain ⟨its, rv, p, l1⟩ := invB I hqx
    obtain ⟨its2, rv2, p2, l2⟩ := invB I hqy
    have q1 := rv.length
    have q2 := rv2.length
    have h : i = min its.toArray.size its2.toArray.size := by simp; omega
    subst h
    have G := GoesN.zip2 (prog := X.prog) (w := X.w) (A := X.A) (elts := elts) (x1 := kk) (pos := tpos) D.s (drawsB (prog := X.prog) (w := X.w) (A := X.A.in1) t1 (I.ok.hd hc) i1 a D.a1 its.toArray) (drawsB (prog := X.prog) (w := X.w) (A := X.A.in1) t2 (I.ok.hd hc) i2 b D.b2 its2.toArray)
    exact G.stops s _ E ⟨hz, hTI, hTO, ⟨h1, p⟩, ⟨h2, p2⟩⟩ fun h' tk hk htk => I.turnedL (ch := [z, TI, TO, i1, i2]) (fun c o hb q => hk c o (fun hm => hb (by
        have e' : c = z ∨ c = TO ∨ c = i1 ∨ c = i2 := by simpa using hm
        rcases e' with q | q | q | q <;> simp [q])) q) hf
  self := fun A i s Q E st h => wpAny_pyIter_zip st.1 h
def iZipB (t1 t2 : Bool) (K : PySem.W.Frag) (ta : TA) : TI := fun σ H R => ta σ H fun vs H1 => ∃ a b xs ys, vs = [.ref a, .ref b] ∧ SqB t1 K H1 a xs ∧ SqB t2 K H1 b ys ∧ R (ItzB t1 t2 K a b) H1
theorem pi_zipB (t1 t2 : Bool) {X : Cx} {e e2 : Expr} {ta : TA} {p pos tpos : Pos} {elts : List Expr} {kk : Nat} (hg : Gl X "zip") (hm : X.mg "zip" = none) (ha : PA X [e, e2] ta)
    (hs : starEach [e, e2] X.env = (false, eval e X.env) :: starEach [e2] X.env := by rfl) (hpl : (backTo pos (starEach [e2] X.env)).any (·.1) = false := by rfl) :
    PI X (.Tuple elts kk tpos) (.Call (.Name "zip" p) [e, e2] [] pos) (iZipB t1 t2 X.K ta) := by
  refine ⟨fun pins s σ H R I h => ?_⟩
  refine Call_ (ld_blt I hg hm PyProof.Rows.boot_zip (PyProof.Rows.callWith_type1 (thn (ha.run pos pins s σ H _ I h) fun us s1 ⟨vs, H1, I1, r1, q1⟩ => ?_) hs hpl))
  obtain ⟨a, b, xs, ys, ex, hqx, hqy, q⟩ := q1
  subst ex
  cases r1 with
  | cons r rr =>
    cases rr with
    | cons r' rr =>
      cases rr
      cases r
      cases r'
      have fresh5 : ∀ c, c ∈ [s1.heap.objs.size + 4, s1.heap.objs.size + 2, s1.heap.objs.size + 3, s1.heap.objs.size, s1.heap.objs.size + 1] → FpOk X pins H1 c := fun c hcm => by
        have e' : c = s1.heap.objs.size + 4 ∨ c = s1.heap.objs.size + 2 ∨ c = s1.heap.objs.size + 3 ∨ c = s1.heap.objs.size ∨ c = s1.heap.objs.size + 1 := by simpa using hcm
        have hle : s1.heap.objs.size ≤ c := by
          rcases e' with z | z | z | z | z
          · rw [z]; exact Nat.le_add_right _ _
          · rw [z]; exact Nat.le_add_right _ _
          · rw [z]; exact Nat.le_add_right _ _
          · rw [z]; exact Nat.le_refl _
          · rw [z]; exact Nat.le_add_right _ _
        exact I1.fpOk hle (I1.hok.fresh hle)
      obtain ⟨its, rv, p1, l1⟩ := invB I1 hqx
      obtain ⟨its2, rv2, p2, l2⟩ := invB I1 hqy
      refine zip_begins2 (beginsB t1 a its.toArray) (beginsB t2 b its2.toArray) p1 p2 fun h' hz hTI hTO h1 h2 hsz hk => wpAny_pyIter_zip hz ?_
      have I2 : Inv X pins σ H1 { s1 with heap := h' } := I1.kept (t' := s1.toks) hk
      have ap : ZApart (s1.heap.objs.size + 4) (s1.heap.objs.size + 2) (s1.heap.objs.size + 3) s1.heap.objs.size (s1.heap.objs.size + 1) a b :=
        ⟨zip_sep2 (fun c hc => by rw [List.mem_singleton.mp hc]; exact l1) (fun c hc => by rw [List.mem_singleton.mp hc]; exact l2), Nat.ne_of_lt l1, Nat.ne_of_lt (Nat.lt_succ_of_lt l2)⟩
      exact ⟨s1.heap.objs.size + 4, [s1.heap.objs.size + 4, s1.heap.objs.size + 2, s1.heap.objs.size + 3, s1.heap.objs.size, s1.heap.objs.size + 1], _, _, H1, rfl, I2, turn_zipB t1 t2 ap, ⟨hz, hTI, ⟨_, _, hTO⟩, itB_new h1, itB_new h2⟩, fresh5, q⟩
/-! their walks -/
theorem walk_enumB {t : Bool} {K : PySem.W.Frag} {a : Addr} {xs : List V} : Walk (IteB t K a) xs.length (fun H => SqB t K H a xs) (YPair (fun i => some (.int (i : Nat))) (fun i => xs[i]?)) := by
  refine ⟨fun i _ hi q => ⟨xs, xs[i], q, by simp [hi]⟩, fun _ q => ⟨xs, q, rfl⟩, fun i H v H' _ q y => ?_⟩
  obtain ⟨T, x, h1, h2, h3, h4⟩ := y
  exact ⟨T, .int (i : Nat), x, h1, h2, h3, rfl, h4 xs q⟩
theorem walk_zipB {t1 t2 : Bool} {K : PySem.W.Frag} {a b : Addr} {xs ys : List V} {n : Nat} (hn : n = min xs.length ys.length) : Walk (ItzB t1 t2 K a b) n (fun H => SqB t1 K H a xs ∧ SqB t2 K H b ys) (YPair (fun i => xs[i]?) (fun i => ys[i]?)) := by
  subst hn
  refine ⟨fun i _ hi q => ?_, fun _ q => ⟨xs, ys, q.1, q.2, rfl⟩, fun i H v H' _ q y => ?_⟩
  · have h1 : i < xs.length := by omega
    have h2 : i < ys.length := by omega
    exact ⟨xs, ys, xs[i], ys[i], q.1, q.2, by simp [h1], by simp [h2]⟩
  · obtain ⟨T, x, z, h1, h2, h3, h4, h5⟩ := y
    exact ⟨T, x, z, h1, h2, h3, h4 xs q.1, h5 ys q.2⟩
end Own


namespace Own
/-! ### rows of numbers below a prime -/
abbrev Ro := List Int
abbrev Mx := List Ro
def nth (r : Ro) (j : Nat) : Int := r.getD j 0
def row (R : Mx) (i : Nat) : Ro := R.getD i []
def ent (R : Mx) (i j : Nat) : Int := nth (row R i) j
def swp (R : Mx) (i j : Nat) : Mx := (R.set i (row R j)).set j (row R i)
def scl (p b : Int) (r : Ro) : Ro := r.map fun x => b * x % p
def led (p f : Int) (r c : Ro) : Ro := List.zipWith (fun x y => (x - f * y) % p) r c
def clr (p b : Int) (R : Mx) (d k : Nat) : Mx := (List.range R.length).map fun r => if r = d then scl p b (row R d) else led p (ent R r k) (row R r) (scl p b (row R d))
def pv (R : Mx) (d k : Nat) : Option Nat := (List.range R.length).find? fun i => decide (d ≤ i) && decide (ent R i k ≠ 0)
/-- rows, how many are done, where these begin -/
structure Sta where
  R : Mx
  d : Nat
  S : List Nat
noncomputable def stp (p : Int) (s : Sta) (k : Nat) : Sta := match pv s.R s.d k with
  | none => s
  | some i => ⟨clr p (inv p (ent (swp s.R s.d i) s.d k)) (swp s.R s.d i) s.d k, s.d + 1, s.S ++ [k]⟩
noncomputable def red (p : Int) (M : Mx) : Nat → Sta
  | 0 => ⟨M, 0, []⟩
  | n + 1 => stp p (red p M n) n
theorem getD_lt {α : Type} {l : List α} {d : α} {i : Nat} (h : i < l.length) : l.getD i d = l[i] := by
  rw [List.getD_eq_getElem?_getD, List.getElem?_eq_getElem h, Option.getD_some]
/-- rows of n numbers below p -/
def WF (p : Int) (n : Nat) (R : Mx) : Prop := ∀ r ∈ R, r.length = n ∧ ∀ x ∈ r, 0 ≤ x ∧ x < p
theorem row_mem {R : Mx} {i : Nat} (h : i < R.length) : row R i ∈ R := by
  unfold row
  rw [getD_lt h]
  exact List.getElem_mem h
theorem row_at {R : Mx} {i : Nat} (h : i < R.length) : R[i]? = some (row R i) := by
  unfold row
  rw [getD_lt h, List.getElem?_eq_getElem h]
theorem mem_row {R : Mx} {r : Ro} (h : r ∈ R) : ∃ i, i < R.length ∧ row R i = r := by
  obtain ⟨i, hi, e⟩ := List.mem_iff_getElem.mp h
  exact ⟨i, hi, by unfold row; rw [getD_lt hi, e]⟩
theorem row_set {R : Mx} {i j : Nat} {r : Ro} (h : i < R.length) : row (R.set i r) j = if j = i then r else row R j := by
  unfold row
  rw [List.getD_eq_getElem?_getD, List.getD_eq_getElem?_getD, List.getElem?_set]
  by_cases e : i = j
  · subst e; simp [h]
  · simp [e, Ne.symm e]
theorem row_swp {R : Mx} {i j r : Nat} (hi : i < R.length) (hj : j < R.length) : row (swp R i j) r = if r = j then row R i else if r = i then row R j else row R r := by
  unfold swp
  rw [row_set (by rw [List.length_set]; exact hj), row_set hi]
theorem len_swp {R : Mx} {i j : Nat} : (swp R i j).length = R.length := by simp [swp]
theorem len_clr {p b : Int} {R : Mx} {d k : Nat} : (clr p b R d k).length = R.length := by simp [clr]
theorem row_clr {p b : Int} {R : Mx} {d k r : Nat} (h : r < R.length) : row (clr p b R d k) r = if r = d then scl p b (row R d) else led p (ent R r k) (row R r) (scl p b (row R d)) := by
  unfold clr
  show ((List.range R.length).map _).getD r [] = _
  rw [getD_lt (by simpa using h), List.getElem_map, List.getElem_range]
theorem nth_scl {p b : Int} {r : Ro} {j : Nat} : nth (scl p b r) j = b * nth r j % p := by
  unfold nth scl
  rw [List.getD_eq_getElem?_getD, List.getD_eq_getElem?_getD, List.getElem?_map]
  cases r[j]? <;> simp
theorem nth_led {p f : Int} {r c : Ro} {j : Nat} (h : r.length = c.length) : nth (led p f r c) j = (nth r j - f * nth c j) % p := by
  unfold nth led
  rw [List.getD_eq_getElem?_getD, List.getD_eq_getElem?_getD, List.getD_eq_getElem?_getD, List.getElem?_zipWith]
  by_cases hj : j < r.length
  · rw [List.getElem?_eq_getElem hj, List.getElem?_eq_getElem (by omega : j < c.length)]
    rfl
  · rw [List.getElem?_eq_none (by omega), List.getElem?_eq_none (by omega)]
    simp
theorem len_scl {p b : Int} {r : Ro} : (scl p b r).length = r.length := by simp [scl]
theorem len_led {p f : Int} {r c : Ro} (h : r.length = c.length) : (led p f r c).length = r.length := by simp [led, h]
theorem wf_row {p : Int} {n : Nat} {R : Mx} (w : WF p n R) {i : Nat} (h : i < R.length) : (row R i).length = n ∧ ∀ x ∈ row R i, 0 ≤ x ∧ x < p := w _ (row_mem h)
theorem wf_nth {p : Int} {n : Nat} {R : Mx} (w : WF p n R) (hp : 0 < p) (i j : Nat) : 0 ≤ ent R i j ∧ ent R i j < p := by
  unfold ent nth
  by_cases hi : i < R.length
  · rw [List.getD_eq_getElem?_getD]
    cases h : (row R i)[j]? with
    | none => exact ⟨Int.le_refl _, hp⟩
    | some x => exact (wf_row w hi).2 x (List.mem_of_getElem? h)
  · have : row R i = [] := by unfold row; rw [List.getD_eq_getElem?_getD, List.getElem?_eq_none (by omega), Option.getD_none]
    rw [this]
    exact ⟨Int.le_refl _, hp⟩
theorem wf_swp {p : Int} {n : Nat} {R : Mx} (w : WF p n R) {i j : Nat} (hi : i < R.length) (hj : j < R.length) : WF p n (swp R i j) := fun r hr => by
  obtain ⟨m, hm, e⟩ := mem_row hr
  rw [len_swp] at hm
  rw [row_swp hi hj] at e
  rw [← e]
  split
  · exact wf_row w hi
  · split
    · exact wf_row w hj
    · exact wf_row w hm
theorem wf_clr {p b : Int} {n : Nat} {R : Mx} (hp : 0 < p) (w : WF p n R) {d k : Nat} (hd : d < R.length) : WF p n (clr p b R d k) := fun r hr => by
  obtain ⟨m, hm, e⟩ := mem_row hr
  rw [len_clr] at hm
  rw [row_clr hm] at e
  have l1 := (wf_row w hd).1
  have l2 := (wf_row w hm).1
  rw [← e]
  split
  · refine ⟨by rw [len_scl]; exact l1, fun x hx => ?_⟩
    unfold scl at hx
    obtain ⟨y, _, rfl⟩ := List.mem_map.mp hx
    exact ⟨Int.emod_nonneg _ (by omega), Int.emod_lt_of_pos _ hp⟩
  · refine ⟨by rw [len_led (by rw [len_scl, l1, l2])]; exact l2, fun x hx => ?_⟩
    unfold led at hx
    obtain ⟨i, hi, rfl⟩ := List.mem_iff_getElem.mp hx
    rw [List.getElem_zipWith]
    exact ⟨Int.emod_nonneg _ (by omega), Int.emod_lt_of_pos _ hp⟩
theorem pv_some {R : Mx} {d k i : Nat} (h : pv R d k = some i) : i < R.length ∧ d ≤ i ∧ ent R i k ≠ 0 := by
  unfold pv at h
  have h1 := List.find?_some h
  have h2 := List.mem_of_find?_eq_some h
  simp at h1 h2
  exact ⟨h2, h1.1, h1.2⟩
theorem pv_none {R : Mx} {d k i : Nat} (h : pv R d k = none) (hd : d ≤ i) (hi : i < R.length) : ent R i k = 0 := by
  unfold pv at h
  have := List.find?_eq_none.mp h i (List.mem_range.mpr hi)
  simp [hd] at this
  exact this
/-- what holds of the rows when k columns are done -/
structure Good (p : Int) (n : Nat) (k : Nat) (s : Sta) : Prop where
  wf : WF p n s.R
  dl : s.d = s.S.length
  dr : s.d ≤ s.R.length
  lt : ∀ c ∈ s.S, c < k
  nd : s.S.Pairwise (· < ·)
  one : ∀ (r : Nat) (c : Nat), s.S[r]? = some c → ∀ i, i < s.R.length → ent s.R i c = if i = r then 1 else 0
  low : ∀ i, s.d ≤ i → i < s.R.length → ∀ c, c < k → ent s.R i c = 0
  pre : ∀ (r : Nat) (c : Nat), s.S[r]? = some c → ∀ j, j < c → ent s.R r j = 0
theorem good_start {p : Int} {n : Nat} {M : Mx} (w : WF p n M) : Good p n 0 ⟨M, 0, []⟩ :=
  ⟨w, rfl, Nat.zero_le _, by simp, by simp, fun r c h => by simp at h, fun _ _ _ c h => absurd h (Nat.not_lt_zero _), fun r c h => by simp at h⟩
/-- the number that leads has an inverse -/
def HasInv (p : Int) : Prop := ∀ a, 0 < a → a < p → ∃ b, IsInv p a b
theorem good_step {p : Int} {n k : Nat} {s : Sta} (hp : 1 < p) (hI : HasInv p) (g : Good p n k s) : Good p n (k + 1) (stp p s k) := by
  unfold stp
  cases h : pv s.R s.d k with
  | none =>
    refine ⟨g.wf, g.dl, g.dr, fun c hc => by have := g.lt c hc; omega, g.nd, g.one, fun i h1 h2 c hc => ?_, g.pre⟩
    by_cases e : c = k
    · rw [e]; exact pv_none h h1 h2
    · exact g.low i h1 h2 c (by omega)
  | some i =>
    obtain ⟨hi, hd, hne⟩ := pv_some h
    have hdl : s.d < s.R.length := by omega
    have w1 := wf_swp g.wf hdl hi
    generalize hR1 : swp s.R s.d i = R1 at w1
    have len1 : R1.length = s.R.length := by rw [← hR1, len_swp]
    have r1 : ∀ r, row R1 r = if r = i then row s.R s.d else if r = s.d then row s.R i else row s.R r := fun r => by rw [← hR1, row_swp hdl hi]
    have e1 : ∀ r c, ent R1 r c = if r = i then ent s.R s.d c else if r = s.d then ent s.R i c else ent s.R r c := fun r c => by
      unfold ent
      rw [r1]
      split
      · rfl
      · split <;> rfl
    have a0 : ent R1 s.d k ≠ 0 := by
      rw [e1]
      split
      · rename_i z; rw [← z] at hne; exact hne
      · rw [if_pos rfl]; exact hne
    have ab := wf_nth w1 (by omega) s.d k
    have I := inv_is (Classical.choose_spec (hI (ent R1 s.d k) (by omega) ab.2))
    generalize hb : inv p (ent R1 s.d k) = b at I
    have below : ∀ r, s.d ≤ r → r < s.R.length → ∀ c, c < k → ent R1 r c = 0 := fun r h1 h2 c hc => by
      rw [e1]
      split
      · exact g.low _ (Nat.le_refl _) hdl c hc
      · split
        · exact g.low _ hd hi c hc
        · exact g.low _ h1 h2 c hc
    have same : ∀ r, r < s.d → ∀ c, ent R1 r c = ent s.R r c := fun r h1 c => by
      rw [e1, if_neg (by omega), if_neg (by omega)]
    -- the rows behind
    show Good p n (k + 1) ⟨clr p (inv p (ent (swp s.R s.d i) s.d k)) (swp s.R s.d i) s.d k, s.d + 1, s.S ++ [k]⟩
    rw [hR1, hb]
    have new : ∀ r, r < R1.length → ∀ c, ent (clr p b R1 s.d k) r c = if r = s.d then b * ent R1 s.d c % p else (ent R1 r c - ent R1 r k * (b * ent R1 s.d c % p)) % p := fun r hr c => by
      unfold ent
      rw [row_clr hr]
      split
      · rw [nth_scl]
      · rw [nth_led (by rw [len_scl, (wf_row w1 hr).1, (wf_row w1 (by rw [len1]; exact hdl)).1]), nth_scl]; rfl
    have z : ∀ r, r < R1.length → ∀ c, c < k → ent (clr p b R1 s.d k) r c = ent R1 r c := fun r hr c hc => by
      rw [new r hr c, below s.d (Nat.le_refl _) hdl c hc]
      split
      · rename_i e
        rw [e, below s.d (Nat.le_refl _) hdl c hc]; simp
      · have := wf_nth w1 (by omega) r c
        simp only [Int.mul_zero, Int.zero_emod, Int.sub_zero]
        exact Int.emod_eq_of_lt this.1 this.2
    have lead : b * ent R1 s.d k % p = 1 := by
      have h2 := I.2.2
      have : ent R1 s.d k * b % p = 1 % p := Int.emod_eq_emod_iff_emod_sub_eq_zero.mpr (Int.emod_eq_zero_of_dvd h2)
      rw [Int.mul_comm, this]
      exact Int.emod_eq_of_lt (by omega) hp
    have colk : ∀ r, r < R1.length → ent (clr p b R1 s.d k) r k = if r = s.d then 1 else 0 := fun r hr => by
      rw [new r hr k, lead]
      split
      · rfl
      · rw [Int.mul_one, Int.sub_self, Int.zero_emod]
    refine ⟨wf_clr (by omega) w1 (by rw [len1]; exact hdl), by simp [g.dl], by rw [len_clr, len1]; show s.d + 1 ≤ _; omega, fun c hc => ?_, ?_, fun r c hrc j hj => ?_, fun j h1 h2 c hc => ?_, fun r c hrc j hj => ?_⟩
    · rcases List.mem_append.mp hc with q | q
      · have := g.lt c q; omega
      · rw [List.mem_singleton.mp q]; omega
    · rw [List.pairwise_append]
      exact ⟨g.nd, by simp, fun x hx y hy => by rw [List.mem_singleton.mp hy]; exact g.lt x hx⟩
    · rw [len_clr] at hj
      have hrc' : (s.S ++ [k])[r]? = some c := hrc
      by_cases hr : r < s.S.length
      · rw [List.getElem?_append_left hr] at hrc'
        have hck : c < k := g.lt c (List.mem_of_getElem? hrc')
        rw [z j hj c hck]
        by_cases hjd : j < s.d
        · rw [same j hjd]
          exact g.one r c hrc' j (by omega)
        · rw [below j (by omega) (by omega) c hck, if_neg]
          have := g.dl
          omega
      · rw [List.getElem?_append_right (by omega)] at hrc'
        have hr0 : r - s.S.length = 0 := by
          refine Nat.eq_zero_of_not_pos fun q => ?_
          rw [List.getElem?_eq_none (by simp; omega)] at hrc'
          cases hrc'
        rw [hr0] at hrc'
        simp at hrc'
        subst hrc'
        have : r = s.d := by have := g.dl; omega
        rw [this]
        exact colk j hj
    · have h2' : j < R1.length := by rw [len_clr] at h2; exact h2
      have h1' : s.d + 1 ≤ j := h1
      by_cases e : c = k
      · rw [e, colk j h2', if_neg (by omega)]
      · rw [z j h2' c (by omega)]
        exact below j (by omega) (by omega) c (by omega)
    · have hrc' : (s.S ++ [k])[r]? = some c := hrc
      by_cases hr : r < s.S.length
      · rw [List.getElem?_append_left hr] at hrc'
        have hck : c < k := g.lt c (List.mem_of_getElem? hrc')
        have hrd : r < s.d := by have := g.dl; omega
        rw [z r (by omega) j (by omega), same r hrd]
        exact g.pre r c hrc' j hj
      · rw [List.getElem?_append_right (by omega)] at hrc'
        have hr0 : r - s.S.length = 0 := by
          refine Nat.eq_zero_of_not_pos fun q => ?_
          rw [List.getElem?_eq_none (by simp; omega)] at hrc'
          cases hrc'
        rw [hr0] at hrc'
        simp at hrc'
        subst hrc'
        have : r = s.d := by have := g.dl; omega
        rw [this, z s.d (by omega) j hj]
        exact below s.d (Nat.le_refl _) hdl j hj
theorem good_red {p : Int} {n : Nat} {M : Mx} (hp : 1 < p) (hI : HasInv p) (w : WF p n M) : ∀ k, Good p n k (red p M k)
  | 0 => good_start w
  | k + 1 => good_step hp hI (good_red hp hI w k)
theorem len_red {p : Int} {M : Mx} : ∀ k, (red p M k).R.length = M.length
  | 0 => rfl
  | k + 1 => by
    show (stp p (red p M k) k).R.length = _
    unfold stp
    cases pv (red p M k).R (red p M k).d k with
    | none => exact len_red k
    | some i => show (clr _ _ _ _ _).length = _; rw [len_clr, len_swp]; exact len_red k
end Own


namespace Own
/-! ### what rows make nought -/
def sumTo (f : Nat → Int) : Nat → Int
  | 0 => 0
  | n + 1 => sumTo f n + f n
def dot (n : Nat) (u v : Ro) : Int := sumTo (fun k => nth u k * nth v k) n
theorem sumTo_congr {f g : Nat → Int} : ∀ {n : Nat}, (∀ k, k < n → f k = g k) → sumTo f n = sumTo g n
  | 0, _ => rfl
  | n + 1, h => by
    show sumTo f n + f n = sumTo g n + g n
    rw [sumTo_congr fun k hk => h k (by omega), h n (by omega)]
theorem sumTo_mul {f : Nat → Int} {c : Int} : ∀ {n : Nat}, sumTo (fun k => c * f k) n = c * sumTo f n
  | 0 => by simp [sumTo]
  | n + 1 => by
    show sumTo _ n + c * f n = c * (sumTo f n + f n)
    rw [sumTo_mul, Int.mul_add]
theorem sumTo_sub {f g : Nat → Int} : ∀ {n : Nat}, sumTo (fun k => f k - g k) n = sumTo f n - sumTo g n
  | 0 => rfl
  | n + 1 => by
    show sumTo _ n + (f n - g n) = sumTo f n + f n - (sumTo g n + g n)
    rw [sumTo_sub]; omega
theorem sumTo_dvd {p : Int} {f : Nat → Int} : ∀ {n : Nat}, (∀ k, k < n → p ∣ f k) → p ∣ sumTo f n
  | 0, _ => Int.dvd_zero p
  | n + 1, h => Int.dvd_add (sumTo_dvd fun k hk => h k (by omega)) (h n (by omega))
theorem sumTo_near {p : Int} {f g : Nat → Int} {n : Nat} (h : ∀ k, k < n → p ∣ f k - g k) : p ∣ sumTo f n - sumTo g n := by
  rw [← sumTo_sub]; exact sumTo_dvd h
theorem sumTo_zero : ∀ {n : Nat} {f : Nat → Int}, (∀ k, k < n → f k = 0) → sumTo f n = 0
  | 0, _, _ => rfl
  | n + 1, f, h => by
    show sumTo f n + f n = 0
    rw [sumTo_zero fun k hk => h k (by omega), h n (by omega)]; rfl
theorem sumTo_upd {f g : Nat → Int} {i : Nat} : ∀ {n : Nat}, (∀ k, k < n → k ≠ i → g k = f k) → i < n → sumTo g n = sumTo f n + (g i - f i)
  | n + 1, h, hi => by
    show sumTo g n + g n = sumTo f n + f n + (g i - f i)
    by_cases e : i = n
    · subst e
      rw [sumTo_congr fun k hk => h k (by omega) (by omega)]; omega
    · rw [sumTo_upd (fun k hk => h k (by omega)) (by omega), h n (by omega) (fun z => e z.symm)]; omega
theorem dot_comm {n : Nat} {u v : Ro} : dot n u v = dot n v u := sumTo_congr fun k _ => Int.mul_comm _ _
theorem near_mod {p x : Int} : p ∣ x % p - x := by
  rw [Int.emod_def]
  exact ⟨-(x / p), by rw [Int.mul_neg]; omega⟩
theorem near_mul {p x y z : Int} (h : p ∣ x - y) : p ∣ x * z - y * z := by
  rw [← Int.sub_mul]; exact Int.dvd_mul_of_dvd_left h
theorem dot_scl {p b : Int} {n : Nat} {r x : Ro} : p ∣ dot n (scl p b r) x - b * dot n r x := by
  unfold dot
  rw [← sumTo_mul]
  refine sumTo_near fun k _ => ?_
  rw [nth_scl, ← Int.mul_assoc]
  exact near_mul near_mod
theorem dot_led {p f : Int} {n : Nat} {r c x : Ro} (h : r.length = c.length) : p ∣ dot n (led p f r c) x - (dot n r x - f * dot n c x) := by
  unfold dot
  rw [← sumTo_mul, ← sumTo_sub]
  refine sumTo_near fun k _ => ?_
  rw [nth_led h, ← Int.mul_assoc, ← Int.sub_mul]
  exact near_mul near_mod
/-- all rows make x nought -/
def Kil (p : Int) (n : Nat) (R : Mx) (x : Ro) : Prop := ∀ i, i < R.length → p ∣ dot n (row R i) x
theorem kil_swp {p : Int} {n : Nat} {R : Mx} {x : Ro} {i j : Nat} (hi : i < R.length) (hj : j < R.length) : Kil p n (swp R i j) x ↔ Kil p n R x := by
  have f : ∀ {R : Mx} {i j : Nat}, i < R.length → j < R.length → Kil p n R x → Kil p n (swp R i j) x := fun hi hj k m hm => by
    rw [len_swp] at hm
    rw [row_swp hi hj]
    split
    · exact k _ hi
    · split
      · exact k _ hj
      · exact k _ hm
  refine ⟨fun k m hm => ?_, f hi hj⟩
  by_cases e1 : m = i
  · have := k j (by rw [len_swp]; exact hj)
    rw [row_swp hi hj, if_pos rfl] at this
    rw [e1]; exact this
  · by_cases e2 : m = j
    · have := k i (by rw [len_swp]; exact hi)
      rw [row_swp hi hj] at this
      by_cases e3 : i = j
      · omega
      · rw [if_neg e3, if_pos rfl] at this
        rw [e2]; exact this
    · have := k m (by rw [len_swp]; exact hm)
      rwa [row_swp hi hj, if_neg e2, if_neg e1] at this
theorem dvd_of_near {p x y : Int} (h : p ∣ x - y) (k : p ∣ y) : p ∣ x := by
  have := Int.dvd_add h k
  rwa [Int.sub_add_cancel] at this
theorem dvd_of_near' {p x y : Int} (h : p ∣ x - y) (k : p ∣ x) : p ∣ y := by
  have := Int.dvd_sub k h
  rwa [Int.sub_sub_self] at this
theorem kil_clr {p b : Int} {n k d : Nat} {R : Mx} {x : Ro} (w : WF p n R) (hd : d < R.length) (h : Kil p n R x) : Kil p n (clr p b R d k) x := fun m hm => by
  rw [len_clr] at hm
  rw [row_clr hm]
  have c : p ∣ dot n (scl p b (row R d)) x := dvd_of_near dot_scl (Int.dvd_mul_of_dvd_right (h d hd))
  split
  · exact c
  · exact dvd_of_near (dot_led (by rw [len_scl, (wf_row w hd).1, (wf_row w hm).1])) (Int.dvd_sub (h m hm) (Int.dvd_mul_of_dvd_right c))
theorem kil_clr' {p b : Int} {n k d : Nat} {R : Mx} {x : Ro} (w : WF p n R) (hd : d < R.length) (I : p ∣ ent R d k * b - 1) (h : Kil p n (clr p b R d k) x) : Kil p n R x := fun m hm => by
  have c : p ∣ dot n (scl p b (row R d)) x := by
    have := h d (by rw [len_clr]; exact hd)
    rwa [row_clr hd, if_pos rfl] at this
  by_cases e : m = d
  · rw [e]
    have h1 : p ∣ b * dot n (row R d) x := dvd_of_near' dot_scl c
    have h2 : p ∣ ent R d k * (b * dot n (row R d) x) := Int.dvd_mul_of_dvd_right h1
    have h3 := near_mul (z := dot n (row R d) x) I
    rw [Int.one_mul, Int.mul_assoc] at h3
    exact dvd_of_near' h3 h2
  · have h1 := h m (by rw [len_clr]; exact hm)
    rw [row_clr hm, if_neg e] at h1
    have h2 := dvd_of_near' (dot_led (by rw [len_scl, (wf_row w hd).1, (wf_row w hm).1])) h1
    have h3 := Int.dvd_add h2 (Int.dvd_mul_of_dvd_right (b := ent R m k) c)
    rwa [Int.sub_add_cancel] at h3
theorem kil_stp {p : Int} {n k : Nat} {s : Sta} {x : Ro} (hp : 1 < p) (hI : HasInv p) (g : Good p n k s) : Kil p n (stp p s k).R x ↔ Kil p n s.R x := by
  unfold stp
  cases h : pv s.R s.d k with
  | none => exact Iff.rfl
  | some i =>
    obtain ⟨hi, hd, hne⟩ := pv_some h
    have hdl : s.d < s.R.length := by omega
    have w1 := wf_swp g.wf hdl hi
    have a0 : ent (swp s.R s.d i) s.d k ≠ 0 := by
      unfold ent
      rw [row_swp hdl hi]
      split
      · rename_i z; rw [← z] at hne; exact hne
      · rw [if_pos rfl]; exact hne
    have ab := wf_nth w1 (by omega) s.d k
    have I := inv_is (Classical.choose_spec (hI _ (by omega) ab.2))
    show Kil p n (clr p (inv p (ent (swp s.R s.d i) s.d k)) (swp s.R s.d i) s.d k) x ↔ _
    have hd' : s.d < (swp s.R s.d i).length := by rw [len_swp]; exact hdl
    exact ⟨fun q => (kil_swp hdl hi).mp (kil_clr' w1 hd' I.2.2 q), fun q => kil_clr w1 hd' ((kil_swp hdl hi).mpr q)⟩
theorem kil_red {p : Int} {n : Nat} {M : Mx} {x : Ro} (hp : 1 < p) (hI : HasInv p) (w : WF p n M) : ∀ k, Kil p n (red p M k).R x ↔ Kil p n M x
  | 0 => Iff.rfl
  | k + 1 => (kil_stp hp hI (good_red hp hI w k)).trans (kil_red hp hI w k)
/-! the rows of the kernel -/
def vecT (p : Int) (R : Mx) (S : List Nat) (n f : Nat) : Nat → Ro
  | 0 => (List.replicate n (0 : Int)).set f 1
  | t + 1 => (vecT p R S n f t).set (S.getD t 0) (-(ent R t f) % p)
def frees (n : Nat) (S : List Nat) : List Nat := (List.range n).filter fun k => !decide (k ∈ S)
noncomputable def kerM (p : Int) (M : Mx) (n : Nat) : Mx := (frees n (red p M n).S).map fun f => vecT p (red p M n).R (red p M n).S n f (red p M n).d
noncomputable def ker (p : Int) (M : Mx) (n : Nat) : Mx := (red p (kerM p M n) n).R.take (red p (kerM p M n) n).d
theorem len_vecT {p : Int} {R : Mx} {S : List Nat} {n f : Nat} : ∀ t, (vecT p R S n f t).length = n
  | 0 => by simp [vecT]
  | t + 1 => by simp [vecT, len_vecT t]
theorem nth_set {r : Ro} {i j : Nat} {y : Int} (h : i < r.length) : nth (r.set i y) j = if j = i then y else nth r j := by
  unfold nth
  rw [List.getD_eq_getElem?_getD, List.getD_eq_getElem?_getD, List.getElem?_set]
  by_cases e : i = j
  · subst e; simp [h]
  · simp [e, Ne.symm e]
theorem wf_vecT {p : Int} (hp : 1 < p) {R : Mx} {S : List Nat} {n f : Nat} : ∀ t, ∀ x ∈ vecT p R S n f t, 0 ≤ x ∧ x < p
  | 0 => fun x hx => by
    rcases List.mem_or_eq_of_mem_set hx with q | q
    · rw [(List.mem_replicate.mp q).2]; omega
    · omega
  | t + 1 => fun x hx => by
    rcases List.mem_or_eq_of_mem_set hx with q | q
    · exact wf_vecT hp t x q
    · rw [q]; exact ⟨Int.emod_nonneg _ (by omega), Int.emod_lt_of_pos _ (by omega)⟩
theorem wf_kerM {p : Int} (hp : 1 < p) {M : Mx} {n : Nat} : WF p n (kerM p M n) := fun r hr => by
  obtain ⟨f, _, rfl⟩ := List.mem_map.mp hr
  exact ⟨len_vecT _, wf_vecT hp _⟩
theorem S_at {S : List Nat} {t : Nat} (h : t < S.length) : S[t]? = some (S.getD t 0) := by rw [getD_lt h, List.getElem?_eq_getElem h]
theorem vec_kil {p : Int} {n : Nat} {s : Sta} {f : Nat} (g : Good p n n s) (hf : f < n) (hS : f ∉ s.S) : Kil p n s.R (vecT p s.R s.S n f s.d) := by
  have inj : ∀ a b, a < s.d → b < s.d → s.S.getD a 0 = s.S.getD b 0 → a = b := fun a b ha hb e => by
    have dl := g.dl
    have h1 := S_at (S := s.S) (t := a) (by omega)
    have h2 := S_at (S := s.S) (t := b) (by omega)
    have q1 := g.one a _ h1 a (by have := g.dr; omega)
    have q2 := g.one b _ h2 a (by have := g.dr; omega)
    rw [← e, q1, if_pos rfl] at q2
    by_cases z : a = b
    · exact z
    · rw [if_neg z] at q2; cases q2
  have nf : ∀ a, a < s.d → s.S.getD a 0 ≠ f := fun a ha e => hS (by rw [← e]; exact List.mem_of_getElem? (S_at (by have := g.dl; omega)))
  have Sn : ∀ a, a < s.d → s.S.getD a 0 < n := fun a ha => g.lt _ (List.mem_of_getElem? (S_at (by have := g.dl; omega)))
  -- the places that are still nought
  have z : ∀ t, t ≤ s.d → ∀ a, t ≤ a → a < s.d → nth (vecT p s.R s.S n f t) (s.S.getD a 0) = 0 := by
    intro t
    induction t with
    | zero =>
      intro _ a _ ha
      show nth ((List.replicate n (0 : Int)).set f 1) _ = 0
      rw [nth_set (by simpa using hf), if_neg (nf a ha)]
      unfold nth
      rw [List.getD_eq_getElem?_getD, List.getElem?_replicate]
      split <;> rfl
    | succ t ih =>
      intro ht a h1 h2
      show nth ((vecT p s.R s.S n f t).set _ _) _ = 0
      rw [nth_set (by rw [len_vecT]; exact Sn t (by omega)), if_neg (fun e => by have := inj a t h2 (by omega) e; omega)]
      exact ih (by omega) a (by omega) h2
  have main : ∀ i, i < s.R.length → ∀ t, t ≤ s.d → dot n (row s.R i) (vecT p s.R s.S n f t) = ent s.R i f + if i < t then -(ent s.R i f) % p else 0 := by
    intro i hi t
    induction t with
    | zero =>
      intro _
      rw [if_neg (Nat.not_lt_zero _), Int.add_zero]
      have e0 : dot n (row s.R i) (List.replicate n (0 : Int)) = 0 := sumTo_zero fun k hk => by
        have : nth (List.replicate n (0 : Int)) k = 0 := by
          unfold nth
          rw [List.getD_eq_getElem?_getD, List.getElem?_replicate]
          split <;> rfl
        rw [this, Int.mul_zero]
      have e1 : dot n (row s.R i) ((List.replicate n (0 : Int)).set f 1) = _ := sumTo_upd (f := fun k => nth (row s.R i) k * nth (List.replicate n (0 : Int)) k) (i := f) (fun k hk hne => by
        show nth (row s.R i) k * nth ((List.replicate n (0 : Int)).set f 1) k = _
        rw [nth_set (by simpa using hf), if_neg hne]) hf
      show dot n (row s.R i) ((List.replicate n (0 : Int)).set f 1) = _
      rw [e1]
      show dot n (row s.R i) (List.replicate n (0 : Int)) + (nth (row s.R i) f * nth ((List.replicate n (0 : Int)).set f 1) f - nth (row s.R i) f * nth (List.replicate n (0 : Int)) f) = _
      have : nth (List.replicate n (0 : Int)) f = 0 := by
        unfold nth
        rw [List.getD_eq_getElem?_getD, List.getElem?_replicate]
        split <;> rfl
      rw [e0, nth_set (by simpa using hf), if_pos rfl, this]
      unfold ent
      omega
    | succ t ih =>
      intro ht
      have h0 := ih (by omega)
      have hS := S_at (S := s.S) (t := t) (by have := g.dl; omega)
      have e1 : dot n (row s.R i) ((vecT p s.R s.S n f t).set (s.S.getD t 0) (-(ent s.R t f) % p)) = _ := sumTo_upd (f := fun k => nth (row s.R i) k * nth (vecT p s.R s.S n f t) k) (i := s.S.getD t 0) (fun k hk hne => by
        show nth (row s.R i) k * nth ((vecT p s.R s.S n f t).set _ _) k = _
        rw [nth_set (by rw [len_vecT]; exact Sn t (by omega)), if_neg hne]) (Sn t (by omega))
      show dot n (row s.R i) ((vecT p s.R s.S n f t).set (s.S.getD t 0) (-(ent s.R t f) % p)) = _
      rw [e1]
      show dot n (row s.R i) (vecT p s.R s.S n f t) + (ent s.R i (s.S.getD t 0) * nth ((vecT p s.R s.S n f t).set _ _) (s.S.getD t 0) - ent s.R i (s.S.getD t 0) * nth (vecT p s.R s.S n f t) (s.S.getD t 0)) = _
      rw [h0, nth_set (by rw [len_vecT]; exact Sn t (by omega)), if_pos rfl, z t (by omega) t (Nat.le_refl _) (by omega), g.one t _ hS i hi]
      by_cases e : i = t
      · subst e
        rw [if_pos rfl, if_neg (Nat.lt_irrefl _), if_pos (Nat.lt_succ_self _)]; omega
      · rw [if_neg e]
        by_cases c : i < t
        · rw [if_pos c, if_pos (by omega)]; omega
        · rw [if_neg c, if_neg (by omega)]; omega
  intro i hi
  rw [main i hi s.d (Nat.le_refl _)]
  by_cases c : i < s.d
  · rw [if_pos c]
    have := near_mod (p := p) (x := -(ent s.R i f))
    rw [show ent s.R i f + -(ent s.R i f) % p = -(ent s.R i f) % p - -(ent s.R i f) by omega]
    exact this
  · rw [if_neg c, g.low i (by omega) hi f hf]
    exact Int.dvd_zero p
/-- the kernel's rows are made nought by the matrix -/
theorem ker_kil {p : Int} {n : Nat} {M : Mx} (hp : 1 < p) (hI : HasInv p) (w : WF p n M) {v m : Ro} (hv : v ∈ ker p M n) (hm : m ∈ M) : p ∣ dot n m v := by
  obtain ⟨j, hj, ej⟩ := mem_row hm
  have h1 : Kil p n (kerM p M n) m := fun i hi => by
    obtain ⟨f, hf, e⟩ := List.mem_map.mp (row_mem hi)
    have e : _ = row (kerM p M n) i := e
    rw [← e, dot_comm, ← ej]
    obtain ⟨f1, f2⟩ := List.mem_filter.mp hf
    exact (kil_red hp hI w n).mp (vec_kil (good_red hp hI w n) (List.mem_range.mp f1) (by simpa using f2)) j hj
  have h2 := (kil_red hp hI (wf_kerM hp (M := M)) n).mpr h1
  obtain ⟨i, hi, ei⟩ := mem_row (List.mem_of_mem_take hv)
  rw [← ei, dot_comm]
  exact h2 i hi
end Own


namespace Own
open PySem PySem.Spec PyProof.Rows L2
open Evl
/-! ### a list or a tuple, whatever it is -/
def SqA (K : PySem.W.Frag) (H : Hp) (a : Addr) (xs : List V) : Prop := SqL K H a xs ∨ SqT K H a xs
def iSeq (K : PySem.W.Frag) (te : TE) : TI := fun σ H R => iList K te σ H R ∨ iTup K te σ H R
theorem pi_seq {X : Cx} {tg e : Expr} {te : TE} (h : PE X e te) : PI X tg e (iSeq X.K te) := ⟨fun pins s σ H R I w => by
  rcases w with w | w
  · exact (pi_list h).run pins s σ H R I w
  · exact (pi_tup h).run pins s σ H R I w⟩
end Own
namespace Own
open PySem PySem.Spec PyProof.Rows L2
open Evl
section
variable {K : PySem.W.Frag} {σ : L2.St} {H H' : Hp} {te ta tb : TE} {x y z w : V} {D : Ends} {tz tu t : TS}
theorem s_par {i j : Nat} {ta : TA} (h : EvA ta σ H [x, y]) (k : ∀ H1, Ex H H1 → D.nx ((σ.set i (some x)).set j (some y)) H1) : tPar i j ta D σ H :=
  h H (.refl H) _ fun H1 e => ⟨x, y, rfl, k H1 e⟩
theorem q_par {i j : Nat} {ta : TA} (h : EvA ta σ H [x, y]) (k : ∀ H1, Ex H H1 → tz D ((σ.set i (some x)).set j (some y)) H1) : tSeq (tPar i j ta) tz D σ H := s_par (D := { D with nx := tz D }) h k
/-- a, b, c, d = .. -/
theorem s_tup4 {i j l m : Nat} {ta : TA} (h : EvA ta σ H [x, y, z, w]) (k : ∀ H1, Ex H H1 → D.nx ((((σ.set i (some x)).set j (some y)).set l (some z)).set m (some w)) H1) :
    tAsg (tTup ta) (gTup K 4 (gCons (gName i) (gCons (gName j) (gCons (gName l) (gCons (gName m) gNil))))) D σ H :=
  h H (.refl H) _ fun H1 e => ⟨by show 4 ≤ sizeLine; decide, fun p np => ⟨p, _, rfl, st_of upd_same, rfl, x, _, rfl, y, _, rfl, z, _, rfl, w, _, rfl, rfl, k _ (e.trans (Ex.new np))⟩⟩
theorem q_tup4 {i j l m : Nat} {ta : TA} (h : EvA ta σ H [x, y, z, w]) (k : ∀ H1, Ex H H1 → tz D ((((σ.set i (some x)).set j (some y)).set l (some z)).set m (some w)) H1) :
    tSeq (tAsg (tTup ta) (gTup K 4 (gCons (gName i) (gCons (gName j) (gCons (gName l) (gCons (gName m) gNil)))))) tz D σ H := s_tup4 (D := { D with nx := tz D }) h k
theorem ea_4 {tc td : TE} (h : Ev ta σ H x) (h2 : Ev tb σ H y) (h3 : Ev tc σ H z) (h4 : Ev td σ H w) : EvA (tCons ta (tCons tb (tCons tc (tCons td tNil)))) σ H [x, y, z, w] := ea_cons h (ea_3 h2 h3 h4)
theorem ev_gtV {i j : Int} (ha : Ev ta σ H (.int i)) (hb : Ev tb σ H (.int j)) : Ev (tOp rGtI ta tb) σ H (.bl (decide (j < i))) := ev_op ha hb rv_I0
/-- a, b = .. by a tuple -/
theorem s_tup2 {i j : Nat} {ta : TA} (h : EvA ta σ H [x, y]) (k : ∀ H1, Ex H H1 → D.nx ((σ.set i (some x)).set j (some y)) H1) : tAsg (tTup ta) (gTup K 2 (gCons (gName i) (gCons (gName j) gNil))) D σ H :=
  h H (.refl H) _ fun H1 e => ⟨by show 2 ≤ sizeLine; decide, fun p np => ⟨p, _, rfl, st_of upd_same, rfl, x, _, rfl, y, _, rfl, rfl, k _ (e.trans (Ex.new np))⟩⟩
theorem q_tup2 {i j : Nat} {ta : TA} (h : EvA ta σ H [x, y]) (k : ∀ H1, Ex H H1 → tz D ((σ.set i (some x)).set j (some y)) H1) : tSeq (tAsg (tTup ta) (gTup K 2 (gCons (gName i) (gCons (gName j) gNil)))) tz D σ H := s_tup2 (D := { D with nx := tz D }) h k
theorem ints_at {r : Ro} {i : Nat} (h : i < r.length) : (r.map V.int)[i]? = some (.int (nth r i)) := by
  unfold nth
  rw [getD_lt h, List.getElem?_map, List.getElem?_eq_getElem h]
  rfl
theorem ints_atI {r : Ro} {i : Nat} (h : i < r.length) : atI (r.map V.int) (i : Int) = some (.int (nth r i)) := atI_nat (ints_at h)
theorem row_range {r : Ro} {n : Nat} {f : Nat → Int} (hl : r.length = n) (h : ∀ i, i < n → f i = nth r i) : (List.range n).map (fun i => V.int (f i)) = r.map V.int := by
  apply List.ext_getElem?
  intro i
  by_cases c : i < n
  · rw [ints_at (by omega), List.getElem?_map, List.getElem?_range c]
    show some (V.int (f i)) = _
    rw [h i c]
  · rw [List.getElem?_eq_none (by simp; omega), List.getElem?_eq_none (by simp; omega)]
end
end Own


set_option maxHeartbeats 1000000
namespace My
open PySem PySem.Spec PyProof.Rows L2 Own
open Evl (Ex RetV)
section
variable {P : Program} {w : World} {K : PySem.W.Frag} {mg : Str → Option Value} {base : Heap}

open Evl
/-! ### the checks -/
def sp_number_within (T : Txt K mg) : Sp := fun vs H Q _ => ∃ k x d lo hi, vs = [x, .int lo, .int hi] ∧ Gd K H k x d ∧ RetV (.bl (within d lo hi)) H Q
theorem len_number_within (T : Txt K mg) {vs H Q E} (h : sp_number_within T vs H Q E) : vs.length = 3 := by obtain ⟨_, _, _, _, _, rfl, _⟩ := h; rfl
theorem v_number_within (T : Txt K mg) {H : Hp} {k : Nat} {x : V} {d : PyData} {lo hi : Int} (g : Gd K H k x d) : SpV (sp_number_within T) [x, .int lo, .int hi] H (.bl (within d lo hi)) := spv fun H1 e Q q E => ⟨k, x, d, lo, hi, rfl, g.ex e, q⟩
def t_number_within (T : Txt K mg) : TS := (tRet (tAndV (tCB (rIsi K) (tCons (tVar 0) (tCons (tC (.ty "int")) tNil))) (tAndV (tNotV (tCB (rIsi K) (tCons (tVar 0) (tCons (tC (.ty "bool")) tNil)))) (tChain rLeI rLeI (tVar 1) (tVar 0) (tVar 2)))))

theorem pure_number_within (T : Txt K mg) {vs H Q} {E : XK} (h : sp_number_within T vs H Q E) : t_number_within T { nx := fun _ H' => Q .non H', rt := Q } (L2.start n_number_within vs) H := by
  obtain ⟨k, x, d, lo, hi, rfl, g, q⟩ := h
  refine s_ret (v := .bl (within d lo hi)) ?_ fun H1 e => q H1 e
  have e0 : Ev (tVar 0) (L2.start n_number_within [x, .int lo, .int hi]) H x := ev_var rfl
  have e1 := ev_isI e0 g
  have e2 := ev_notV (ev_isB e0 g)
  cases d with
  | int i =>
    cases g.dp
    exact ev_is (ev_andV e1 fun _ => ev_andV e2 fun _ => ev_chain (ev_var rfl) e0 (ev_var rfl)) (by simp [isI, isB, within])
  | bool b => exact ev_is (ev_andV (b := false) e1 fun _ => ev_andV (b := false) e2 fun z => by simp [isB] at z) (by simp [isI, isB, within])
  | none => exact ev_is (ev_andV (b := false) e1 fun z => by simp [isI] at z) (by simp [isI, within])
  | str b => exact ev_is (ev_andV (b := false) e1 fun z => by simp [isI] at z) (by simp [isI, within])
  | tuple b => exact ev_is (ev_andV (b := false) e1 fun z => by simp [isI] at z) (by simp [isI, within])
  | list b => exact ev_is (ev_andV (b := false) e1 fun z => by simp [isI] at z) (by simp [isI, within])
  | dict b => exact ev_is (ev_andV (b := false) e1 fun z => by simp [isI] at z) (by simp [isI, within])
theorem ok_number_within (T : Txt K mg) : FnOk P w K mg base CX0 1 T.f_number_within T.fd_number_within ["thing", "low", "high"] (sp_number_within T) :=
  T.d_number_within.F.ok sc_number_within (fun vs H Q E h => len_number_within T h) fun cdv A outer s H vs Q E hr h => ⟨t_number_within T, by
    exact (pss_one (ps_ret (pe_and (pe_callB call_isi (by rfl) T.m_isinstance (by decide +kernel) (pa_cons (pv 0) (pa_cons (pe_bltn (v := .ty "int") (by rfl) T.m_int (by decide +kernel) rfl) pa_nil))) (pe_and (pe_not (pe_callB call_isi (by rfl) T.m_isinstance (by decide +kernel) (pa_cons (pv 0) (pa_cons (pe_bltn (v := .ty "bool") (by rfl) T.m_bool (by decide +kernel) rfl) pa_nil)))) (pe_one (pe_chain op_le op_le (pv 1) (pv 0) (pv 2))))))), pure_number_within T h⟩


def primeD (d : PyData) : Bool := match d with
  | .int p => decide (2 ≤ p) && decide (p ≤ 1000003) && noDiv p
  | _ => false
def sp_is_prime (T : Txt K mg) : Sp := fun vs H Q _ => ∃ k x d, vs = [x] ∧ Gd K H k x d ∧ RetV (.bl (primeD d)) H Q
theorem len_is_prime (T : Txt K mg) {vs H Q E} (h : sp_is_prime T vs H Q E) : vs.length = 1 := by obtain ⟨_, _, _, rfl, _⟩ := h; rfl
theorem v_is_prime (T : Txt K mg) {H : Hp} {k : Nat} {x : V} {d : PyData} (g : Gd K H k x d) : SpV (sp_is_prime T) [x] H (.bl (primeD d)) := spv fun H1 e Q q E => ⟨k, x, d, rfl, g.ex e, q⟩
def t_is_prime (T : Txt K mg) : TS := (tSeq (tIfS (tNot (tB (tCall (sp_number_within T) [] E0 (tCons (tVar 0) (tCons (tC (.int 2)) (tCons (tC (.int 1000003)) tNil)))))) (tRet (tC (.bl false))) tNext) (tSeq (tIfS (tTest (tOp rLtI (tVar 0) (tC (.int 4)))) (tRet (tC (.bl true))) tNext) (tSeq (tIfS (tTest (tOp rEq (tOp rModI (tVar 0) (tC (.int 2))) (tC (.int 0)))) (tRet (tC (.bl false))) tNext) (tSeq (tAsg (tC (.int 3)) (gName 1)) (tSeq (tWhile (tTest (tOp rLeI (tOp rMulI (tVar 1) (tVar 1)) (tVar 0))) (tSeq (tIfS (tTest (tOp rEq (tOp rModI (tVar 0) (tVar 1)) (tC (.int 0)))) (tRet (tC (.bl false))) tNext) (tAug 1 (tC (.int 2)) (ipI fun i j => i + j)))) (tRet (tC (.bl true))))))))

theorem within_int {d : PyData} {lo hi : Int} (h : within d lo hi = true) : ∃ i, d = .int i ∧ lo ≤ i ∧ i ≤ hi := by
  cases d <;> simp [within] at h
  exact ⟨_, rfl, h.1, h.2⟩
theorem pure_is_prime (T : Txt K mg) {vs H Q} {E : XK} (h : sp_is_prime T vs H Q E) : t_is_prime T { nx := fun _ H' => Q .non H', rt := Q } (L2.start n_is_prime vs) H := by
  obtain ⟨k, x, d, rfl, g, q⟩ := h
  -- if not number_within(p, 2, GREATEST_PRIME)
  refine q_when (et_not (et_B (ev_call (ea_3 (ev_var rfl) ev_c ev_c) (v_number_within T g)))) (fun c H1 e1 => ?_) (fun c H1 e1 => ?_)
  · refine s_ret ev_c fun H2 e2 => ?_
    have z : primeD d = false := by
      have c' : within d 2 1000003 = false := by simpa using c
      cases d <;> simp [primeD, within] at c' ⊢
      intro h1 h2
      exact absurd h2 (by have := c' h1; omega)
    rw [← z]
    exact q H2 (e1.trans e2)
  · obtain ⟨p, rfl, h2, h3⟩ := within_int (by simpa using c : within d 2 1000003 = true)
    have g1 := g.ex e1
    cases g.dp
    have P : primeD (.int p) = noDiv p := by simp [primeD, h2, h3]
    rw [P] at q
    have q1 := fun H2 (e : Ex H1 H2) => q H2 (e1.trans e)
    -- if p < 4
    refine q_when (ev_ltI (ev_var rfl) ev_c) (fun c H2 e2 => ?_) (fun c H2 e2 => ?_)
    · refine s_ret ev_c fun H3 e3 => ?_
      rw [← noDiv_small h2 (of_decide_eq_true c)]
      exact q1 H3 (e2.trans e3)
    · have h4 : 4 ≤ p := by have := of_decide_eq_false c; omega
      -- if p % 2 == 0
      refine q_when (et_eqI (ev_modI (ev_var rfl) ev_c (by decide)) ev_c) (fun c H3 e3 => ?_) (fun c H3 e3 => ?_)
      · refine s_ret ev_c fun H4 e4 => ?_
        rw [← noDiv_even h4 h3 (of_decide_eq_true c)]
        exact q1 H4 ((e2.trans e3).trans e4)
      · have odd : p % 2 ≠ 0 := of_decide_eq_false c
        -- divisor = 3
        refine q_asg ev_c fun H4 e4 => ?_
        have E4 := (e2.trans e3).trans e4
        refine q_while (fun m σ' H' => ∃ v : Int, σ' = [some (.int p), some (.int v)] ∧ Sought p v ∧ v ≤ 1003 ∧ m = (1100 - v).toNat ∧ Ex H1 H') (1100 - 3 : Int).toNat ⟨3, rfl, Sought.start odd, by omega, rfl, E4⟩ ?_
        rintro m σ' H' ⟨v, rfl, s, hv, rfl, e'⟩
        have s3 := s.2.1
        refine ⟨_, ev_leI (ev_mulI (ev_var rfl) (ev_var rfl) (.inl ⟨by omega, by omega⟩)) (ev_var rfl), fun c H5 e5 => ?_, fun c H5 e5 => ?_⟩
        · have le := of_decide_eq_true c
          have small := s.small h3 le
          refine ⟨fun σ' H' => ∃ v' : Int, v' = v + 2 ∧ σ' = [some (.int p), some (.int v')] ∧ Sought p v' ∧ Ex H1 H', ?_, ?_⟩
          · rintro σ2 H2' ⟨v', rfl, rfl, s', e''⟩
            exact ⟨(1100 - (v + 2)).toNat, by omega, v + 2, rfl, s', by omega, rfl, e''⟩
          · refine q_when (et_eqI (ev_modI (ev_var rfl) (ev_var rfl) (by omega)) ev_c) (fun c H6 e6 => ?_) (fun c H6 e6 => ?_)
            · refine s_ret ev_c fun H7 e7 => ?_
              rw [← noDiv_found h3 (by omega) le (of_decide_eq_true c)]
              exact q1 H7 (((e'.trans e5).trans e6).trans e7)
            · exact ⟨_, rfl, v, 2, rfl, rfl, v + 2, rfl, rfl, s.next odd (of_decide_eq_false c), (e'.trans e5).trans e6⟩
        · refine s_ret ev_c fun H6 e6 => ?_
          rw [← s.done h3 (of_decide_eq_false c)]
          exact q1 H6 ((e'.trans e5).trans e6)
theorem ok_is_prime (T : Txt K mg) : FnOk P w K mg base CX0 2 T.f_is_prime T.fd_is_prime ["p"] (sp_is_prime T) :=
  T.d_is_prime.F.ok sc_is_prime (fun vs H Q E h => len_is_prime T h) fun cdv A outer s H vs Q E hr h => ⟨t_is_prime T, by
    exact (pss_cons (ps_if (pt_not (pt_val (pe_call (ok_number_within T) (hr.mono (by decide)) (by rfl) T.d_number_within.g T.d_number_within.F.kp T.d_number_within.b .nil pass0 (pa_cons (pv 0) (pa_cons pe_int (pa_cons (pe_glob (v := .int 1000003) (by rfl) T.v_GREATEST_PRIME ⟨_, rfl⟩) pa_nil)))))) (pss_one (ps_ret pe_bl)) pss_nil) (pss_cons (ps_if (pt_cmpR op_lt (pv 0) pe_int (nomark _)) (pss_one (ps_ret pe_bl)) pss_nil) (pss_cons (ps_if (pt_cmpR op_eq (pe_op op_mod (pv 0) pe_int) pe_int (nomark _)) (pss_one (ps_ret pe_bl)) pss_nil) (pss_cons (ps_set (i := 1) sc_is_prime.nd rfl (Or.inl rfl) pe_int) (pss_cons (ps_while PassesOwn.never (pt_cmpR op_le (pe_op op_mul (pv 1) (pv 1)) (pv 0) (nomark _)) (pss_cons (ps_if (pt_cmpR op_eq (pe_op op_mod (pv 0) (pv 1)) pe_int (nomark _)) (pss_one (ps_ret pe_bl)) pss_nil) (pss_one (ps_aug (i := 1) sc_is_prime.nd rfl (Or.inl rfl) pe_int ip_add)))) (pss_one (ps_ret pe_bl))))))), pure_is_prime T h⟩


abbrev sp_law_take (T : Txt K mg) : Sp := spTake
abbrev sp_law_one (T : Txt K mg) : Sp := spOne K
abbrev sp_law_pool (T : Txt K mg) : Sp := spPool K
theorem len_law_take (T : Txt K mg) {vs H Q E} (h : sp_law_take T vs H Q E) : vs.length = 2 := by obtain ⟨_, _, rfl, _⟩ := h; rfl
theorem len_law_one (T : Txt K mg) {vs H Q E} (h : sp_law_one T vs H Q E) : vs.length = 2 := by obtain ⟨_, _, _, rfl, _⟩ := h; rfl
theorem len_law_pool (T : Txt K mg) {vs H Q E} (h : sp_law_pool T vs H Q E) : vs.length = 2 := by obtain ⟨_, _, _, rfl, _⟩ := h; rfl
def t_law_take (T : Txt K mg) : TS := (tSeq (tIfS (tTest (tOp rGtI (tOp (rIxL K) (tVar 0) (tC (.int 0))) (tC (.int 0)))) (tSeq (tAsg (tOp rModI (tCB rInt1 (tCons (tOp (rIxL K) (tVar 0) (tC (.int 0))) tNil)) (tVar 1)) (gName 2)) (tSeq (tAsg (tOp rDivI (tOp (rIxL K) (tVar 0) (tC (.int 0))) (tVar 1)) (gSub (tVar 0) (tC (.int 0)) rSetL)) (tRet (tVar 2)))) tNext) (tSeq (tAsg (tOp rModI (tCB rInt1 (tCons (tOp rAddI (tOp rMulI (tOp (rIxL K) (tVar 0) (tC (.int 1))) (tC (.int 39373))) (tC (.int 7))) tNil)) (tC (.int 2147483647))) (gSub (tVar 0) (tC (.int 1)) rSetL)) (tRet (tOp rModI (tCB rInt1 (tCons (tOp rDivI (tOp rModI (tCB rInt1 (tCons (tOp rMulI (tOp (rIxL K) (tVar 0) (tC (.int 1))) (tOp (rIxL K) (tVar 0) (tC (.int 1)))) tNil)) (tC (.int 2147483629))) (tC (.int 32))) tNil)) (tVar 1)))))

theorem up_set {a : Addr} {H H1 : Hp} {big mixed : Int} (e : Ex H H1) (h1 : 0 ≤ big) (h2 : 0 ≤ mixed) (h3 : mixed < 2147483647) : Up a H (upd H1 a (.lst [.int big, .int mixed])) :=
  ⟨fun b o nb hb => by rw [upd_ne nb]; exact e b o hb, big, mixed, upd_same, h1, h2, h3⟩
theorem pure_law_take (T : Txt K mg) {vs H Q} {E : XK} (h : sp_law_take T vs H Q E) : t_law_take T { nx := fun _ H' => Q .non H', rt := Q } (L2.start n_law_take vs) H := by
  obtain ⟨a, top, rfl, ⟨big, mixed, hs, hb, hm, hm2⟩, h0, h1, q⟩ := h
  have at0 : ∀ H1, Ex H H1 → ∀ (σ : L2.St), σ[0]? = some (some (.ref a)) → Ev (tOp (rIxL K) (tVar 0) (tC (.int 0))) σ H1 (.int big) := fun H1 e σ e0 => ev_ixL (ev_var e0) ev_c (sq_of (e a _ hs)) (atI_nat (j := 0) rfl)
  have at1 : ∀ H1, Ex H H1 → ∀ (σ : L2.St), σ[0]? = some (some (.ref a)) → Ev (tOp (rIxL K) (tVar 0) (tC (.int 1))) σ H1 (.int mixed) := fun H1 e σ e0 => ev_ixL (ev_var e0) ev_c (sq_of (e a _ hs)) (atI_nat (j := 1) rfl)
  refine q_when (ev_gtI (at0 H (Ex.refl H) _ rfl) ev_c) (fun c H1 e1 => ?_) (fun c H1 e1 => ?_)
  · refine q_asg (ev_modI (ev_int1 (at0 H1 e1 _ rfl)) (ev_var rfl) h0) fun H2 e2 => ?_
    have E2 := e1.trans e2
    refine q_setL (j := 0) (E2 a _ hs) (ev_divI (at0 H2 E2 _ rfl) (ev_var rfl) ⟨h0, h1⟩) (ev_var rfl) ev_c (by show 0 < 2; decide) fun H3 e3 => ?_
    refine s_ret (ev_var rfl) fun H4 e4 => ?_
    have m0 := Int.emod_nonneg big (show top ≠ 0 by omega)
    have m1 := Int.emod_lt_of_pos big h0
    have d0 : 0 ≤ big / top := Int.ediv_nonneg hb (by omega)
    have u := up_set (a := a) (E2.trans e3) d0 hm hm2
    exact q _ _ m0 m1 (u.trans (.ex e4 u.src))
  · have b0 : big = 0 := by have := of_decide_eq_false c; omega
    have r0 : 0 ≤ (mixed * 39373 + 7) % 2147483647 := Int.emod_nonneg _ (by decide)
    have r1 : (mixed * 39373 + 7) % 2147483647 < 2147483647 := Int.emod_lt_of_pos _ (by decide)
    refine q_setL (j := 1) (e1 a _ hs) (ev_modI (ev_int1 (ev_addI (ev_mulI (at1 H1 e1 _ rfl) ev_c (.inr ⟨by decide, by decide⟩)) ev_c)) ev_c (by decide)) (ev_var rfl) ev_c (by show 1 < 2; decide) fun H3 e3 => ?_
    have u := up_set (a := a) (e1.trans e3) hb r0 r1
    have a1 : ∀ (σ : L2.St), σ[0]? = some (some (.ref a)) → Ev (tOp (rIxL K) (tVar 0) (tC (.int 1))) σ (upd H3 a (.lst [.int big, .int ((mixed * 39373 + 7) % 2147483647)])) (.int ((mixed * 39373 + 7) % 2147483647)) :=
      fun σ e0 => ev_ixL (ev_var e0) ev_c (sq_of upd_same) (atI_nat (j := 1) rfl)
    refine s_ret (ev_modI (ev_int1 (ev_divI (ev_modI (ev_int1 (ev_mulI (a1 _ rfl) (a1 _ rfl) (.inl ⟨by omega, by omega⟩))) ev_c (by decide)) ev_c ⟨by decide, by decide⟩)) (ev_var rfl) h0) fun H4 e4 => ?_
    exact q _ _ (Int.emod_nonneg _ (by omega)) (Int.emod_lt_of_pos _ h0) (u.trans (.ex e4 u.src))
theorem ok_law_take (T : Txt K mg) : FnOk P w K mg base CX0 1 T.f_law_take T.fd_law_take ["source", "top"] (sp_law_take T) :=
  T.d_law_take.F.ok sc_law_take (fun vs H Q E h => len_law_take T h) fun cdv A outer s H vs Q E hr h => ⟨t_law_take T, by
    exact (pss_cons (ps_if (pt_cmpR op_gt (pe_ix ix_list (pv 0) pe_int (fun _ _ => rfl)) pe_int (nomark _)) (pss_cons (ps_set (i := 2) sc_law_take.nd rfl (Or.inl rfl) (pe_op op_mod (pe_callTy call_int1 (by rfl) T.m_int (by decide +kernel) (pa_cons (pe_ix ix_list (pv 0) pe_int (fun _ _ => rfl)) pa_nil)) (pv 1))) (pss_cons (ps_asg (pe_op op_fdiv (pe_ix ix_list (pv 0) pe_int (fun _ _ => rfl)) (pv 1)) (pg_sub (pv 0) pe_int set_list)) (pss_one (ps_ret (pv 2))))) pss_nil) (pss_cons (ps_asg (pe_op op_mod (pe_callTy call_int1 (by rfl) T.m_int (by decide +kernel) (pa_cons (pe_op op_add (pe_op op_mul (pe_ix ix_list (pv 0) pe_int (fun _ _ => rfl)) pe_int) pe_int) pa_nil)) pe_int) (pg_sub (pv 0) pe_int set_list)) (pss_one (ps_ret (pe_op op_mod (pe_callTy call_int1 (by rfl) T.m_int (by decide +kernel) (pa_cons (pe_op op_fdiv (pe_op op_mod (pe_callTy call_int1 (by rfl) T.m_int (by decide +kernel) (pa_cons (pe_op op_mul (pe_ix ix_list (pv 0) pe_int (fun _ _ => rfl)) (pe_ix ix_list (pv 0) pe_int (fun _ _ => rfl))) pa_nil)) pe_int) pe_int) pa_nil)) (pv 1)))))), pure_law_take T h⟩

def t_law_one (T : Txt K mg) : TS := (tRet (tOp (rIxL K) (tVar 1) (tCall (sp_law_take T) [] E0 (tCons (tVar 0) (tCons (tCB (rLenV K) (tCons (tVar 1) tNil)) tNil)))))

theorem pure_law_one (T : Txt K mg) {vs H Q} {E : XK} (h : sp_law_one T vs H Q E) : t_law_one T { nx := fun _ H' => Q .non H', rt := Q } (L2.start n_law_one vs) H := by
  obtain ⟨a, b, xs, rfl, nb, s, hx, ne, hl, q⟩ := h
  have h0 : 0 < xs.length := List.length_pos_iff.mpr ne
  refine ⟨_, rfl, _, rfl, _, rfl, _, _, rfl, .inl ⟨xs, hx, rfl⟩, ?_⟩
  refine ⟨a, xs.length, rfl, s, by omega, by omega, fun r H' r0 r1 u => ?_⟩
  have hr : r.toNat < xs.length := by omega
  have er : (r.toNat : Int) = r := by omega
  have hx' : SqL K H' b xs := by
    rcases hx with (z | ⟨o, z⟩) | z
    · exact .inl (.inl (u.keep b _ nb z))
    · exact .inl (.inr ⟨o, u.keep b _ nb z⟩)
    · exact .inr z
  refine ⟨b, xs, r, xs[r.toNat], rfl, rfl, hx', ?_, q _ (List.getElem_mem hr) H' u⟩
  exact at_of er.symm (List.getElem?_eq_getElem hr)
theorem ok_law_one (T : Txt K mg) : FnOk P w K mg base CX0 2 T.f_law_one T.fd_law_one ["source", "things"] (sp_law_one T) :=
  T.d_law_one.F.ok sc_law_one (fun vs H Q E h => len_law_one T h) fun cdv A outer s H vs Q E hr h => ⟨t_law_one T, by
    exact (pss_one (ps_ret (pe_ix ix_list (pv 1) (pe_call (ok_law_take T) (hr.mono (by decide)) (by rfl) T.d_law_take.g T.d_law_take.F.kp T.d_law_take.b .nil pass0 (pa_cons (pv 0) (pa_cons (pe_callB call_len (by rfl) T.m_len (by decide +kernel) (pa_cons (pv 1) pa_nil)) pa_nil))) (fun _ _ => rfl)))), pure_law_one T h⟩

def t_law_pool (T : Txt K mg) : TS := (tSeq (tAsg (tC (.int 0)) (gName 2)) (tSeq (tIfS (tTest (tOp rLtI (tVar 1) (tCB (rLenV K) (tCons (tVar 0) tNil)))) (tAsg (tOp (rIxL K) (tVar 0) (tVar 1)) (gName 2)) (tIfS (tTest (tOp (rNeD K) (tVar 0) (tLst tNil))) (tAsg (tOp (rIxL K) (tVar 0) (tC (.int 0))) (gName 2)) tNext)) (tSeq (tAsg (tCB Own.rMax2 (tCons (tCB rInt1 (tCons (tVar 2) tNil)) (tCons (tCB rInt1 (tCons (tOp rSubI (tUn rNegI (tC (.int 1))) (tVar 2)) tNil)) tNil))) (gName 3)) (tSeq (tAsg (tOp rModI (tCB rInt1 (tCons (tOp rMulI (tOp rAddI (tOp rAddI (tOp rAddI (tOp rModI (tCB rInt1 (tCons (tVar 3) tNil)) (tC (.int 2147483629))) (tOp rMulI (tOp rMulI (tC (.int 7919)) (tVar 1)) (tVar 1))) (tOp rMulI (tC (.int 31)) (tVar 1))) (tC (.int 17))) (tC (.int 48271))) tNil)) (tC (.int 2147483647))) (gName 4)) (tRet (tLst (tCons (tOp rMulI (tVar 3) (tCB rInt1 (tCons (tAndV (tOp rGeI (tVar 3) (tOp rPowI (tC (.int 10)) (tC (.int 18)))) (tOp rLtI (tVar 1) (tCB (rLenV K) (tCons (tVar 0) tNil)))) tNil))) (tCons (tVar 4) tNil))))))))

theorem pure_law_pool (T : Txt K mg) {vs H Q} {E : XK} (h : sp_law_pool T vs H Q E) : t_law_pool T { nx := fun _ H' => Q .non H', rt := Q } (L2.start n_law_pool vs) H := by
  obtain ⟨b, ns, k, rfl, hs, hl, k0, k1, q⟩ := h
  have len : ∀ H1, Ex H H1 → ∀ (σ : L2.St), σ[0]? = some (some (.ref b)) → Ev (tCB (rLenV K) (tCons (tVar 0) tNil)) σ H1 (.int (ns.length : Int)) := fun H1 e σ e0 => by
    have := ev_lenL (K := K) (ev_var e0) (ex_l e hs)
    rwa [List.length_map] at this
  refine q_asg ev_c fun H1 e1 => ?_
  refine q_split (fun σ' H' => ∃ c : Int, σ' = [some (.ref b), some (.int k), some (.int c), none, none] ∧ Ex H H') ?_ (fun R => ?_)
  · rintro σ' H2 ⟨c, rfl, e2⟩
    -- big
    refine q_asg (Own.ev_max2 (ev_int1 (ev_var rfl)) (ev_int1 (ev_subI (ev_negI ev_c) (ev_var rfl)))) fun H3 e3 => ?_
    generalize hbig : (if -1 - c > c then -1 - c else c) = big
    have b0 : 0 ≤ big := by rw [← hbig]; split <;> omega
    have m0 : 0 ≤ big % 2147483629 := Int.emod_nonneg _ (by decide)
    have m1 : big % 2147483629 < 2147483629 := Int.emod_lt_of_pos _ (by decide)
    -- mixed
    refine q_asg (ev_modI (ev_int1 (ev_mulI (ev_addI (ev_addI (ev_addI (ev_modI (ev_int1 (ev_var rfl)) ev_c (by decide)) (ev_mulI (ev_mulI ev_c (ev_var rfl) (.inl ⟨by decide, by decide⟩)) (ev_var rfl) (.inr ⟨by omega, by omega⟩)))
      (ev_mulI ev_c (ev_var rfl) (.inl ⟨by decide, by decide⟩))) ev_c) ev_c (.inr ⟨by decide, by decide⟩))) ev_c (by decide)) fun H4 e4 => ?_
    generalize hmix : ((big % 2147483629 + 7919 * k * k + 31 * k + 17) * 48271) % 2147483647 = mixed
    have x0 : 0 ≤ mixed := by rw [← hmix]; exact Int.emod_nonneg _ (by decide)
    have x1 : mixed < 2147483647 := by rw [← hmix]; exact Int.emod_lt_of_pos _ (by decide)
    have E4 := (e2.trans e3).trans e4
    refine s_retL (el_lst (ea_2 (ev_mulI (ev_var rfl) (ev_intB (ev_andV (ev_geV (ev_var rfl) (ev_powI ev_c ev_c ⟨by decide, by decide, by decide⟩)) fun _ => ev_ltV (ev_var rfl) (len H4 E4 _ rfl))) (.inr ?_)) (ev_var rfl)) (by show 2 ≤ 100000; decide)) fun p H5 hp e5 h5 => ?_
    · split <;> exact ⟨by decide, by decide⟩
    · refine q p H5 ?_ (E4.trans e5) ⟨_, mixed, h5, ?_, x0, x1⟩
      · exact fresh_back E4 hp
      · refine Int.mul_nonneg b0 ?_
        split <;> decide
  · refine s_if (ev_ltI (ev_var rfl) (len H1 e1 _ rfl)) ?_ ?_
    · intro c H2 e2
      have c := of_decide_eq_true c
      have hk : k.toNat < ns.length := by omega
      refine s_asg (v := .int ns[k.toNat]) (ev_ixL (ev_var rfl) (ev_var rfl) (ex_l (e1.trans e2) hs) ?_) fun H3 e3 => R _ _ ⟨_, rfl, (e1.trans e2).trans e3⟩
      refine at_of (j := k.toNat) (by omega) ?_
      rw [List.getElem?_map, List.getElem?_eq_getElem hk]
      rfl
    · intro c H2 e2
      refine s_when (et_neInts (ev_var rfl) (ex_l (e1.trans e2) hs)) (fun c H3 e3 => ?_) (fun c H3 e3 => R _ _ ⟨0, rfl, (e1.trans e2).trans e3⟩)
      cases hn : ns with
      | nil => rw [hn] at c; cases c
      | cons n r =>
        refine s_asg (v := .int n) (ev_ixL (ev_var rfl) ev_c (ex_l ((e1.trans e2).trans e3) hs) (atI_nat (j := 0) (by rw [hn]; rfl))) fun H4 e4 => R _ _ ⟨n, rfl, ((e1.trans e2).trans e3).trans e4⟩
theorem ok_law_pool (T : Txt K mg) : FnOk P w K mg base CX0 1 T.f_law_pool T.fd_law_pool ["script", "k"] (sp_law_pool T) :=
  T.d_law_pool.F.ok sc_law_pool (fun vs H Q E h => len_law_pool T h) fun cdv A outer s H vs Q E hr h => ⟨t_law_pool T, by
    exact (pss_cons (ps_set (i := 2) sc_law_pool.nd rfl (Or.inl rfl) pe_int) (pss_cons (ps_if (pt_cmpR op_lt (pv 1) (pe_callB call_len (by rfl) T.m_len (by decide +kernel) (pa_cons (pv 0) pa_nil)) (nomark _)) (pss_one (ps_set (i := 2) sc_law_pool.nd rfl (Or.inl rfl) (pe_ix ix_list (pv 0) (pv 1) (fun _ _ => rfl)))) (pss_one (ps_if (pt_cmpR (op_neD hr.units) (pv 0) (pe_lst pa_nil) (nomark _)) (pss_one (ps_set (i := 2) sc_law_pool.nd rfl (Or.inl rfl) (pe_ix ix_list (pv 0) pe_int (fun _ _ => rfl)))) pss_nil))) (pss_cons (ps_set (i := 3) sc_law_pool.nd rfl (Or.inl rfl) (pe_callB (call_max2 rfl) (by rfl) T.m_max (by decide +kernel) (pa_cons (pe_callTy call_int1 (by rfl) T.m_int (by decide +kernel) (pa_cons (pv 2) pa_nil)) (pa_cons (pe_callTy call_int1 (by rfl) T.m_int (by decide +kernel) (pa_cons (pe_op op_sub (pe_un un_neg pe_int) (pv 2)) pa_nil)) pa_nil)))) (pss_cons (ps_set (i := 4) sc_law_pool.nd rfl (Or.inl rfl) (pe_op op_mod (pe_callTy call_int1 (by rfl) T.m_int (by decide +kernel) (pa_cons (pe_op op_mul (pe_op op_add (pe_op op_add (pe_op op_add (pe_op op_mod (pe_callTy call_int1 (by rfl) T.m_int (by decide +kernel) (pa_cons (pv 3) pa_nil)) pe_int) (pe_op op_mul (pe_op op_mul pe_int (pv 1)) (pv 1))) (pe_op op_mul pe_int (pv 1))) pe_int) pe_int) pa_nil)) pe_int)) (pss_one (ps_ret (pe_lst (pa_cons (pe_op op_mul (pv 3) (pe_callTy call_int1 (by rfl) T.m_int (by decide +kernel) (pa_cons (pe_and (pe_cmpR op_ge (pv 3) (pe_op op_pow pe_int pe_int) (nomark _)) (pe_one (pe_cmpR op_lt (pv 1) (pe_callB call_len (by rfl) T.m_len (by decide +kernel) (pa_cons (pv 0) pa_nil)) (nomark _)))) pa_nil))) (pa_cons (pv 4) pa_nil))))))))), pure_law_pool T h⟩

end
end My


set_option maxHeartbeats 1000000
namespace My
open PySem PySem.Spec PyProof.Rows L2 Own
open Evl (Ex RetV)
section
variable {P : Program} {w : World} {K : PySem.W.Frag} {mg : Str → Option Value} {base : Heap}

open Evl
/-! ### numbers: inverses, primes, rows -/
def sp_inverse (T : Txt K mg) : Sp := fun vs H Q _ => ∃ a p, vs = [.int a, .int p] ∧ Prm p ∧ 0 < a ∧ a < p ∧ RetV (.int (inv p a)) H Q
def sp_law_own_inverse (T : Txt K mg) : Sp := sp_inverse T
theorem len_inverse (T : Txt K mg) {vs H Q E} (h : sp_inverse T vs H Q E) : vs.length = 2 := by obtain ⟨_, _, rfl, _⟩ := h; rfl
theorem len_law_own_inverse (T : Txt K mg) {vs H Q E} (h : sp_law_own_inverse T vs H Q E) : vs.length = 2 := len_inverse T h
theorem v_inverse (T : Txt K mg) {H : Hp} {a p : Int} (P : Prm p) (a0 : 0 < a) (a1 : a < p) : SpV (sp_inverse T) [.int a, .int p] H (.int (inv p a)) := spv fun H1 e Q q E => ⟨a, p, rfl, P, a0, a1, q⟩
def t_inverse (T : Txt K mg) : TS := (tSeq (tPar 2 3 (tCons (tVar 1) (tCons (tOp rModI (tVar 0) (tVar 1)) tNil))) (tSeq (tAsg (tTup (tCons (tC (.int 0)) (tCons (tC (.int 1)) tNil))) (gTup K 2 (gCons (gName 4) (gCons (gName 5) gNil)))) (tSeq (tWhile (tTest (tOp rGtI (tVar 3) (tC (.int 1)))) (tSeq (tAsg (tOp rDivI (tVar 2) (tVar 3)) (gName 6)) (tSeq (tPar 2 3 (tCons (tVar 3) (tCons (tOp rSubI (tVar 2) (tOp rMulI (tVar 6) (tVar 3))) tNil))) (tPar 4 5 (tCons (tVar 5) (tCons (tOp rSubI (tVar 4) (tOp rMulI (tVar 6) (tVar 5))) tNil)))))) (tRet (tOp rModI (tVar 5) (tVar 1))))))

theorem pure_inverse (T : Txt K mg) {vs H Q} {E : XK} (h : sp_inverse T vs H Q E) : t_inverse T { nx := fun _ H' => Q .non H', rt := Q } (L2.start n_inverse vs) H := by
  obtain ⟨a, p, rfl, P, a0, a1, q⟩ := h
  have p5 := P.1
  have p6 := P.2.1
  refine q_par (ea_2 (ev_var rfl) (ev_modI (ev_var rfl) (ev_var rfl) (by omega))) fun H1 e1 => ?_
  rw [Int.emod_eq_of_lt (by omega) a1]
  refine q_tup2 (ea_2 ev_c ev_c) fun H2 e2 => ?_
  refine q_while (fun m σ' H' => ∃ (high low above b : Int) (u : Option V), σ' = [some (.int a), some (.int p), some (.int high), some (.int low), some (.int above), some (.int b), u] ∧ Euc p a high low above b ∧ 0 < low ∧ m = low.toNat ∧ Ex H H') a.toNat
    ⟨p, a, 0, 1, none, rfl, Euc.start (by omega) a1, a0, rfl, e1.trans e2⟩ ?_
  rintro m σ' H' ⟨high, low, above, b, u, rfl, E, l0, rfl, e'⟩
  have hp := E.hp
  have h0 := E.h0
  have hlt := E.lt
  refine ⟨_, ev_gtI (ev_var rfl) ev_c, fun c H3 e3 => ?_, fun c H3 e3 => ?_⟩
  · have c1 := of_decide_eq_true c
    have S := E.step l0
    have ls := S.low P a0 a1 c1
    have t0 : 0 ≤ high / low := Int.ediv_nonneg (by omega) (by omega)
    have t1 : high / low ≤ high := Int.ediv_le_self _ (by omega)
    refine ⟨fun σ' H' => ∃ (high low2 above b : Int) (u : Option V), σ' = [some (.int a), some (.int p), some (.int high), some (.int low2), some (.int above), some (.int b), u] ∧ Euc p a high low2 above b ∧ 0 < low2 ∧ low2 < low ∧ Ex H H', ?_, ?_⟩
    · rintro σ2 H2' ⟨h', l', x', y', u', rfl, E', l0', lt', e''⟩
      exact ⟨l'.toNat, by omega, h', l', x', y', u', rfl, E', l0', rfl, e''⟩
    · refine q_asg (ev_divI (ev_var rfl) (ev_var rfl) ⟨l0, by omega⟩) fun H4 e4 => ?_
      refine q_par (ea_2 (ev_var rfl) (ev_subI (ev_var rfl) (ev_mulI (ev_var rfl) (ev_var rfl) (.inl ⟨by omega, by omega⟩)))) fun H5 e5 => ?_
      refine s_par (ea_2 (ev_var rfl) (ev_subI (ev_var rfl) (ev_mulI (ev_var rfl) (ev_var rfl) (.inl ⟨by omega, by omega⟩)))) fun H6 e6 => ?_
      exact ⟨_, _, _, _, _, rfl, S, ls, S.lt, (((e'.trans e3).trans e4).trans e5).trans e6⟩
  · have c1 := of_decide_eq_false c
    have z : low = 1 := by omega
    subst z
    refine s_ret (ev_modI (ev_var rfl) (ev_var rfl) (by omega)) fun H4 e4 => ?_
    rw [← inv_of (inv_mod (by omega) E.ne)]
    exact q H4 ((e'.trans e3).trans e4)
theorem ok_inverse (T : Txt K mg) : FnOk P w K mg base CX0 1 T.f_inverse T.fd_inverse ["a", "p"] (sp_inverse T) :=
  T.d_inverse.F.ok sc_inverse (fun vs H Q E h => len_inverse T h) fun cdv A outer s H vs Q E hr h => ⟨t_inverse T, by
    exact (pss_cons (ps_par (i := 2) (j := 3) rfl sc_inverse.nd rfl rfl (by decide) rfl rfl (pa_cons (pv 1) (pa_cons (pe_op op_mod (pv 0) (pv 1)) pa_nil)) (by rfl)) (pss_cons (ps_asg (pe_tup (pa_cons pe_int (pa_cons pe_int pa_nil))) (pg_tup rfl (pgs_cons (pg_name (i := 4) sc_inverse.nd rfl (Or.inl rfl)) (pgs_cons (pg_name (i := 5) sc_inverse.nd rfl (Or.inl rfl)) pgs_nil)))) (pss_cons (ps_while PassesOwn.never (pt_cmpR op_gt (pv 3) pe_int (nomark _)) (pss_cons (ps_set (i := 6) sc_inverse.nd rfl (Or.inl rfl) (pe_op op_fdiv (pv 2) (pv 3))) (pss_cons (ps_par (i := 2) (j := 3) rfl sc_inverse.nd rfl rfl (by decide) rfl rfl (pa_cons (pv 3) (pa_cons (pe_op op_sub (pv 2) (pe_op op_mul (pv 6) (pv 3))) pa_nil)) (by rfl)) (pss_one (ps_par (i := 4) (j := 5) rfl sc_inverse.nd rfl rfl (by decide) rfl rfl (pa_cons (pv 5) (pa_cons (pe_op op_sub (pv 4) (pe_op op_mul (pv 6) (pv 5))) pa_nil)) (by rfl)))))) (pss_one (ps_ret (pe_op op_mod (pv 5) (pv 1))))))), pure_inverse T h⟩

def t_law_own_inverse (T : Txt K mg) : TS := (tSeq (tAsg (tTup (tCons (tVar 1) (tCons (tOp rModI (tCB rInt1 (tCons (tVar 0) tNil)) (tVar 1)) (tCons (tC (.int 0)) (tCons (tC (.int 1)) tNil))))) (gTup K 4 (gCons (gName 2) (gCons (gName 3) (gCons (gName 4) (gCons (gName 5) gNil)))))) (tSeq (tFor (iRng1 (tCons (tC (.int 64)) tNil)) (gName 6) (tSeq (tIfS (tTest (tOp rEq (tVar 3) (tC (.int 0)))) tBreak tNext) (tSeq (tAsg (tOp rDivI (tVar 2) (tVar 3)) (gName 7)) (tAsg (tTup (tCons (tVar 3) (tCons (tOp rSubI (tVar 2) (tOp rMulI (tVar 7) (tVar 3))) (tCons (tVar 5) (tCons (tOp rSubI (tVar 4) (tOp rMulI (tVar 7) (tVar 5))) tNil))))) (gTup K 4 (gCons (gName 2) (gCons (gName 3) (gCons (gName 4) (gCons (gName 5) gNil))))))))) (tRet (tOp rModI (tCB rInt1 (tCons (tVar 4) tNil)) (tVar 1)))))

theorem pure_law_own_inverse (T : Txt K mg) {vs H Q} {E : XK} (h : sp_law_own_inverse T vs H Q E) : t_law_own_inverse T { nx := fun _ H' => Q .non H', rt := Q } (L2.start n_law_own_inverse vs) H := by
  obtain ⟨a, p, rfl, P, a0, a1, q⟩ := h
  have p5 := P.1
  have p6 := P.2.1
  refine q_tup4 (ea_4 (ev_var rfl) (ev_modI (ev_int1 (ev_var rfl)) (ev_var rfl) (by omega)) ev_c ev_c) fun H1 e1 => ?_
  rw [Int.emod_eq_of_lt (by omega) a1]
  have fin : ∀ σ' H', (∃ (high far near : Int) (u v : Option V), σ' = [some (.int a), some (.int p), some (.int high), some (.int 0), some (.int far), some (.int near), u, v] ∧ Euc p a high 0 far near ∧ Ex H H') →
      tRet (tOp rModI (tCB rInt1 (tCons (tVar 4) tNil)) (tVar 1)) { nx := fun _ H' => Q .non H', rt := Q } σ' H' := by
    rintro σ' H' ⟨high, far, near, u, v, rfl, E, e'⟩
    have o := E.one P a0 a1
    subst o
    refine s_ret (ev_modI (ev_int1 (ev_var rfl)) (ev_var rfl) (by omega)) fun H4 e4 => ?_
    rw [← inv_of (inv_mod (by omega) E.fa)]
    exact q H4 (e'.trans e4)
  refine q_forR1 (ea_1 ev_c) (by decide) (fun i σ' H' => ∃ (high low far near : Int) (u v : Option V), σ' = [some (.int a), some (.int p), some (.int high), some (.int low), some (.int far), some (.int near), u, v] ∧ Euc p a high low far near ∧ high * low * 2 ^ i ≤ 1099511627776 ∧ Ex H H')
    (fun H2 e2 => ⟨p, a, 0, 1, none, none, rfl, Euc.start (by omega) a1, ?_, e1.trans e2⟩) ?_ ?_
  · have : p * a ≤ 1000003 * 1000003 := Int.mul_le_mul p6 (by omega) (by omega) (by omega)
    rw [Int.pow_zero, Int.mul_one]
    omega
  · rintro i σ' H' hi ⟨high, low, far, near, u, v, rfl, E, bd, e'⟩
    have hp := E.hp
    have h0 := E.h0
    have l0 := E.l0
    have hlt := E.lt
    refine q_when (et_eqI (ev_var rfl) ev_c) (fun c H3 e3 => ?_) (fun c H3 e3 => ?_)
    · have z : low = 0 := of_decide_eq_true c
      subst z
      exact fin _ _ ⟨high, far, near, _, v, rfl, E, e'.trans e3⟩
    · have z : low ≠ 0 := of_decide_eq_false c
      have S := E.step (by omega)
      have t0 : 0 ≤ high / low := Int.ediv_nonneg (by omega) (by omega)
      have t1 : high / low ≤ high := Int.ediv_le_self _ (by omega)
      refine q_asg (ev_divI (ev_var rfl) (ev_var rfl) ⟨by omega, by omega⟩) fun H4 e4 => ?_
      refine s_tup4 (ea_4 (ev_var rfl) (ev_subI (ev_var rfl) (ev_mulI (ev_var rfl) (ev_var rfl) (.inl ⟨by omega, by omega⟩))) (ev_var rfl) (ev_subI (ev_var rfl) (ev_mulI (ev_var rfl) (ev_var rfl) (.inl ⟨by omega, by omega⟩)))) fun H5 e5 => ?_
      refine ⟨_, _, _, _, _, _, rfl, S, ?_, ((e'.trans e3).trans e4).trans e5⟩
      have hf := E.half (by omega)
      have pw : (0 : Int) ≤ 2 ^ i := Int.pow_nonneg (by decide)
      have := Int.mul_le_mul_of_nonneg_right hf pw
      rw [Int.pow_succ, ← Int.mul_assoc, Int.mul_comm _ 2, ← Int.mul_assoc]
      omega
  · rintro σ' H' ⟨high, low, far, near, u, v, rfl, E, bd, e'⟩
    have h0 := E.h0
    have l0 := E.l0
    have z : low = 0 := by
      refine Classical.byContradiction fun ne => ?_
      have h1 : 1 * 1 ≤ high * low := Int.mul_le_mul (by omega) (by omega) (by omega) (by omega)
      have h2 : 1 * (2 : Int) ^ 64 ≤ high * low * 2 ^ 64 := Int.mul_le_mul_of_nonneg_right (by omega) (by decide)
      have bd' : high * low * 2 ^ 64 ≤ 1099511627776 := bd
      have : (1 : Int) * 2 ^ 64 ≤ 1099511627776 := Int.le_trans h2 bd'
      exact absurd this (by decide)
    subst z
    exact fin _ _ ⟨high, far, near, u, v, rfl, E, e'⟩
theorem ok_law_own_inverse (T : Txt K mg) : FnOk P w K mg base CX0 1 T.f_law_own_inverse T.fd_law_own_inverse ["a", "p"] (sp_law_own_inverse T) :=
  T.d_law_own_inverse.F.ok sc_law_own_inverse (fun vs H Q E h => len_law_own_inverse T h) fun cdv A outer s H vs Q E hr h => ⟨t_law_own_inverse T, by
    exact (pss_cons (ps_asg (pe_tup (pa_cons (pv 1) (pa_cons (pe_op op_mod (pe_callTy call_int1 (by rfl) T.m_int (by decide +kernel) (pa_cons (pv 0) pa_nil)) (pv 1)) (pa_cons pe_int (pa_cons pe_int pa_nil))))) (pg_tup rfl (pgs_cons (pg_name (i := 2) sc_law_own_inverse.nd rfl (Or.inl rfl)) (pgs_cons (pg_name (i := 3) sc_law_own_inverse.nd rfl (Or.inl rfl)) (pgs_cons (pg_name (i := 4) sc_law_own_inverse.nd rfl (Or.inl rfl)) (pgs_cons (pg_name (i := 5) sc_law_own_inverse.nd rfl (Or.inl rfl)) pgs_nil)))))) (pss_cons (ps_for PassesOwn.never rfl (pi_range1 (by rfl) T.m_range (pa_cons pe_int pa_nil)) (pg_name (i := 6) sc_law_own_inverse.nd rfl (Or.inl rfl)) (pss_cons (ps_if (pt_cmpR op_eq (pv 3) pe_int (nomark _)) (pss_one ps_break) pss_nil) (pss_cons (ps_set (i := 7) sc_law_own_inverse.nd rfl (Or.inl rfl) (pe_op op_fdiv (pv 2) (pv 3))) (pss_one (ps_asg (pe_tup (pa_cons (pv 3) (pa_cons (pe_op op_sub (pv 2) (pe_op op_mul (pv 7) (pv 3))) (pa_cons (pv 5) (pa_cons (pe_op op_sub (pv 4) (pe_op op_mul (pv 7) (pv 5))) pa_nil))))) (pg_tup rfl (pgs_cons (pg_name (i := 2) sc_law_own_inverse.nd rfl (Or.inl rfl)) (pgs_cons (pg_name (i := 3) sc_law_own_inverse.nd rfl (Or.inl rfl)) (pgs_cons (pg_name (i := 4) sc_law_own_inverse.nd rfl (Or.inl rfl)) (pgs_cons (pg_name (i := 5) sc_law_own_inverse.nd rfl (Or.inl rfl)) pgs_nil)))))))))) (pss_one (ps_ret (pe_op op_mod (pe_callTy call_int1 (by rfl) T.m_int (by decide +kernel) (pa_cons (pv 4) pa_nil)) (pv 1)))))), pure_law_own_inverse T h⟩

def sp_law_own_prime (T : Txt K mg) : Sp := fun vs H Q _ => ∃ n, vs = [.int n] ∧ 0 ≤ n ∧ n ≤ 1000003 ∧ RetV (.bl (primeD (.int n))) H Q
theorem len_law_own_prime (T : Txt K mg) {vs H Q E} (h : sp_law_own_prime T vs H Q E) : vs.length = 1 := by obtain ⟨_, rfl, _⟩ := h; rfl
theorem v_law_own_prime (T : Txt K mg) {H : Hp} {n : Int} (h0 : 0 ≤ n) (h1 : n ≤ 1000003) : SpV (sp_law_own_prime T) [.int n] H (.bl (primeD (.int n))) := spv fun H1 e Q q E => ⟨n, rfl, h0, h1, q⟩
def t_law_own_prime (T : Txt K mg) : TS := (tSeq (tFor (iRng2 (tCons (tC (.int 2)) (tCons (tC (.int 1001)) tNil))) (gName 1) (tSeq (tIfS (tTest (tOp rGtI (tOp rMulI (tVar 1) (tVar 1)) (tVar 0))) tBreak tNext) (tIfS (tTest (tOp rEq (tOp rModI (tCB rInt1 (tCons (tVar 0) tNil)) (tVar 1)) (tC (.int 0)))) (tRet (tC (.bl false))) tNext))) (tRet (tOp rGtI (tVar 0) (tC (.int 1)))))

theorem pure_law_own_prime (T : Txt K mg) {vs H Q} {E : XK} (h : sp_law_own_prime T vs H Q E) : t_law_own_prime T { nx := fun _ H' => Q .non H', rt := Q } (L2.start n_law_own_prime vs) H := by
  obtain ⟨n, rfl, n0, n1, q⟩ := h
  have fin : ∀ σ' H', (∃ (u : Option V), σ' = [some (.int n), u] ∧ (2 ≤ n → noDiv n = true) ∧ Ex H H') → tRet (tOp rGtI (tVar 0) (tC (.int 1))) { nx := fun _ H' => Q .non H', rt := Q } σ' H' := by
    rintro σ' H' ⟨u, rfl, hn, e'⟩
    refine s_ret (ev_gtV (ev_var rfl) ev_c) fun H4 e4 => ?_
    have z : decide ((1 : Int) < n) = primeD (.int n) := by
      by_cases c : (1 : Int) < n
      · simp [primeD, c, hn (by omega), n1, show (2 : Int) ≤ n by omega]
      · simp [primeD, c, show ¬ (2 : Int) ≤ n by omega]
    rw [z]
    exact q H4 (e'.trans e4)
  refine q_forR2 (ea_2 ev_c ev_c) (by decide) (fun i σ' H' => ∃ (u : Option V), σ' = [some (.int n), u] ∧ (∀ e : Int, 2 ≤ e → e < 2 + (i : Int) → n % e ≠ 0) ∧ Ex H H') (fun H1 e1 => ⟨none, rfl, fun e h1 h2 => by omega, e1⟩) ?_ ?_
  · rintro i σ' H' hi ⟨u, rfl, hn, e'⟩
    refine q_when (ev_gtI (ev_mulI (ev_var rfl) (ev_var rfl) (.inl ⟨by omega, by omega⟩)) (ev_var rfl)) (fun c H3 e3 => ?_) (fun c H3 e3 => ?_)
    · have c1 := of_decide_eq_true c
      refine fin _ _ ⟨_, rfl, fun n2 => (noDiv_iff n1).mpr fun e h2 hm => hn e h2 (Int.not_le.mp fun le => ?_), e'.trans e3⟩
      have : (2 + (i : Int)) * (2 + (i : Int)) ≤ e * e := Int.mul_le_mul le le (by omega) (by omega)
      omega
    · have c1 := of_decide_eq_false c
      refine s_when (et_eqI (ev_modI (ev_int1 (ev_var rfl)) (ev_var rfl) (by omega)) ev_c) (fun c2 H4 e4 => ?_) (fun c2 H4 e4 => ?_)
      · refine s_ret ev_c fun H5 e5 => ?_
        have z : primeD (.int n) = false := by
          by_cases n2 : 2 ≤ n
          · simp [primeD, noDiv_found n1 (m := 2 + (i : Int)) (by omega) (by omega) (of_decide_eq_true c2)]
          · simp [primeD, n2]
        rw [← z]
        exact q H5 (((e'.trans e3).trans e4).trans e5)
      · refine ⟨_, rfl, fun e h1 h2 => ?_, (e'.trans e3).trans e4⟩
        by_cases z : e = 2 + (i : Int)
        · rw [z]; exact of_decide_eq_false c2
        · exact hn e h1 (by omega)
  · rintro σ' H' ⟨u, rfl, hn, e'⟩
    refine fin _ _ ⟨u, rfl, fun n2 => (noDiv_iff n1).mpr fun e h2 hm => hn e h2 (Int.not_le.mp fun le => ?_), e'⟩
    have le' : (1001 : Int) ≤ e := by omega
    have : (1001 : Int) * 1001 ≤ e * e := Int.mul_le_mul le' le' (by omega) (by omega)
    omega
theorem ok_law_own_prime (T : Txt K mg) : FnOk P w K mg base CX0 1 T.f_law_own_prime T.fd_law_own_prime ["number"] (sp_law_own_prime T) :=
  T.d_law_own_prime.F.ok sc_law_own_prime (fun vs H Q E h => len_law_own_prime T h) fun cdv A outer s H vs Q E hr h => ⟨t_law_own_prime T, by
    exact (pss_cons (ps_for PassesOwn.never rfl (pi_range2 (by rfl) T.m_range (pa_cons pe_int (pa_cons pe_int pa_nil))) (pg_name (i := 1) sc_law_own_prime.nd rfl (Or.inl rfl)) (pss_cons (ps_if (pt_cmpR op_gt (pe_op op_mul (pv 1) (pv 1)) (pv 0) (nomark _)) (pss_one ps_break) pss_nil) (pss_one (ps_if (pt_cmpR op_eq (pe_op op_mod (pe_callTy call_int1 (by rfl) T.m_int (by decide +kernel) (pa_cons (pv 0) pa_nil)) (pv 1)) pe_int (nomark _)) (pss_one (ps_ret pe_bl)) pss_nil)))) (pss_one (ps_ret (pe_cmpR op_gt (pv 0) pe_int (nomark _))))), pure_law_own_prime T h⟩

def sp_law_drawn_prime (T : Txt K mg) : Sp := fun vs H Q _ => ∃ a, vs = [.ref a] ∧ Src H a ∧ ∀ q H', Up a H H' → Prm q → Q (.int q) H'
theorem len_law_drawn_prime (T : Txt K mg) {vs H Q E} (h : sp_law_drawn_prime T vs H Q E) : vs.length = 1 := by obtain ⟨_, rfl, _⟩ := h; rfl
def t_law_drawn_prime (T : Txt K mg) : TS := (tSeq (tAsg (tCall (sp_law_one T) [] E0 (tCons (tVar 0) (tCons (tLst (tCons (tC (.int 5)) (tCons (tC (.int 7)) (tCons (tC (.int 11)) (tCons (tC (.int 101)) (tCons (tC (.int 257)) (tCons (tC (.int 1000003)) (tCons (tOp rAddI (tC (.int 5)) (tCall (sp_law_take T) [] E0 (tCons (tVar 0) (tCons (tC (.int 999998)) tNil)))) tNil)))))))) tNil))) (gName 1)) (tSeq (tFor (iRng1 (tCons (tC (.int 200)) tNil)) (gName 2) (tSeq (tIfS (tB (tCall (sp_law_own_prime T) [] E0 (tCons (tVar 1) tNil))) tBreak tNext) (tAsg (tOp rSubI (tVar 1) (tC (.int 1))) (gName 1)))) (tRet (tVar 1))))

theorem pure_law_drawn_prime (T : Txt K mg) {vs H Q} {E : XK} (h : sp_law_drawn_prime T vs H Q E) : t_law_drawn_prime T { nx := fun _ H' => Q .non H', rt := Q } (L2.start n_law_drawn_prime vs) H := by
  obtain ⟨a, rfl, s, q⟩ := h
  have c : ∀ {i : Int} {σ : L2.St}, 5 ≤ i → i ≤ 1000003 → EvS a (tC (.int i)) σ H (PInt 5 1000003) := fun h1 h2 => es_int h1 h2
  refine ss_asg s (es_one rfl (es_lst (ea_consS (c (by decide) (by decide)) (ea_consS (c (by decide) (by decide)) (ea_consS (c (by decide) (by decide)) (ea_consS (c (by decide) (by decide)) (ea_consS (c (by decide) (by decide)) (ea_consS (c (by decide) (by decide))
    (ea_consS (es_wide (es_add (es_int (lo := 5) (hi := 5) (by decide) (by decide)) (es_take (lo := 999998) (hi := 999998) rfl (es_int (by decide) (by decide)) (by decide) (by decide))) (by decide) (by decide)) ea_nilS mono_int) mono_int) mono_int) mono_int) mono_int) mono_int) mono_int) (by decide) mono_int) (by decide) (by decide) mono_int) fun v2 H2 u2 ⟨num, ev2, n5, n6⟩ => ?_
  subst ev2
  obtain ⟨p, p5, p6, p7, pn⟩ := near_prime n5 n6
  refine q_forR1 (ea_1 ev_c) (by decide) (fun i σ' H' => ∃ (cur : Int) (u3 : Option V), σ' = [some (.ref a), some (.int cur), u3] ∧ cur = num - (i : Int) ∧ p ≤ cur ∧ Ex H2 H') (fun H3 e3 => ⟨num, none, rfl, by omega, p6, e3⟩) ?_ ?_
  · rintro i σ' H' hi ⟨cur, u3, rfl, ec, pc, e'⟩
    refine q_when (et_B (ev_call (ea_1 (ev_var rfl)) (v_law_own_prime T (by omega) (by omega)))) (fun c H3 e3 => ?_) (fun c H3 e3 => ?_)
    · refine s_ret (ev_var rfl) fun H4 e4 => ?_
      have c' : primeD (.int cur) = true := c
      simp only [primeD, Bool.and_eq_true] at c'
      exact q cur _ (u2.trans (.ex ((e'.trans e3).trans e4) u2.src)) ⟨by omega, by omega, c'.2⟩
    · have ne : cur ≠ p := fun z => by
        rw [z] at c
        have c' : primeD (.int p) = false := c
        simp [primeD, pn, show (2 : Int) ≤ p by omega, show p ≤ 1000003 by omega] at c'
      exact s_asg (ev_subI (ev_var rfl) ev_c) fun H4 e4 => ⟨cur - 1, _, rfl, by omega, by omega, (e'.trans e3).trans e4⟩
  · rintro σ' H' ⟨cur, u3, rfl, ec, pc, e'⟩
    have ec' : cur = num - 200 := ec
    omega
theorem ok_law_drawn_prime (T : Txt K mg) : FnOk P w K mg base CX0 3 T.f_law_drawn_prime T.fd_law_drawn_prime ["source"] (sp_law_drawn_prime T) :=
  T.d_law_drawn_prime.F.ok sc_law_drawn_prime (fun vs H Q E h => len_law_drawn_prime T h) fun cdv A outer s H vs Q E hr h => ⟨t_law_drawn_prime T, by
    exact (pss_cons (ps_set (i := 1) sc_law_drawn_prime.nd rfl (Or.inl rfl) (pe_call (ok_law_one T) (hr.mono (by decide)) (by rfl) T.d_law_one.g T.d_law_one.F.kp T.d_law_one.b .nil pass0 (pa_cons (pv 0) (pa_cons (pe_lst (pa_cons pe_int (pa_cons pe_int (pa_cons pe_int (pa_cons pe_int (pa_cons pe_int (pa_cons pe_int (pa_cons (pe_op op_add pe_int (pe_call (ok_law_take T) (hr.mono (by decide)) (by rfl) T.d_law_take.g T.d_law_take.F.kp T.d_law_take.b .nil pass0 (pa_cons (pv 0) (pa_cons pe_int pa_nil)))) pa_nil)))))))) pa_nil)))) (pss_cons (ps_for PassesOwn.never rfl (pi_range1 (by rfl) T.m_range (pa_cons pe_int pa_nil)) (pg_name (i := 2) sc_law_drawn_prime.nd rfl (Or.inl rfl)) (pss_cons (ps_if (pt_val (pe_call (ok_law_own_prime T) (hr.mono (by decide)) (by rfl) T.d_law_own_prime.g T.d_law_own_prime.F.kp T.d_law_own_prime.b .nil pass0 (pa_cons (pv 1) pa_nil))) (pss_one ps_break) pss_nil) (pss_one (ps_set (i := 1) sc_law_drawn_prime.nd rfl (Or.inl rfl) (pe_op op_sub (pv 1) pe_int))))) (pss_one (ps_ret (pv 1))))), pure_law_drawn_prime T h⟩

def sp_law_led (T : Txt K mg) : Sp := fun vs H Q _ => ∃ (a b : Addr) (r o : Ro) (f p : Int), vs = [.ref a, .ref b, .int f, .int p] ∧ SqL K H a (r.map V.int) ∧ SqL K H b (o.map V.int) ∧ r.length = o.length ∧ r.length ≤ 100 ∧ 0 < p ∧ 0 ≤ f ∧ f ≤ 1000003 ∧ RetL ((led p f r o).map V.int) H Q
theorem len_law_led (T : Txt K mg) {vs H Q E} (h : sp_law_led T vs H Q E) : vs.length = 4 := by obtain ⟨_, _, _, _, _, _, rfl, _⟩ := h; rfl
def t_law_led (T : Txt K mg) : TS := (tRet (tLc (iRng1 (tCons (tCB (rLenV K) (tCons (tVar 0) tNil)) tNil)) (gName 4) tYes (tOp rModI (tCB rInt1 (tCons (tOp rSubI (tOp (rIxL K) (tVar 0) (tVar 4)) (tOp rMulI (tVar 2) (tOp (rIxL K) (tVar 1) (tVar 4)))) tNil)) (tVar 3)) [4]))

theorem pure_law_led (T : Txt K mg) {vs H Q} {E : XK} (h : sp_law_led T vs H Q E) : t_law_led T { nx := fun _ H' => Q .non H', rt := Q } (L2.start n_law_led vs) H := by
  obtain ⟨a, b, r, o, f, p, rfl, ha, hb, hl, hz, p0, f0, f1, q⟩ := h
  have len := ev_lenL (K := K) (σ := L2.start n_law_led [.ref a, .ref b, .int f, .int p]) (ta := tVar 0) (ev_var rfl) ha
  rw [List.length_map] at len
  refine s_retL (xs := (led p f r o).map V.int) ?_ fun l H1 hl e h1 => q l H1 hl e h1
  have := el_lcR1 (σ := L2.start n_law_led [.ref a, .ref b, .int f, .int p]) (H := H) (j := 4) (vs := [4]) (t := tYes) (te := tOp rModI (tCB rInt1 (tCons (tOp rSubI (tOp (rIxL K) (tVar 0) (tVar 4)) (tOp rMulI (tVar 2) (tOp (rIxL K) (tVar 1) (tVar 4)))) tNil)) (tVar 3)) (fun _ => true) (fun i => .int ((nth r i - f * nth o i) % p)) (ea_1 len) (by omega) (fun x => rfl)
    (fun i H1 e1 hi => et_yes) (fun i H1 e1 hi _ => ev_modI (ev_int1 (ev_subI (ev_ixL (ev_var rfl) (ev_var rfl) (ex_l e1 ha) (ints_atI (by omega))) (ev_mulI (ev_var rfl) (ev_ixL (ev_var rfl) (ev_var rfl) (ex_l e1 hb) (ints_atI (by omega))) (.inl ⟨by omega, by omega⟩)))) (ev_var rfl) p0)
  rw [given_true, Int.toNat_natCast, row_range (r := led p f r o) (len_led hl) (fun i hi => by rw [nth_led hl])] at this
  exact this
theorem ok_law_led (T : Txt K mg) : FnOk P w K mg base CX0 1 T.f_law_led T.fd_law_led ["row", "other", "factor", "p"] (sp_law_led T) :=
  T.d_law_led.F.ok sc_law_led (fun vs H Q E h => len_law_led T h) fun cdv A outer s H vs Q E hr h => ⟨t_law_led T, by
    exact (pss_one (ps_ret (pe_lc (own := [("k", 4)]) (g := (gName 4)) (tt := tYes) (te := (tOp rModI (tCB rInt1 (tCons (tOp rSubI (tOp (rIxL K) (tVar 0) (tVar 4)) (tOp rMulI (tVar 2) (tOp (rIxL K) (tVar 1) (tVar 4)))) tNil)) (tVar 3))) rfl sc_law_led.nd (pi_range1 (by rfl) T.m_range (pa_cons (pe_callB call_len (by rfl) T.m_len (by decide +kernel) (pa_cons (pv 0) pa_nil)) pa_nil)) (blkOk_by (own := [("k", 4)]) (N := n_law_led) (sc := defScope s_law_led) (by decide +kernel)) (fun _ _ _ _ _ => (pg_name (i := 4) sc_law_led.nd rfl (Or.inl rfl))) (fun _ _ _ _ _ => pts_nil) (fun _ _ _ _ _ => (pe_op op_mod (pe_callTy call_int1 (by rfl) T.m_int (by decide +kernel) (pa_cons (pe_op op_sub (pe_ix ix_list (pv 0) (pv 4) (fun _ _ => rfl)) (pe_op op_mul (pv 2) (pe_ix ix_list (pv 1) (pv 4) (fun _ _ => rfl)))) pa_nil)) (pv 3)))))), pure_law_led T h⟩

end
end My


namespace Own
open PySem PySem.Spec PyProof.Rows L2
open Evl
/-! ### matrices: a list of lists that may change, a tuple of tuples, any lot of lots -/
def MLr (l : Addr) (refs : List Addr) (R : Mx) (H : Hp) : Prop := H l = some (.lst (refs.map V.ref)) ∧ refs.length = R.length ∧ ∀ i b, refs[i]? = some b → b ≠ l ∧ H b = some (.lst ((row R i).map V.int))
def MT (K : PySem.W.Frag) (t : Addr) (M : Mx) (H : Hp) : Prop := ∃ refs : List Addr, SqT K H t (refs.map V.ref) ∧ refs.length = M.length ∧ ∀ i b, refs[i]? = some b → SqT K H b ((row M i).map V.int)
def MS (K : PySem.W.Frag) (m : Addr) (M : Mx) (H : Hp) : Prop := ∃ refs : List Addr, SqA K H m (refs.map V.ref) ∧ refs.length = M.length ∧ ∀ i b, refs[i]? = some b → SqA K H b ((row M i).map V.int)
def ExB (l : Addr) (H H' : Hp) : Prop := ∀ b o, b ≠ l → H b = some o → H' b = some o
theorem ExB.ex {l : Addr} {H H' : Hp} (e : Ex H H') : ExB l H H' := fun b o _ h => e b o h
theorem ExB.trans {l : Addr} {H H1 H2 : Hp} (x : ExB l H H1) (y : ExB l H1 H2) : ExB l H H2 := fun b o n h => y b o n (x b o n h)
theorem ExB.upd {l : Addr} {H : Hp} {o : HO} : ExB l H (upd H l o) := fun b u n h => by rw [upd_ne n]; exact h
theorem ExB.to {l : Addr} {H0 H H' : Hp} (n : H0 l = none) (e : Ex H0 H) (x : ExB l H H') : Ex H0 H' := fun b o h => x b o (ne_of_none h n) (e b o h)
section
variable {K : PySem.W.Frag} {σ : L2.St} {H H' : Hp} {te ta tb tl : TE} {x y z w : V} {D : Ends} {tz tu t : TS} {R M : Mx} {l m : Addr} {refs : List Addr}
theorem ex_a {a : Addr} {xs : List V} (e : Ex H H') (h : SqA K H a xs) : SqA K H' a xs := h.imp (ex_l e) (ex_t e)
theorem MLr.ex (e : Ex H H') (h : MLr l refs R H) : MLr l refs R H' := ⟨e _ _ h.1, h.2.1, fun i b hb => ⟨(h.2.2 i b hb).1, e _ _ (h.2.2 i b hb).2⟩⟩
theorem MT.ex (e : Ex H H') (h : MT K m M H) : MT K m M H' := let ⟨r, h1, h2, h3⟩ := h; ⟨r, ex_t e h1, h2, fun i b hb => ex_t e (h3 i b hb)⟩
theorem MS.ex (e : Ex H H') (h : MS K m M H) : MS K m M H' := let ⟨r, h1, h2, h3⟩ := h; ⟨r, ex_a e h1, h2, fun i b hb => ex_a e (h3 i b hb)⟩
theorem MT.ms (h : MT K m M H) : MS K m M H := let ⟨r, h1, h2, h3⟩ := h; ⟨r, .inr h1, h2, fun i b hb => .inr (h3 i b hb)⟩
theorem MLr.ms (h : MLr l refs R H) : MS K l R H := ⟨refs, .inl (sq_of h.1), h.2.1, fun i b hb => .inl (sq_of (h.2.2 i b hb).2)⟩
theorem MLr.at (h : MLr l refs R H) {i : Nat} (hi : i < R.length) : ∃ b, refs[i]? = some b ∧ b ≠ l ∧ H b = some (.lst ((row R i).map V.int)) := by
  have : i < refs.length := by rw [h.2.1]; exact hi
  exact ⟨refs[i], List.getElem?_eq_getElem this, h.2.2 i _ (List.getElem?_eq_getElem this)⟩
theorem refs_at {i : Nat} {b : Addr} (h : refs[i]? = some b) : (refs.map V.ref)[i]? = some (.ref b) := by rw [List.getElem?_map, h]; rfl
theorem ev_row {i : Nat} {b : Addr} (hl : Ev ta σ H (.ref l)) (hi : Ev tb σ H (.int (i : Int))) (h : MLr l refs R H) (hb : refs[i]? = some b) : Ev (tOp (rIxL K) ta tb) σ H (.ref b) :=
  ev_ixL hl hi (sq_of h.1) (atI_nat (refs_at hb))
theorem ev_ent {i k : Nat} {tc : TE} (hl : Ev ta σ H (.ref l)) (hi : Ev tb σ H (.int (i : Int))) (hk : Ev tc σ H (.int (k : Int))) (h : MLr l refs R H) (h1 : i < R.length) (h2 : k < (row R i).length) :
    Ev (tOp (rIxL K) (tOp (rIxL K) ta tb) tc) σ H (.int (ent R i k)) := by
  obtain ⟨b, hb, _, hx⟩ := h.at h1
  exact ev_ixL (ev_row hl hi h hb) hk (sq_of hx) (ints_atI h2)
theorem MLr.set {i : Nat} {b : Addr} {r : Ro} (h : MLr l refs R H) (hi : i < R.length) (nb : b ≠ l) (hb : H b = some (.lst (r.map V.int))) : MLr l (refs.set i b) (R.set i r) (upd H l (.lst ((refs.map V.ref).set i (.ref b)))) := by
  refine ⟨by rw [upd_same, List.map_set], by simp [h.2.1], fun j c hc => ?_⟩
  rw [List.getElem?_set] at hc
  rw [row_set hi]
  by_cases e : i = j
  · subst e
    rw [if_pos rfl, if_pos (by rw [h.2.1]; exact hi)] at hc
    injection hc with hc
    subst hc
    exact ⟨nb, by rw [upd_ne nb, if_pos rfl]; exact hb⟩
  · rw [if_neg e] at hc
    rw [if_neg (Ne.symm e)]
    obtain ⟨n1, h1⟩ := h.2.2 j c hc
    exact ⟨n1, by rw [upd_ne n1]; exact h1⟩
theorem pv_found {d k i : Nat} (h1 : i < R.length) (h2 : d ≤ i) (h3 : ent R i k ≠ 0) (h4 : ∀ j, d ≤ j → j < i → ent R j k = 0) : pv R d k = some i := by
  unfold pv
  rw [List.find?_range_eq_some]
  refine ⟨by simp [h2, h3], List.mem_range.mpr h1, fun j hj => ?_⟩
  by_cases c : d ≤ j
  · simp [h4 j c hj]
  · simp [c]
theorem pv_not {d k : Nat} (h : ∀ j, d ≤ j → j < R.length → ent R j k = 0) : pv R d k = none := by
  cases e : pv R d k with
  | none => rfl
  | some i =>
    obtain ⟨h1, h2, h3⟩ := pv_some e
    exact absurd (h i h2 h1) h3
/-- l[j] = a new list -/
theorem s_setLL {xs ys : List V} {j : Nat} (hl : H l = some (.lst xs)) (h : EvL te σ H ys) (ho : ∀ H1, Ex H H1 → Ev ta σ H1 (.ref l)) (hi : ∀ H1, Ex H H1 → Ev tb σ H1 (.int (j : Int))) (hj : j < xs.length)
    (k : ∀ p H1, H p = none → Ex H H1 → H1 p = some (.lst ys) → D.nx σ (upd H1 l (.lst (xs.set j (.ref p))))) : tAsg te (gSub ta tb rSetL) D σ H :=
  h H (.refl H) _ fun p H1 hp e hx => ho H1 e H1 (.refl H1) _ fun H2 e2 => hi H2 (e.trans e2) H2 (.refl H2) _ fun H3 e3 => ⟨l, xs, (j : Int), j, rfl, rfl, ((e.trans e2).trans e3) l _ hl, ixN_nat hj, k p H3 hp ((e.trans e2).trans e3) (e3 p _ (e2 p _ hx))⟩
/-- swapping two rows -/
theorem s_swap {i d : Nat} {bi bd : Addr} (h : MLr l refs R H) (hi : i < R.length) (hd : d < R.length) (hbi : refs[i]? = some bi) (hbd : refs[d]? = some bd) {s0 s1 : TE}
    (e0 : ∀ H1, Ev s0 σ H1 (.ref l)) (e1 : ∀ H1, Ev s1 σ H1 (.int (d : Int))) {ti : TE} {ta : TA} (ha : EvA ta σ H [.ref bi, .ref bd]) (e3 : ∀ H1, ExB l H H1 → Ev ti σ H1 (.int (i : Int)))
    (k : ∀ refs1 H1, ExB l H H1 → MLr l refs1 (swp R d i) H1 → D.nx σ H1) :
    tAsg (tTup ta) (gTup K 2 (gCons (gSub s0 s1 rSetL) (gCons (gSub s0 ti rSetL) gNil))) D σ H := by
  refine ha H (.refl H) _ fun H1 x1 => ⟨by show 2 ≤ sizeLine; decide, fun p np => ⟨p, _, rfl, st_of upd_same, rfl, _, _, rfl, ?_⟩⟩
  have x2 : Ex H (upd H1 p (.tup [.ref bi, .ref bd])) := x1.trans (Ex.new np)
  generalize upd H1 p (.tup [.ref bi, .ref bd]) = H2 at x2
  refine e0 H2 H2 (.refl H2) _ fun H3 x3 => e1 H3 H3 (.refl H3) _ fun H4 x4 => ?_
  have E4 := (x2.trans x3).trans x4
  have h4 := h.ex E4
  refine ⟨l, _, _, d, rfl, rfl, h4.1, ixN_nat (by rw [List.length_map, h.2.1]; exact hd), ?_⟩
  obtain ⟨ni, hxi⟩ := h4.2.2 i bi hbi
  obtain ⟨nd, hxd⟩ := h4.2.2 d bd hbd
  have h5 := h4.set hd ni hxi
  have b5 : ExB l H (upd H4 l (.lst ((refs.map V.ref).set d (.ref bi)))) := (ExB.ex E4).trans ExB.upd
  have hxd5 : (upd H4 l (.lst ((refs.map V.ref).set d (.ref bi)))) bd = some (.lst ((row R d).map V.int)) := by rw [upd_ne nd]; exact hxd
  generalize upd H4 l (.lst ((refs.map V.ref).set d (.ref bi))) = H5 at h5 b5 hxd5
  refine ⟨_, _, rfl, ?_⟩
  refine e0 H5 H5 (.refl H5) _ fun H6 x6 => ?_
  refine e3 H6 (b5.trans (.ex x6)) H6 (.refl H6) _ fun H7 x7 => ?_
  have E7 := x6.trans x7
  have h7 := h5.ex E7
  refine ⟨l, _, _, i, rfl, rfl, h7.1, ixN_nat (by simp [h.2.1]; exact hi), ?_⟩
  have h8 := h7.set (i := i) (by simpa using hi) nd (E7 _ _ hxd5)
  exact ⟨rfl, k _ _ ((b5.trans (.ex E7)).trans ExB.upd) h8⟩
/-! comprehensions whose items are new lists or tuples -/
def EvH (te : TE) (σ : L2.St) (H : Hp) (o : HO) : Prop := ∀ H1, Ex H H1 → ∀ Q : VK, (∀ p H2, H1 p = none → Ex H1 H2 → H2 p = some o → Q (.ref p) H2) → te σ H1 Q
def EvN (te : TE) (σ : L2.St) (H : Hp) (P : Addr → Hp → Prop) : Prop := ∀ H1, Ex H H1 → ∀ Q : VK, (∀ l H2, H1 l = none → Ex H1 H2 → P l H2 → Q (.ref l) H2) → te σ H1 Q
def LsO (n : Nat) (o : Nat → HO) : Addr → Hp → Prop := fun l H => ∃ refs : List Addr, H l = some (.lst (refs.map V.ref)) ∧ refs.length = n ∧ ∀ i b, refs[i]? = some b → b ≠ l ∧ H b = some (o i)
theorem yesT {A B : Hp → Prop} (h : A H) : tYes σ H fun b H3 => if b = true then A H3 else B H3 := by
  show (if true = true then A H else B H)
  rw [if_pos rfl]
  exact h
theorem lcN {J : It} {n : Nat} {xs : List V} {o : Nat → HO} {j : Nat} {vs : List Nat} {H1 : Hp} {Qd : Addr → Hp → Prop} (G : Hp → Prop) (w : Walk J n G (YAt xs)) (hG : ∀ H', Ex H1 H' → G H') (hn : n ≤ 40000) (hw : ∀ x, wipe ((wipe σ vs).set j (some x)) vs = wipe σ vs)
    (he : ∀ i x H', Ex H1 H' → xs[i]? = some x → i < n → EvH te ((wipe σ vs).set j (some x)) H' (o i)) {Dl : Addr} (hD : H1 Dl = none) (hd : ∀ H', Ex H1 H' → LsO n o Dl H' → Qd Dl H') :
    ∃ W : Nat → Nat → Hp → Prop, (∃ m, W 0 m (upd H1 Dl (.lst []))) ∧ ∀ i m H, W i m H →
      (J.stop i H ∧ Qd Dl H) ∨ (J.go i H ∧ ∃ Nx : Hp → Prop, (∀ H', Nx H' → ∃ m', m' < m ∧ W (i + 1) m' H') ∧ ∀ x H', J.yld i H x H' → gName j x (wipe σ vs) H' fun σ2 H2 => wipe σ2 vs = wipe σ vs ∧ tYes σ2 H2 fun b H3 =>
        if b = true then te σ2 H3 fun y H4 => ∃ acc, H4 Dl = some (.lst acc) ∧ acc.length < sizeLine ∧ Nx (upd H4 Dl (.lst (acc ++ [y]))) else Nx H3) :=
  lc_it w (fun i H' => Ex H1 H' ∧ LsO i o Dl H') ⟨Ex.new hD, [], upd_same, rfl, fun i y h => by simp at h⟩ (fun i H' _ p => hG H' p.1)
    (fun i x H2 H3 hi => by
      rintro ⟨e2, rs, hy, hl, hp⟩ ⟨e3, hx⟩
      subst e3
      refine ⟨hw x, ?_⟩
      refine yesT ?_
      refine he i x H3 e2 hx hi H3 (.refl H3) _ fun p H4 np u4 hpo => ⟨rs.map V.ref, u4 _ _ hy, sz_lt (by rw [List.length_map]; omega), Ex.mut (e2.trans u4) hD, rs ++ [p], by rw [upd_same]; simp, by simp [hl], fun m b hm => ?_⟩
      have npD : p ≠ Dl := fun z => by rw [z, hy] at np; cases np
      by_cases c : m < rs.length
      · rw [List.getElem?_append_left c] at hm
        obtain ⟨n1, h1⟩ := hp m b hm
        exact ⟨n1, by rw [upd_ne n1]; exact u4 _ _ h1⟩
      · rw [List.getElem?_append_right (by omega)] at hm
        have z : m - rs.length = 0 := by
          refine Nat.eq_zero_of_not_pos fun q => ?_
          rw [List.getElem?_eq_none (by simp; omega)] at hm
          cases hm
        rw [z] at hm
        simp at hm
        subst hm
        have : m = i := by omega
        subst this
        exact ⟨npD, by rw [upd_ne npD]; exact hpo⟩)
    (fun H' p => hd H' p.1 p.2)
theorem en_lcT {a : Addr} {xs : List V} {o : Nat → HO} {j : Nat} {vs : List Nat} (h : Ev tl σ H (.ref a)) (hx : SqT K H a xs) (hn : xs.length ≤ 40000) (hw : ∀ x, wipe ((wipe σ vs).set j (some x)) vs = wipe σ vs)
    (he : ∀ i x H', Ex H H' → xs[i]? = some x → i < xs.length → EvH te ((wipe σ vs).set j (some x)) H' (o i)) : EvN (tLc (iTup K tl) (gName j) tYes te vs) σ H (LsO xs.length o) :=
  fun H0 e Q q => h H0 e _ fun H1 e1 => ⟨a, rfl, ⟨xs, ex_t (e.trans e1) hx⟩, fun Dl hD => lcN (Qd := fun l H => Q (.ref l) H) _ walk_tup (fun H' e' => ex_t ((e.trans e1).trans e') hx) hn hw (fun i x H' e' hx hi => he i x H' ((e.trans e1).trans e') hx hi) hD (fun H' e' p => q Dl H' (fresh_back e1 hD) (e1.trans e') p)⟩
theorem en_lcL {a : Addr} {xs : List V} {o : Nat → HO} {j : Nat} {vs : List Nat} (h : Ev tl σ H (.ref a)) (hx : SqL K H a xs) (hn : xs.length ≤ 40000) (hw : ∀ x, wipe ((wipe σ vs).set j (some x)) vs = wipe σ vs)
    (he : ∀ i x H', Ex H H' → xs[i]? = some x → i < xs.length → EvH te ((wipe σ vs).set j (some x)) H' (o i)) : EvN (tLc (iList K tl) (gName j) tYes te vs) σ H (LsO xs.length o) :=
  fun H0 e Q q => h H0 e _ fun H1 e1 => ⟨a, rfl, ⟨xs, ex_l (e.trans e1) hx⟩, fun Dl hD => lcN (Qd := fun l H => Q (.ref l) H) _ walk_list (fun H' e' => ex_l ((e.trans e1).trans e') hx) hn hw (fun i x H' e' hx hi => he i x H' ((e.trans e1).trans e') hx hi) hD (fun H' e' p => q Dl H' (fresh_back e1 hD) (e1.trans e') p)⟩
theorem en_lcS {a : Addr} {xs : List V} {o : Nat → HO} {j : Nat} {vs : List Nat} (h : Ev tl σ H (.ref a)) (hx : SqA K H a xs) (hn : xs.length ≤ 40000) (hw : ∀ x, wipe ((wipe σ vs).set j (some x)) vs = wipe σ vs)
    (he : ∀ i x H', Ex H H' → xs[i]? = some x → i < xs.length → EvH te ((wipe σ vs).set j (some x)) H' (o i)) : EvN (tLc (iSeq K tl) (gName j) tYes te vs) σ H (LsO xs.length o) := fun H0 e Q q => by
  rcases hx with hx | hx
  · exact .inl (en_lcL h hx hn hw he H0 e Q q)
  · exact .inr (en_lcT h hx hn hw he H0 e Q q)
theorem en_lcNL {xs : List V} {o : Nat → HO} {j : Nat} {vs : List Nat} (h : EvL tl σ H xs) (hn : xs.length ≤ 40000) (hw : ∀ x, wipe ((wipe σ vs).set j (some x)) vs = wipe σ vs)
    (he : ∀ i x H', Ex H H' → xs[i]? = some x → i < xs.length → EvH te ((wipe σ vs).set j (some x)) H' (o i)) : EvN (tLc (iList K tl) (gName j) tYes te vs) σ H (LsO xs.length o) :=
  fun H0 e Q q => h H0 e _ fun a H1 ha e1 hx => ⟨a, rfl, ⟨xs, sq_of hx⟩, fun Dl hD => lcN (Qd := fun l H => Q (.ref l) H) _ walk_list (fun H' e' => ex_l e' (sq_of (K := K) hx)) hn hw (fun i x H' e' hx hi => he i x H' ((e.trans e1).trans e') hx hi) hD (fun H' e' p => q Dl H' (fresh_back e1 hD) (e1.trans e') p)⟩
theorem en_lcR {ta : TA} {n : Int} {o : Nat → HO} {j : Nat} {vs : List Nat} (h : EvA ta σ H [.int n]) (hn : 0 ≤ n ∧ n ≤ 40000) (hw : ∀ x, wipe ((wipe σ vs).set j (some x)) vs = wipe σ vs)
    (he : ∀ (i : Nat) H', Ex H H' → (i : Int) < n → EvH te ((wipe σ vs).set j (some (.int (i : Int)))) H' (o i)) : EvN (tLc (iRng1 ta) (gName j) tYes te vs) σ H (LsO n.toNat o) :=
  fun H0 e Q q => h H0 e _ fun H1 e1 => ⟨n, rfl, by omega, by omega, fun Dl hD => by
    have w : Walk (Itr 0 n.toNat) n.toNat (fun _ => True) (YAt ((List.range n.toNat).map fun (i : Nat) => V.int (i : Int))) := walk_range.mono (fun _ h => h) fun i H x H' hi _ y => ⟨y.1, by rw [y.2, List.getElem?_map, List.getElem?_range hi]; show _ = some (V.int ((0 : Int) + (i : Int))); rw [Int.zero_add]; rfl⟩
    exact lcN (Qd := fun l H => Q (.ref l) H) _ w (fun _ _ => trivial) (by omega) hw (fun i x H' e' hx hi => by
      rw [List.getElem?_map, List.getElem?_range hi] at hx
      injection hx with hx
      rw [← hx]
      exact he i H' ((e.trans e1).trans e') (by omega)) hD (fun H' e' p => q Dl H' (fresh_back e1 hD) (e1.trans e') p)⟩
/-- list(a lot) -/
theorem eh_list {a : Addr} {xs : List V} (h : Ev te σ H (.ref a)) (hx : SqA K H a xs) : EvH (tCB (rListOf K) (tCons te tNil)) σ H (.lst xs) :=
  fun H0 e Q q => h H0 e _ fun H1 e1 => ⟨a, xs, rfl, ex_a (e.trans e1) hx, fun l hl => q l _ (fresh_back e1 hl) (e1.trans (Ex.new hl)) upd_same⟩
/-- tuple(a list) -/
theorem eh_tup {a : Addr} {xs : List V} (h : Ev te σ H (.ref a)) (hx : SqL K H a xs) : EvH (tCB (rTupOf K) (tCons te tNil)) σ H (.tup xs) :=
  fun H0 e Q q => h H0 e _ fun H1 e1 => ⟨a, xs, rfl, .inl ⟨ex_l (e.trans e1) hx, fun l hl => q l _ (fresh_back e1 hl) (e1.trans (Ex.new hl)) upd_same⟩⟩
theorem eh_tupN {xs : List V} (h : EvL te σ H xs) : EvH (tCB (rTupOf K) (tCons te tNil)) σ H (.tup xs) :=
  fun H0 e Q q => h H0 e _ fun p H1 hp e1 hx => ⟨p, xs, rfl, .inl ⟨sq_of hx, fun l hl => q l _ (fresh_back e1 hl) (e1.trans (Ex.new hl)) upd_same⟩⟩
/-- tuple(a list of rows) -/
theorem en_tup {n : Nat} {M : Mx} (h : EvN te σ H (LsO n fun i => .tup ((row M i).map V.int))) (hn : n = M.length) : EvN (tCB (rTupOf K) (tCons te tNil)) σ H (fun t H' => MT K t M H') :=
  fun H0 e Q q => h H0 e _ fun l H1 hl e1 ⟨refs, h1, h2, h3⟩ => ⟨l, _, rfl, .inl ⟨sq_of h1, fun t nt => q t _ (fresh_back e1 nt) (e1.trans (Ex.new nt)) ⟨refs, st_of upd_same, by omega, fun i b hb => ex_t (Ex.new nt) (st_of (h3 i b hb).2)⟩⟩⟩
/-- over zip, of numbers told by the turn -/
theorem el_lcZ {t1 t2 : Bool} {ta : TA} {a b : Addr} {xs ys : List V} {i j : Nat} {vs : List Nat} (v : Nat → V) (h : EvA ta σ H [.ref a, .ref b]) (hx : SqB t1 K H a xs) (hy : SqB t2 K H b ys) (hl : xs.length = ys.length) (hn : xs.length ≤ 40000)
    (hw : ∀ x y, wipe (((wipe σ vs).set i (some x)).set j (some y)) vs = wipe σ vs) (sB : ∀ t a xs (H' : Hp), Ex H H' → SqB t K H a xs → SqB t K H' a xs)
    (he : ∀ m x y H1, Ex H H1 → xs[m]? = some x → ys[m]? = some y → Ev te (((wipe σ vs).set i (some x)).set j (some y)) H1 (v m)) : EvL (tLc (iZipB t1 t2 K ta) (gTup K 2 (gCons (gName i) (gCons (gName j) gNil))) tYes te vs) σ H ((List.range xs.length).map v) :=
  fun H0 e Q q => h H0 e _ fun H1 e1 => ⟨a, b, xs, ys, rfl, sB _ _ _ _ (e.trans e1) hx, sB _ _ _ _ (e.trans e1) hy, fun Dl hD =>
    lc_it (n := xs.length) (walk_zipB (by omega)) (fun i H' => H1 Dl = none ∧ Ex H1 H' ∧ H' Dl = some (.lst ((List.range i).map v))) ⟨hD, Ex.new hD, upd_same⟩ (fun m H' _ p => ⟨sB _ _ _ _ ((e.trans e1).trans p.2.1) hx, sB _ _ _ _ ((e.trans e1).trans p.2.1) hy⟩)
      (fun m z H2 H3 hm => by
        rintro ⟨p1, p2, p3⟩ ⟨T, x, y, rfl, hT, rfl, h1, h2⟩
        have nT : Dl ≠ T := fun z => by rw [z, hT] at p3; cases p3
        refine ⟨T, _, rfl, st_of upd_same, rfl, x, _, rfl, y, _, rfl, rfl, hw x y, ?_⟩
        refine yesT ?_
        have e2 : Ex H1 (upd H2 T (.tup [x, y])) := p2.trans (Ex.new hT)
        refine he m x y _ ((e.trans e1).trans e2) h1 h2 _ (.refl _) _ fun H4 e4 => ⟨_, e4 _ _ (by rw [upd_ne nT]; exact p3), sz_lt (by simp; omega), p1, Ex.mut (e2.trans e4) p1, ?_⟩
        rw [upd_same, List.range_succ, List.map_append]
        rfl)
      (fun H' p => q Dl H' (fresh_back e1 p.1) (e1.trans p.2.1) p.2.2)⟩
theorem ex_B {t : Bool} {a : Addr} {xs : List V} (e : Ex H H') (h : SqB t K H a xs) : SqB t K H' a xs := by
  cases t
  · exact ex_l e h
  · exact ex_t e h
theorem q_asgN {i : Nat} {P : Addr → Hp → Prop} (h : EvN te σ H P) (k : ∀ l H1, H l = none → Ex H H1 → P l H1 → tz D (σ.set i (some (.ref l))) H1) : tSeq (tAsg te (gName i)) tz D σ H := h H (.refl H) _ k
theorem s_retN {P : Addr → Hp → Prop} (h : EvN te σ H P) (k : ∀ l H1, H l = none → Ex H H1 → P l H1 → D.rt (.ref l) H1) : tRet te D σ H := h H (.refl H) _ k
end
end Own


set_option maxHeartbeats 1000000
namespace My
open PySem PySem.Spec PyProof.Rows L2 Own
open Evl (Ex RetV)
section
variable {P : Program} {w : World} {K : PySem.W.Frag} {mg : Str → Option Value} {base : Heap}

open Evl
/-! ### the elimination of the program -/
def optN : Option Nat → V
  | none => .non
  | some i => .int (i : Int)
def sp_first_with (T : Txt K mg) : Sp := fun vs H Q _ => ∃ (l : Addr) (refs : List Addr) (R : Mx) (d k : Nat), vs = [.ref l, .int (d : Int), .int (k : Int)] ∧ MLr l refs R H ∧ (∀ i, i < R.length → k < (row R i).length) ∧ R.length ≤ 100 ∧ d ≤ 100 ∧ RetV (optN (pv R d k)) H Q
theorem len_first_with (T : Txt K mg) {vs H Q E} (h : sp_first_with T vs H Q E) : vs.length = 3 := by obtain ⟨_, _, _, _, _, rfl, _⟩ := h; rfl
theorem v_first_with (T : Txt K mg) {H : Hp} {l : Addr} {refs : List Addr} {R : Mx} {d k : Nat} (h : MLr l refs R H) (h1 : ∀ i, i < R.length → k < (row R i).length) (h2 : R.length ≤ 100) (h3 : d ≤ 100) : SpV (sp_first_with T) [.ref l, .int (d : Int), .int (k : Int)] H (optN (pv R d k)) :=
  spv fun H1 e Q q E => ⟨l, refs, R, d, k, rfl, h.ex e, h1, h2, h3, q⟩
def t_first_with (T : Txt K mg) : TS := (tSeq (tFor (iRng2 (tCons (tVar 1) (tCons (tCB (rLenV K) (tCons (tVar 0) tNil)) tNil))) (gName 3) (tIfS (tTest (tOp rNe (tOp (rIxL K) (tOp (rIxL K) (tVar 0) (tVar 3)) (tVar 2)) (tC (.int 0)))) (tRet (tVar 3)) tNext)) (tRet (tC .non)))

theorem pure_first_with (T : Txt K mg) {vs H Q} {E : XK} (h : sp_first_with T vs H Q E) : t_first_with T { nx := fun _ H' => Q .non H', rt := Q } (L2.start n_first_with vs) H := by
  obtain ⟨l, refs, R, d, k, rfl, ml, hk, hz, hd, q⟩ := h
  have len := ev_lenL (K := K) (σ := L2.start n_first_with [.ref l, .int (d : Int), .int (k : Int)]) (ta := tVar 0) (ev_var rfl) (sq_of ml.1)
  rw [List.length_map, ml.2.1] at len
  refine q_forR2 (ea_2 (ev_var rfl) len) (by omega) (fun i σ' H' => ∃ (u : Option V), σ' = [some (.ref l), some (.int (d : Int)), some (.int (k : Int)), u] ∧ (∀ j, d ≤ j → j < d + i → ent R j k = 0) ∧ Ex H H') (fun H1 e1 => ⟨none, rfl, fun j h1 h2 => by omega, e1⟩) ?_ ?_
  · rintro i σ' H' hi ⟨u, rfl, hn, e'⟩
    have hi' : d + i < R.length := by omega
    have cast : ((d : Int) + (i : Int)) = ((d + i : Nat) : Int) := by omega
    rw [cast]
    refine s_when (et_neI (ev_ent (ev_var rfl) (ev_var rfl) (ev_var rfl) (ml.ex e') hi' (hk _ hi')) ev_c) (fun c H3 e3 => ?_) (fun c H3 e3 => ?_)
    · refine s_ret (ev_var rfl) fun H4 e4 => ?_
      have z : pv R d k = some (d + i) := pv_found hi' (by omega) (by simpa using c) fun j h1 h2 => hn j h1 h2
      rw [z] at q
      exact q H4 ((e'.trans e3).trans e4)
    · refine ⟨_, rfl, fun j h1 h2 => ?_, e'.trans e3⟩
      by_cases e : j = d + i
      · rw [e]; simpa using c
      · exact hn j h1 (by omega)
  · rintro σ' H' ⟨u, rfl, hn, e'⟩
    refine s_ret ev_c fun H4 e4 => ?_
    have z : pv R d k = none := pv_not fun j h1 h2 => hn j h1 (by omega)
    rw [z] at q
    exact q H4 (e'.trans e4)
theorem ok_first_with (T : Txt K mg) : FnOk P w K mg base CX0 1 T.f_first_with T.fd_first_with ["rows", "start", "column"] (sp_first_with T) :=
  T.d_first_with.F.ok sc_first_with (fun vs H Q E h => len_first_with T h) fun cdv A outer s H vs Q E hr h => ⟨t_first_with T, by
    exact (pss_cons (ps_for PassesOwn.never rfl (pi_range2 (by rfl) T.m_range (pa_cons (pv 1) (pa_cons (pe_callB call_len (by rfl) T.m_len (by decide +kernel) (pa_cons (pv 0) pa_nil)) pa_nil))) (pg_name (i := 3) sc_first_with.nd rfl (Or.inl rfl)) (pss_one (ps_if (pt_cmpR op_ne (pe_ix ix_list (pe_ix ix_list (pv 0) (pv 3) (fun _ _ => rfl)) (pv 2) (fun _ _ => rfl)) pe_int (nomark _)) (pss_one (ps_ret (pv 3))) pss_nil))) (pss_one (ps_ret pe_non))), pure_first_with T h⟩

def sp_clear_column (T : Txt K mg) : Sp := fun vs H Q _ => ∃ (l : Addr) (refs : List Addr) (R : Mx) (d k n : Nat) (p : Int), vs = [.ref l, .int (d : Int), .int (k : Int), .int p] ∧ MLr l refs R H ∧ WF p n R ∧ n ≤ 50 ∧ R.length ≤ 50 ∧ d < R.length ∧ k < n ∧ Prm p ∧ ent R d k ≠ 0 ∧
  ∀ refs' H', ExB l H H' → MLr l refs' (clr p (inv p (ent R d k)) R d k) H' → Q .non H'
theorem len_clear_column (T : Txt K mg) {vs H Q E} (h : sp_clear_column T vs H Q E) : vs.length = 4 := by obtain ⟨_, _, _, _, _, _, _, rfl, _⟩ := h; rfl
def t_clear_column (T : Txt K mg) : TS := (tSeq (tAsg (tCall (sp_inverse T) [] E0 (tCons (tOp (rIxL K) (tOp (rIxL K) (tVar 0) (tVar 1)) (tVar 2)) (tCons (tVar 3) tNil))) (gName 4)) (tSeq (tAsg (tLc (iList K (tOp (rIxL K) (tVar 0) (tVar 1))) (gName 8) tYes (tOp rModI (tOp rMulI (tVar 4) (tVar 8)) (tVar 3)) [8]) (gName 5)) (tFor (iRng1 (tCons (tCB (rLenV K) (tCons (tVar 0) tNil)) tNil)) (gName 6) (tSeq (tAsg (tOp (rIxL K) (tOp (rIxL K) (tVar 0) (tVar 6)) (tVar 2)) (gName 7)) (tIfS (tTest (tOp rEq (tVar 6) (tVar 1))) (tAsg (tVar 5) (gSub (tVar 0) (tVar 6) rSetL)) (tIfS (tTest (tOp rNe (tVar 7) (tC (.int 0)))) (tAsg (tLc (iZipB false false K (tCons (tOp (rIxL K) (tVar 0) (tVar 6)) (tCons (tVar 5) tNil))) (gTup K 2 (gCons (gName 8) (gCons (gName 9) gNil))) tYes (tOp rModI (tOp rSubI (tVar 8) (tOp rMulI (tVar 7) (tVar 9))) (tVar 3)) [8, 9]) (gSub (tVar 0) (tVar 6) rSetL)) tNext))))))

/-- the first i rows are new -/
def mix (R N : Mx) (i : Nat) : Mx := (List.range R.length).map fun r => if r < i then row N r else row R r
theorem len_mix {R N : Mx} {i : Nat} : (mix R N i).length = R.length := by simp [mix]
theorem row_mix {R N : Mx} {i r : Nat} (h : r < R.length) : row (mix R N i) r = if r < i then row N r else row R r := by
  unfold mix
  show ((List.range R.length).map _).getD r [] = _
  rw [getD_lt (by simpa using h), List.getElem_map, List.getElem_range]
theorem mix_zero {R N : Mx} : mix R N 0 = R := by
  apply List.ext_getElem?
  intro r
  by_cases h : r < R.length
  · rw [row_at (by rw [len_mix]; exact h), row_mix h, if_neg (Nat.not_lt_zero _), row_at h]
  · rw [List.getElem?_eq_none (by rw [len_mix]; omega), List.getElem?_eq_none (by omega)]
theorem mix_all {R N : Mx} (hl : N.length = R.length) : mix R N R.length = N := by
  apply List.ext_getElem?
  intro r
  by_cases h : r < R.length
  · rw [row_at (by rw [len_mix]; exact h), row_mix h, if_pos h, row_at (by omega)]
  · rw [List.getElem?_eq_none (by rw [len_mix]; omega), List.getElem?_eq_none (by omega)]
theorem mix_set {R N : Mx} {i : Nat} {r : Ro} (hi : i < R.length) (hr : row N i = r) : (mix R N i).set i r = mix R N (i + 1) := by
  apply List.ext_getElem?
  intro j
  by_cases h : j < R.length
  · rw [row_at (by rw [List.length_set, len_mix]; exact h), row_at (by rw [len_mix]; exact h), row_set (by rw [len_mix]; exact hi), row_mix h, row_mix h]
    by_cases e : j = i
    · rw [if_pos e, e, if_pos (Nat.lt_succ_self _), hr]
    · rw [if_neg e]
      by_cases c : j < i
      · rw [if_pos c, if_pos (by omega)]
      · rw [if_neg c, if_neg (by omega)]
  · rw [List.getElem?_eq_none (by rw [List.length_set, len_mix]; omega), List.getElem?_eq_none (by rw [len_mix]; omega)]
theorem mix_same {R N : Mx} {i : Nat} (hi : i < R.length) (hr : row N i = row R i) : mix R N i = mix R N (i + 1) := by
  rw [← mix_set hi hr]
  apply List.ext_getElem?
  intro j
  by_cases h : j < R.length
  · rw [row_at (by rw [len_mix]; exact h), row_at (by rw [List.length_set, len_mix]; exact h), row_set (by rw [len_mix]; exact hi)]
    by_cases e : j = i
    · rw [if_pos e, e, row_mix hi, if_neg (Nat.lt_irrefl _)]
    · rw [if_neg e]
  · rw [List.getElem?_eq_none (by rw [len_mix]; omega), List.getElem?_eq_none (by rw [List.length_set, len_mix]; omega)]
theorem led_zero {p : Int} {n : Nat} {R : Mx} (w : WF p n R) {i : Nat} (hi : i < R.length) {c : Ro} (hc : c.length = n) : led p 0 (row R i) c = row R i := by
  have l := (wf_row w hi).1
  apply List.ext_getElem?
  intro j
  by_cases h : j < n
  · have e1 : (led p 0 (row R i) c)[j]? = some (nth (led p 0 (row R i) c) j) := by
      unfold nth
      rw [getD_lt (by rw [len_led (by omega)]; omega), List.getElem?_eq_getElem]
    have e2 : (row R i)[j]? = some (nth (row R i) j) := by
      unfold nth
      rw [getD_lt (by omega), List.getElem?_eq_getElem]
    rw [e1, e2, nth_led (by omega), Int.zero_mul, Int.sub_zero]
    have m := (wf_row w hi).2 (nth (row R i) j) (List.mem_of_getElem? e2)
    rw [Int.emod_eq_of_lt m.1 m.2]
  · rw [List.getElem?_eq_none (by rw [len_led (by omega)]; omega), List.getElem?_eq_none (by omega)]
theorem pure_clear_column (T : Txt K mg) {vs H Q} {E : XK} (h : sp_clear_column T vs H Q E) : t_clear_column T { nx := fun _ H' => Q .non H', rt := Q } (L2.start n_clear_column vs) H := by
  obtain ⟨l, refs, R, d, k, n, p, rfl, ml, wf, hn, hz, hd, hk, P, ne, q⟩ := h
  have p5 := P.1
  have p6 := P.2.1
  have rl : ∀ i, i < R.length → (row R i).length = n := fun i hi => (wf_row wf hi).1
  have en := fun i j => wf_nth wf (show 0 < p by omega) i j
  have ed := en d k
  -- scale
  refine q_asg (ev_call (ea_2 (ev_ent (ev_var rfl) (ev_var rfl) (ev_var rfl) ml hd (by rw [rl d hd]; exact hk)) (ev_var rfl)) (v_inverse T P (by omega) ed.2)) fun H1 e1 => ?_
  have I := inv_is (Classical.choose_spec (P.has _ (show 0 < ent R d k by omega) ed.2))
  generalize hb : inv p (ent R d k) = b at I
  rw [hb] at q
  have ml1 := ml.ex e1
  obtain ⟨bd, hbd, nbd, hxd⟩ := ml1.at hd
  have lenN : (clr p b R d k).length = R.length := len_clr
  -- chosen
  refine q_asgL (xs := (scl p b (row R d)).map V.int) ?_ fun c H2 hc e2 hcx => ?_
  · have := el_lcL (σ := [some (.ref l), some (.int (d : Int)), some (.int (k : Int)), some (.int p), some (.int b), none, none, none, none, none]) (H := H1) (K := K) (j := 8) (vs := [8]) (t := tYes) (tl := tOp (rIxL K) (tVar 0) (tVar 1)) (te := tOp rModI (tOp rMulI (tVar 4) (tVar 8)) (tVar 3)) (fun _ => true) (fun i => .int (b * nth (row R d) i % p))
      (ev_row (ev_var rfl) (ev_var rfl) ml1 hbd) (sq_of hxd) (by rw [List.length_map, rl d hd]; omega) (fun x => rfl) (fun i x H1 e hx => et_yes) (fun i x H1 e hx _ => by
        have hi : i < (row R d).length := by have := (List.getElem?_eq_some_iff.mp hx).1; simpa using this
        rw [ints_at hi] at hx
        injection hx with hx
        subst hx
        exact ev_modI (ev_mulI (ev_var rfl) (ev_var rfl) (.inl ⟨by have := I.1; omega, by have := I.2.1; omega⟩)) (ev_var rfl) (by omega))
    rw [given_true, List.length_map, row_range (r := scl p b (row R d)) (len_scl) (fun i hi => by rw [nth_scl])] at this
    exact this
  · have ml2 := ml1.ex e2
    have ncl : c ≠ l := fun z => by rw [z, ml1.1] at hc; cases hc
    have len := ev_lenL (K := K) (σ := [some (.ref l), some (.int (d : Int)), some (.int (k : Int)), some (.int p), some (.int b), some (.ref c), none, none, none, none]) (ta := tVar 0) (H := H2) (ev_var rfl) (sq_of ml2.1)
    rw [List.length_map, ml2.2.1] at len
    refine s_forR1 (ea_1 len) (by omega) (fun i σ' H' => ∃ (refs' : List Addr) (u v : Option V), σ' = [some (.ref l), some (.int (d : Int)), some (.int (k : Int)), some (.int p), some (.int b), some (.ref c), u, v, none, none] ∧ ExB l H2 H' ∧ MLr l refs' (mix R (clr p b R d k) i) H')
      (fun H3 e3 => ⟨refs, none, none, rfl, .ex e3, by rw [mix_zero]; exact ml2.ex e3⟩) ?_ ?_
    · rintro i σ' H' hi ⟨refs', u, v, rfl, x', m'⟩
      have hi' : i < R.length := by omega
      have him : i < (mix R (clr p b R d k) i).length := by rw [len_mix]; exact hi'
      have ri : row (mix R (clr p b R d k) i) i = row R i := by rw [row_mix hi', if_neg (Nat.lt_irrefl _)]
      have eni : ent (mix R (clr p b R d k) i) i k = ent R i k := by unfold ent; rw [ri]
      have hci : H' c = some (.lst ((scl p b (row R d)).map V.int)) := x' c _ ncl hcx
      refine q_asg (v := .int (ent R i k)) ?_ fun H3 e3 => ?_
      · rw [← eni]
        exact ev_ent (ev_var rfl) (ev_var rfl) (ev_var rfl) m' him (by rw [ri, rl i hi']; exact hk)
      have m3 := m'.ex e3
      have x3 := x'.trans (ExB.ex (l := l) e3)
      have hc3 := e3 _ _ hci
      refine s_if (et_eqI (ev_var rfl) (ev_var rfl)) (fun cd H4 e4 => ?_) (fun cd H4 e4 => ?_)
      · have id : i = d := by have := of_decide_eq_true cd; omega
        subst id
        refine s_setL (j := i) (m3.ex e4).1 (ev_var rfl) (ev_var rfl) (ev_var rfl) (by rw [List.length_map, m3.2.1]; exact him) fun H5 e5 => ?_
        have m5 := (m3.ex (e4.trans e5)).set him ncl ((e4.trans e5) _ _ hc3)
        rw [mix_set hi' (by rw [row_clr hi', if_pos rfl])] at m5
        exact ⟨_, _, _, rfl, (x3.trans (.ex (e4.trans e5))).trans ExB.upd, m5⟩
      · have id : i ≠ d := fun z => by subst z; simp at cd
        refine s_when (et_neI (ev_var rfl) ev_c) (fun ct H5 e5 => ?_) (fun ct H5 e5 => ?_)
        · have m5 := m3.ex (e4.trans e5)
          obtain ⟨bi, hbi, nbi, hxi⟩ := m5.at him
          rw [ri] at hxi
          have hc5 := (e4.trans e5) _ _ hc3
          refine s_setLL (ys := (led p (ent R i k) (row R i) (scl p b (row R d))).map V.int) (j := i) m5.1 ?_ (fun H6 e6 => ev_var rfl) (fun H6 e6 => ev_var rfl) (by rw [List.length_map, m5.2.1]; exact him) fun pa H6 hp e6 hpx => ?_
          · have := el_lcZ (K := K) (σ := [some (.ref l), some (.int (d : Int)), some (.int (k : Int)), some (.int p), some (.int b), some (.ref c), some (.int (i : Int)), some (.int (ent R i k)), none, none]) (H := H5) (t1 := false) (t2 := false) (i := 8) (j := 9) (vs := [8, 9]) (te := tOp rModI (tOp rSubI (tVar 8) (tOp rMulI (tVar 7) (tVar 9))) (tVar 3)) (fun m => .int ((nth (row R i) m - ent R i k * nth (scl p b (row R d)) m) % p))
              (ea_2 (ev_row (K := K) (ta := tVar 0) (tb := tVar 6) (ev_var rfl) (ev_var rfl) m5 hbi) (ev_var (i := 5) rfl)) (sq_of (K := K) hxi) (sq_of (K := K) hc5) (by rw [List.length_map, List.length_map, len_scl, rl i hi', rl d hd]) (by rw [List.length_map, rl i hi']; omega) (fun x y => rfl) (fun t a xs H' e h => ex_B e h)
              (fun m x y H7 e7 hx hy => by
                have h1 : m < (row R i).length := by have := (List.getElem?_eq_some_iff.mp hx).1; simpa using this
                have h2 : m < (scl p b (row R d)).length := by have := (List.getElem?_eq_some_iff.mp hy).1; simpa using this
                rw [ints_at h1] at hx
                rw [ints_at h2] at hy
                injection hx with hx
                injection hy with hy
                subst hx hy
                have := en i k
                exact ev_modI (ev_subI (ev_var rfl) (ev_mulI (ev_var rfl) (ev_var rfl) (.inl ⟨by omega, by omega⟩))) (ev_var rfl) (by omega))
            have ll : (row R i).length = (scl p b (row R d)).length := by rw [len_scl, rl i hi', rl d hd]
            rw [List.length_map, row_range (r := led p (ent R i k) (row R i) (scl p b (row R d))) (len_led ll) (fun j hj => by rw [nth_led ll])] at this
            exact this
          · have npl : pa ≠ l := fun z => by rw [z, m5.1] at hp; cases hp
            have m6 := (m5.ex e6).set him npl hpx
            rw [mix_set hi' (by rw [row_clr hi', if_neg id])] at m6
            exact ⟨_, _, _, rfl, (x3.trans (.ex ((e4.trans e5).trans e6))).trans ExB.upd, m6⟩
        · have ez : ent R i k = 0 := by simpa using ct
          refine ⟨refs', _, _, rfl, x3.trans (.ex (e4.trans e5)), ?_⟩
          rw [← mix_same hi' (by rw [row_clr hi', if_neg id, ez, led_zero wf hi' (by rw [len_scl, rl d hd])])]
          exact m3.ex (e4.trans e5)
    · rintro σ' H' ⟨refs', u, v, rfl, x', m'⟩
      have m'' : MLr l refs' (mix R (clr p b R d k) R.length) H' := m'
      rw [mix_all len_clr] at m''
      exact q refs' H' ((ExB.ex (e1.trans e2)).trans x') m''
theorem ok_clear_column (T : Txt K mg) : FnOk P w K mg base CX0 2 T.f_clear_column T.fd_clear_column ["rows", "pivot", "column", "p"] (sp_clear_column T) :=
  T.d_clear_column.F.ok sc_clear_column (fun vs H Q E h => len_clear_column T h) fun cdv A outer s H vs Q E hr h => ⟨t_clear_column T, by
    exact (pss_cons (ps_set (i := 4) sc_clear_column.nd rfl (Or.inr rfl) (pe_call (ok_inverse T) (hr.mono (by decide)) (by rfl) T.d_inverse.g T.d_inverse.F.kp T.d_inverse.b .nil pass0 (pa_cons (pe_ix ix_list (pe_ix ix_list (pv 0) (pv 1) (fun _ _ => rfl)) (pv 2) (fun _ _ => rfl)) (pa_cons (pv 3) pa_nil)))) (pss_cons (ps_setLc (i := 5) (own := [("number", 8)]) (g := (gName 8)) (tt := tYes) (te := (tOp rModI (tOp rMulI (tVar 4) (tVar 8)) (tVar 3))) rfl sc_clear_column.nd rfl rfl (sw_true rfl rfl rfl (by decide +kernel)) (pi_list (pe_ix ix_list (pv 0) (pv 1) (fun _ _ => rfl))) (blkOk_by (own := [("number", 8)]) (N := n_clear_column) (sc := defScope s_clear_column) (by decide +kernel)) (fun _ _ _ _ _ => (pg_name (i := 8) sc_clear_column.nd rfl (Or.inl rfl))) (fun _ _ _ _ _ => pts_nil) (fun _ _ _ _ _ => (pe_op op_mod (pe_op op_mul (pv 4) (pv 8)) (pv 3)))) (pss_one (ps_for PassesOwn.never rfl (pi_range1 (by rfl) T.m_range (pa_cons (pe_callB call_len (by rfl) T.m_len (by decide +kernel) (pa_cons (pv 0) pa_nil)) pa_nil)) (pg_name (i := 6) sc_clear_column.nd rfl (Or.inl rfl)) (pss_cons (ps_set (i := 7) sc_clear_column.nd rfl (Or.inr rfl) (pe_ix ix_list (pe_ix ix_list (pv 0) (pv 6) (fun _ _ => rfl)) (pv 2) (fun _ _ => rfl))) (pss_one (ps_if (pt_cmpR op_eq (pv 6) (pv 1) (nomark _)) (pss_one (ps_asg (pv 5) (pg_sub (pv 0) (pv 6) set_list))) (pss_one (ps_if (pt_cmpR op_ne (pv 7) pe_int (nomark _)) (pss_one (ps_asg (pe_lc (own := [("number", 8), ("other", 9)]) (g := (gTup K 2 (gCons (gName 8) (gCons (gName 9) gNil)))) (tt := tYes) (te := (tOp rModI (tOp rSubI (tVar 8) (tOp rMulI (tVar 7) (tVar 9))) (tVar 3))) rfl sc_clear_column.nd (pi_zipB false false (by rfl) T.m_zip (pa_cons (pe_ix ix_list (pv 0) (pv 6) (fun _ _ => rfl)) (pa_cons (pv 5) pa_nil))) (blkOk_by (own := [("number", 8), ("other", 9)]) (N := n_clear_column) (sc := defScope s_clear_column) (by decide +kernel)) (fun _ _ _ _ _ => (pg_tup rfl (pgs_cons (pg_name (i := 8) sc_clear_column.nd rfl (Or.inl rfl)) (pgs_cons (pg_name (i := 9) sc_clear_column.nd rfl (Or.inl rfl)) pgs_nil)))) (fun _ _ _ _ _ => pts_nil) (fun _ _ _ _ _ => (pe_op op_mod (pe_op op_sub (pv 8) (pe_op op_mul (pv 7) (pv 9))) (pv 3)))) (pg_sub (pv 0) (pv 6) set_list))) pss_nil))))))))), pure_clear_column T h⟩

end
end My


namespace Own
open PySem PySem.Spec PyProof.Rows L2
open Evl
section
variable {K : PySem.W.Frag} {σ : L2.St} {H H' : Hp} {te ta tb tl : TE} {x y z w : V} {D : Ends} {tz tu t : TS} {R M : Mx} {l m : Addr} {refs : List Addr}
/-- for i, x in enumerate(xs) -/
theorem s_forE {b : Bool} {ta : TA} {a : Addr} {xs : List V} {i j : Nat} (h : EvA ta σ H [.ref a]) (hx : SqB b K H a xs) (Pv : Nat → L2.St → Hp → Prop) (h0 : ∀ H1, Ex H H1 → Pv 0 σ H1) (hG : ∀ m σ' H', Pv m σ' H' → SqB b K H' a xs)
    (hs : ∀ m x σ' H' H2, xs[m]? = some x → Pv m σ' H' → Ex H' H2 → tu { D with nx := Pv (m + 1), ct := Pv (m + 1), bk := D.nx } ((σ'.set i (some (.int (m : Int)))).set j (some x)) H2) (hd : ∀ σ' H', Pv xs.length σ' H' → D.nx σ' H') :
    tFor (iEnumB b K ta) (gTup K 2 (gCons (gName i) (gCons (gName j) gNil))) tu D σ H :=
  h H (.refl H) _ fun H1 e1 => ⟨a, xs, rfl, ex_B e1 hx, for_it walk_enumB Pv (h0 H1 e1) (fun m σ' H' _ p => hG m σ' H' p)
    (fun m v σ' H2 H3 hm p => by
      rintro ⟨T, x, y, rfl, hT, rfl, h1, h2⟩
      injection h1 with h1
      subst h1
      exact ⟨T, _, rfl, st_of upd_same, rfl, _, _, rfl, y, _, rfl, rfl, hs m y σ' H2 _ h2 p (Ex.new hT)⟩) hd⟩
theorem q_forE {b : Bool} {ta : TA} {a : Addr} {xs : List V} {i j : Nat} (h : EvA ta σ H [.ref a]) (hx : SqB b K H a xs) (Pv : Nat → L2.St → Hp → Prop) (h0 : ∀ H1, Ex H H1 → Pv 0 σ H1) (hG : ∀ m σ' H', Pv m σ' H' → SqB b K H' a xs)
    (hs : ∀ m x σ' H' H2, xs[m]? = some x → Pv m σ' H' → Ex H' H2 → tu { D with nx := Pv (m + 1), ct := Pv (m + 1), bk := tz D } ((σ'.set i (some (.int (m : Int)))).set j (some x)) H2) (hd : ∀ σ' H', Pv xs.length σ' H' → tz D σ' H') :
    tSeq (tFor (iEnumB b K ta) (gTup K 2 (gCons (gName i) (gCons (gName j) gNil))) tu) tz D σ H := s_forE (D := { D with nx := tz D }) h hx Pv h0 hG hs hd
/-- for x, y in zip(xs, ys), of one length -/
theorem s_forZ {b1 b2 : Bool} {ta : TA} {a c : Addr} {xs ys : List V} {i j : Nat} (h : EvA ta σ H [.ref a, .ref c]) (hx : SqB b1 K H a xs) (hy : SqB b2 K H c ys) (hl : xs.length = ys.length) (Pv : Nat → L2.St → Hp → Prop) (h0 : ∀ H1, Ex H H1 → Pv 0 σ H1)
    (hG : ∀ m σ' H', Pv m σ' H' → SqB b1 K H' a xs ∧ SqB b2 K H' c ys)
    (hs : ∀ m x y σ' H' H2, xs[m]? = some x → ys[m]? = some y → Pv m σ' H' → Ex H' H2 → tu { D with nx := Pv (m + 1), ct := Pv (m + 1), bk := D.nx } ((σ'.set i (some x)).set j (some y)) H2) (hd : ∀ σ' H', Pv xs.length σ' H' → D.nx σ' H') :
    tFor (iZipB b1 b2 K ta) (gTup K 2 (gCons (gName i) (gCons (gName j) gNil))) tu D σ H :=
  h H (.refl H) _ fun H1 e1 => ⟨a, c, xs, ys, rfl, ex_B e1 hx, ex_B e1 hy, for_it (walk_zipB (n := xs.length) (by omega)) Pv (h0 H1 e1) (fun m σ' H' _ p => hG m σ' H' p)
    (fun m v σ' H2 H3 hm p => by
      rintro ⟨T, x, y, rfl, hT, rfl, h1, h2⟩
      exact ⟨T, _, rfl, st_of upd_same, rfl, x, _, rfl, y, _, rfl, rfl, hs m x y σ' H2 _ h1 h2 p (Ex.new hT)⟩) hd⟩
theorem q_forZ {b1 b2 : Bool} {ta : TA} {a c : Addr} {xs ys : List V} {i j : Nat} (h : EvA ta σ H [.ref a, .ref c]) (hx : SqB b1 K H a xs) (hy : SqB b2 K H c ys) (hl : xs.length = ys.length) (Pv : Nat → L2.St → Hp → Prop) (h0 : ∀ H1, Ex H H1 → Pv 0 σ H1)
    (hG : ∀ m σ' H', Pv m σ' H' → SqB b1 K H' a xs ∧ SqB b2 K H' c ys)
    (hs : ∀ m x y σ' H' H2, xs[m]? = some x → ys[m]? = some y → Pv m σ' H' → Ex H' H2 → tu { D with nx := Pv (m + 1), ct := Pv (m + 1), bk := tz D } ((σ'.set i (some x)).set j (some y)) H2) (hd : ∀ σ' H', Pv xs.length σ' H' → tz D σ' H') :
    tSeq (tFor (iZipB b1 b2 K ta) (gTup K 2 (gCons (gName i) (gCons (gName j) gNil))) tu) tz D σ H := s_forZ (D := { D with nx := tz D }) h hx hy hl Pv h0 hG hs hd
/-- a call that returns something new -/
def SpN (sp : Sp) (vs : List V) (H : Hp) (P : Addr → Hp → Prop) : Prop := ∀ H1, Ex H H1 → ∀ Q : VK, (∀ l H2, H1 l = none → Ex H1 H2 → P l H2 → Q (.ref l) H2) → ∀ E : XK, sp vs H1 Q E
theorem en_call {sp : Sp} {vs : List V} {E : XK} {ta : TA} {P : Addr → Hp → Prop} (h : EvA ta σ H vs) (hs : SpN sp vs H P) : EvN (tCall sp [] E ta) σ H P := fun H1 e Q q =>
  h H1 e _ fun H2 e2 => by rw [List.append_nil]; exact hs H2 (e.trans e2) Q (fun l H3 hl e3 p => q l H3 (fresh_back e2 hl) (e2.trans e3) p) E
/-- [e] * k -/
theorem rep_one {v : V} : ∀ k : Nat, (List.replicate k [v]).flatten = List.replicate k v
  | 0 => rfl
  | k + 1 => by rw [List.replicate_succ, List.flatten_cons, rep_one k, List.replicate_succ]; rfl
theorem el_rep {v : V} {k : Int} (h : Ev te σ H v) (hk : Ev tb σ H (.int k)) (h0 : 0 ≤ k) (h1 : k ≤ 1000) : EvL (tOp rRep (tLst (tCons te tNil)) tb) σ H (List.replicate k.toNat v) := fun H1 e Q q =>
  (el_lst (ea_1 h) (by show 1 ≤ 100000; decide)) H1 e _ fun p H2 hp e2 hx => hk H2 (e.trans e2) _ fun H3 e3 => ⟨p, k, [v], rfl, rfl, e3 _ _ hx, by omega, by omega, sz_of (by show 1 * k.toNat ≤ 100000; omega), fun r hr => by
    rw [rep_one]
    exact q r _ (fresh_back (e2.trans e3) hr) ((e2.trans e3).trans (Ex.new hr)) upd_same⟩
theorem rep_ints {k : Nat} : List.replicate k (V.int 0) = (List.replicate k (0 : Int)).map V.int := by rw [List.map_replicate]
def ofN (S : List Nat) : List V := S.map fun (s : Nat) => V.int (s : Int)
theorem inV_nat {f : Nat} {S : List Nat} : inV (.int (f : Int)) (ofN S) = decide (f ∈ S) := by
  unfold inV ofN
  induction S with
  | nil => simp
  | cons s S ih =>
    rw [List.map_cons, List.any_cons, ih]
    show (((s : Int) == (f : Int)) || decide (f ∈ S)) = _
    by_cases e : s = f
    · subst e; simp
    · have e1 : ((s : Int) == (f : Int)) = false := by
        rw [beq_eq_false_iff_ne]; omega
      rw [e1, Bool.false_or]
      simp [Ne.symm e]
theorem flat_nat {S : List Nat} : (ofN S).all flatV = true := by
  rw [List.all_eq_true]
  intro v hv
  obtain ⟨s, _, rfl⟩ := List.mem_map.mp hv
  rfl
theorem et_notIn {f : Nat} {S : List Nat} {p : Addr} (ha : Ev ta σ H (.int (f : Int))) (hb : Ev tb σ H (.ref p)) (hs : SqL K H p (ofN S)) : EvT (tTest (tOp (rIn K true) ta tb)) σ H (!decide (f ∈ S)) := by
  rw [← inV_nat]; exact et_test (ev_op ha hb (rv_niL hs rfl flat_nat))
theorem et_in {f : Nat} {S : List Nat} {p : Addr} (ha : Ev ta σ H (.int (f : Int))) (hb : Ev tb σ H (.ref p)) (hs : SqL K H p (ofN S)) : EvT (tTest (tOp (rIn K false) ta tb)) σ H (decide (f ∈ S)) := by
  rw [← inV_nat]; exact et_test (ev_op ha hb (rv_isL hs rfl flat_nat))
/-- the first place of a number that isn't nought -/
def fstP (r : Ro) : Option Nat := (List.range r.length).find? fun i => decide (nth r i ≠ 0)
theorem fstP_some {r : Ro} {i : Nat} (h : i < r.length) (h1 : nth r i ≠ 0) (h2 : ∀ j, j < i → nth r j = 0) : fstP r = some i := by
  unfold fstP
  rw [List.find?_range_eq_some]
  exact ⟨by simp [h1], List.mem_range.mpr h, fun j hj => by simp [h2 j hj]⟩
theorem fstP_none {r : Ro} (h : ∀ j, j < r.length → nth r j = 0) : fstP r = none := by
  unfold fstP
  rw [List.find?_eq_none]
  intro j hj
  simp [h j (List.mem_range.mp hj)]
theorem good_first {p : Int} {n k : Nat} {s : Sta} (g : Good p n k s) (hk : k ≤ n) {r : Nat} (h : r < s.d) : fstP (row s.R r) = some (s.S.getD r 0) := by
  have hr : r < s.R.length := by have := g.dr; omega
  have hS := S_at (S := s.S) (t := r) (by have := g.dl; omega)
  have lt := g.lt _ (List.mem_of_getElem? hS)
  refine fstP_some (by rw [(wf_row g.wf hr).1]; omega) ?_ (g.pre r _ hS)
  have := g.one r _ hS r hr
  rw [if_pos rfl] at this
  show ent s.R r _ ≠ 0
  rw [this]; decide
noncomputable def rr (p : Int) (M : Mx) (n : Nat) : Mx := (red p M n).R.take (red p M n).d
theorem row_take {R : Mx} {d i : Nat} (h : i < d) : row (R.take d) i = row R i := by
  unfold row
  rw [List.getD_eq_getElem?_getD, List.getD_eq_getElem?_getD, List.getElem?_take, if_pos h]
theorem len_rr {p : Int} {M : Mx} {n : Nat} (hp : 1 < p) (hI : HasInv p) (w : WF p n M) : (rr p M n).length = (red p M n).d := by
  unfold rr
  rw [List.length_take]
  have := (good_red hp hI w n).dr
  omega
end
end Own


set_option maxHeartbeats 1000000
namespace My
open PySem PySem.Spec PyProof.Rows L2 Own
open Evl (Ex RetV)
section
variable {P : Program} {w : World} {K : PySem.W.Frag} {mg : Str → Option Value} {base : Heap}

open Evl
/-! ### reduced rows of the program -/
def sp_reduced (T : Txt K mg) : Sp := fun vs H Q _ => ∃ (m : Addr) (M : Mx) (n : Nat) (p : Int), vs = [.ref m, .int (n : Int), .int p] ∧ MS K m M H ∧ WF p n M ∧ n ≤ 40 ∧ M.length ≤ 40 ∧ Prm p ∧ ∀ t H', H t = none → Ex H H' → MT K t (rr p M n) H' → Q (.ref t) H'
theorem len_reduced (T : Txt K mg) {vs H Q E} (h : sp_reduced T vs H Q E) : vs.length = 3 := by obtain ⟨_, _, _, _, rfl, _⟩ := h; rfl
theorem v_reduced (T : Txt K mg) {H : Hp} {m : Addr} {M : Mx} {n : Nat} {p : Int} (h : MS K m M H) (w : WF p n M) (h1 : n ≤ 40) (h2 : M.length ≤ 40) (P : Prm p) : SpN (sp_reduced T) [.ref m, .int (n : Int), .int p] H (fun t H' => MT K t (rr p M n) H') :=
  fun H1 e Q q E => ⟨m, M, n, p, rfl, h.ex e, w, h1, h2, P, q⟩
def t_reduced (T : Txt K mg) : TS := (tSeq (tAsg (tLc (iSeq K (tVar 0)) (gName 7) tYes (tCB (rListOf K) (tCons (tVar 7) tNil)) [7]) (gName 3)) (tSeq (tAsg (tC (.int 0)) (gName 4)) (tSeq (tFor (iRng1 (tCons (tVar 1) tNil)) (gName 5) (tSeq (tAsg (tCall (sp_first_with T) [] E0 (tCons (tVar 3) (tCons (tVar 4) (tCons (tVar 5) tNil)))) (gName 6)) (tIfS (tTest (tOp rNotN (tVar 6) (tC .non))) (tSeq (tAsg (tTup (tCons (tOp (rIxL K) (tVar 3) (tVar 6)) (tCons (tOp (rIxL K) (tVar 3) (tVar 4)) tNil))) (gTup K 2 (gCons (gSub (tVar 3) (tVar 4) rSetL) (gCons (gSub (tVar 3) (tVar 6) rSetL) gNil)))) (tSeq (tDrop (tCall (sp_clear_column T) [] E0 (tCons (tVar 3) (tCons (tVar 4) (tCons (tVar 5) (tCons (tVar 2) tNil)))))) (tAug 4 (tC (.int 1)) (ipI fun i j => i + j)))) tNext))) (tRet (tCB (rTupOf K) (tCons (tLc (iList K (tSl (rSlL K) (tVar 3) tNoPart (tPart (tVar 4)))) (gName 7) tYes (tCB (rTupOf K) (tCons (tVar 7) tNil)) [7]) tNil))))))

theorem mlr_of {l : Addr} {M : Mx} {H : Hp} {n : Nat} (h : LsO n (fun i => .lst ((row M i).map V.int)) l H) (hn : n = M.length) : ∃ refs, MLr l refs M H := let ⟨refs, h1, h2, h3⟩ := h; ⟨refs, h1, h2.trans hn, h3⟩
theorem ms_at {K : PySem.W.Frag} {H : Hp} {refs : List Addr} {i : Nat} {x : V} (h : (refs.map V.ref)[i]? = some x) : ∃ b, refs[i]? = some b ∧ x = .ref b := by
  rw [List.getElem?_map] at h
  cases e : refs[i]? with
  | none => rw [e] at h; cases h
  | some b => rw [e] at h; injection h with h; exact ⟨b, rfl, h.symm⟩
theorem pure_reduced (T : Txt K mg) {vs H Q} {E : XK} (h : sp_reduced T vs H Q E) : t_reduced T { nx := fun _ H' => Q .non H', rt := Q } (L2.start n_reduced vs) H := by
  obtain ⟨m, M, n, p, rfl, ⟨refsM, hm, hml, hmr⟩, wf, hn, hz, P, q⟩ := h
  have p5 := P.1
  have G := good_red (show 1 < p by omega) P.has wf
  refine q_asgN (en_lcS (o := fun i => .lst ((row M i).map V.int)) (ev_var rfl) hm (by rw [List.length_map]; omega) (fun x => rfl) (fun i x H' e hx hi => ?_)) fun l H1 hl e1 P1 => ?_
  · obtain ⟨b, hb, rfl⟩ := ms_at (K := K) (H := H) hx
    exact eh_list (ev_var rfl) (ex_a e (hmr i b hb))
  · obtain ⟨refs1, ml1⟩ := mlr_of P1 (by rw [List.length_map]; exact hml)
    refine q_asg ev_c fun H2 e2 => ?_
    refine q_forR1 (ea_1 (ev_var rfl)) (by omega) (fun j σ' H' => ∃ (refs : List Addr) (u v : Option V), σ' = [some (.ref m), some (.int (n : Int)), some (.int p), some (.ref l), some (.int ((red p M j).d : Int)), u, v, none] ∧ Ex H H' ∧ MLr l refs (red p M j).R H')
      (fun H3 e3 => ⟨refs1, none, none, rfl, (e1.trans e2).trans e3, ml1.ex (e2.trans e3)⟩) ?_ ?_
    · rintro j σ' H' hj ⟨refs, u, v, rfl, e', ml⟩
      have g := G j
      have lr := len_red (p := p) (M := M) j
      have gd := g.dr
      have hrl : ∀ i, i < (red p M j).R.length → (row (red p M j).R i).length = n := fun i hi => (wf_row g.wf hi).1
      refine q_asg (ev_call (ea_3 (ev_var rfl) (ev_var rfl) (ev_var rfl)) (v_first_with T ml (fun i hi => by rw [hrl i hi]; omega) (by omega) (by omega))) fun H3 e3 => ?_
      cases hp : pv (red p M j).R (red p M j).d j with
      | none =>
        refine s_when (b := false) (et_test (ev_is (ev_notN (ev_var (i := 6) (v := .non) rfl)) (by simp))) (fun c => by cases c) (fun _ H4 e4 => ?_)
        have z : red p M (j + 1) = red p M j := by show stp p (red p M j) j = _; unfold stp; rw [hp]
        refine ⟨refs, some (.int (j : Int)), some .non, ?_, (e'.trans e3).trans e4, ?_⟩
        · rw [z]; rfl
        · rw [z]; exact ml.ex (e3.trans e4)
      | some i =>
        obtain ⟨hi, hdi, hne⟩ := pv_some hp
        have hd : (red p M j).d < (red p M j).R.length := by omega
        have z : red p M (j + 1) = ⟨clr p (inv p (ent (swp (red p M j).R (red p M j).d i) (red p M j).d j)) (swp (red p M j).R (red p M j).d i) (red p M j).d j, (red p M j).d + 1, (red p M j).S ++ [j]⟩ := by
          show stp p (red p M j) j = _; unfold stp; rw [hp]
        refine s_when (b := true) (et_test (ev_is (ev_notN (ev_var (i := 6) (v := .int (i : Int)) rfl)) (by simp))) (fun _ H4 e4 => ?_) (fun c => by cases c)
        have m4 := ml.ex (e3.trans e4)
        obtain ⟨bi, hbi, _, _⟩ := m4.at hi
        obtain ⟨bd, hbd, _, _⟩ := m4.at hd
        refine s_swap (D := { nx := _, rt := _, bk := _, ct := _ }) m4 hi hd hbi hbd (fun _ => ev_var rfl) (fun _ => ev_var rfl) (ea_2 (ev_row (ev_var rfl) (ev_var rfl) m4 hbi) (ev_row (ev_var rfl) (ev_var rfl) m4 hbd)) (fun _ _ => ev_var rfl) fun refs5 H5 x5 m5 => ?_
        have w5 := wf_swp g.wf hd hi
        have ne5 : ent (swp (red p M j).R (red p M j).d i) (red p M j).d j ≠ 0 := by
          unfold ent
          rw [row_swp hd hi]
          split
          · rename_i y; rw [← y] at hne; exact hne
          · rw [if_pos rfl]; exact hne
        refine ⟨_, rfl, _, rfl, _, rfl, _, rfl, l, refs5, _, (red p M j).d, j, n, p, rfl, m5, w5, by omega, by rw [len_swp]; omega, by rw [len_swp]; exact hd, by omega, P, ne5, fun refs6 H6 x6 m6 => ?_⟩
        refine s_aug (a := ((red p M j).d : Int)) (b := 1) rfl ev_c fun H7 e7 => ?_
        refine ⟨refs6, some (.int (j : Int)), some (.int (i : Int)), ?_, ?_, ?_⟩
        · rw [z]; rfl
        · exact (ExB.to hl ((e'.trans e3).trans e4) (x5.trans x6)).trans e7
        · rw [z]; exact m6.ex e7
    · rintro σ' H' ⟨refs, u, v, rfl, e', ml⟩
      have ml' : MLr l refs (red p M n).R H' := ml
      have hd' : (red p M (n : Int).toNat).d = (red p M n).d := rfl
      have dr := (G n).dr
      have lrefs := ml'.2.1
      have cut : cutV (refs.map V.ref) none (some (((red p M n).d : Nat) : Int)) = (refs.map V.ref).take (red p M n).d := cut_lo (by rw [List.length_map]; omega)
      have lrr := len_rr (show 1 < p by omega) P.has wf
      refine s_retN (en_tup (M := rr p M n) (n := ((refs.map V.ref).take (red p M n).d).length) (en_lcNL (xs := (refs.map V.ref).take (red p M n).d) ?_ (by have := len_red (p := p) (M := M) n; rw [List.length_take, List.length_map]; omega) (fun x => rfl) (fun i x H2 e hx hi => ?_)) ?_) fun t H2 ht e2 mt => q t H2 (fresh_back e' ht) (e'.trans e2) mt
      · rw [← cut]
        exact el_sl (ev_var rfl) eo_none (eo_some (ev_var rfl)) (sq_of ml'.1)
      · have hi' : i < (red p M n).d := by rw [List.length_take] at hi; omega
        rw [List.getElem?_take, if_pos hi'] at hx
        obtain ⟨b, hb, rfl⟩ := ms_at (K := K) (H := H) hx
        have er : row (rr p M n) i = row (red p M n).R i := row_take hi'
        rw [er]
        exact eh_tup (ev_var rfl) (sq_of (e _ _ (ml'.2.2 i b hb).2))
      · rw [lrr, List.length_take, List.length_map]; omega
theorem ok_reduced (T : Txt K mg) : FnOk P w K mg base CX0 3 T.f_reduced T.fd_reduced ["matrix", "many", "p"] (sp_reduced T) :=
  T.d_reduced.F.ok sc_reduced (fun vs H Q E h => len_reduced T h) fun cdv A outer s H vs Q E hr h => ⟨t_reduced T, by
    exact (pss_cons (ps_setLc (i := 3) (own := [("row", 7)]) (g := (gName 7)) (tt := tYes) (te := (tCB (rListOf K) (tCons (tVar 7) tNil))) rfl sc_reduced.nd rfl rfl (sw_true rfl rfl rfl (by decide +kernel)) (pi_seq (pv 0)) (blkOk_by (own := [("row", 7)]) (N := n_reduced) (sc := defScope s_reduced) (by decide +kernel)) (fun _ _ _ _ _ => (pg_name (i := 7) sc_reduced.nd rfl (Or.inl rfl))) (fun _ _ _ _ _ => pts_nil) (fun _ _ _ _ _ => (pe_callTy call_list_of (by rfl) T.m_list (by decide +kernel) (pa_cons (pv 7) pa_nil)))) (pss_cons (ps_set (i := 4) sc_reduced.nd rfl (Or.inl rfl) pe_int) (pss_cons (ps_for PassesOwn.never rfl (pi_range1 (by rfl) T.m_range (pa_cons (pv 1) pa_nil)) (pg_name (i := 5) sc_reduced.nd rfl (Or.inl rfl)) (pss_cons (ps_set (i := 6) sc_reduced.nd rfl (Or.inl rfl) (pe_call (ok_first_with T) (hr.mono (by decide)) (by rfl) T.d_first_with.g T.d_first_with.F.kp T.d_first_with.b .nil pass0 (pa_cons (pv 3) (pa_cons (pv 4) (pa_cons (pv 5) pa_nil))))) (pss_one (ps_if (pt_cmpR op_notN (pv 6) pe_non (nomark _)) (pss_cons (ps_asg (pe_tup (pa_cons (pe_ix ix_list (pv 3) (pv 6) (fun _ _ => rfl)) (pa_cons (pe_ix ix_list (pv 3) (pv 4) (fun _ _ => rfl)) pa_nil))) (pg_tup rfl (pgs_cons (pg_sub (pv 3) (pv 4) set_list) (pgs_cons (pg_sub (pv 3) (pv 6) set_list) pgs_nil)))) (pss_cons (ps_expr (pe_call (ok_clear_column T) (hr.mono (by decide)) (by rfl) T.d_clear_column.g T.d_clear_column.F.kp T.d_clear_column.b .nil pass0 (pa_cons (pv 3) (pa_cons (pv 4) (pa_cons (pv 5) (pa_cons (pv 2) pa_nil)))))) (pss_one (ps_aug (i := 4) sc_reduced.nd rfl (Or.inl rfl) pe_int ip_add)))) pss_nil)))) (pss_one (ps_ret (pe_callTy call_tuple_of (by rfl) T.m_tuple (by decide +kernel) (pa_cons (pe_lc (own := [("row", 7)]) (g := (gName 7)) (tt := tYes) (te := (tCB (rTupOf K) (tCons (tVar 7) tNil))) rfl sc_reduced.nd (pi_list (pe_slice sl_list (pv 3) po_none (po_some (pv 4)))) (blkOk_by (own := [("row", 7)]) (N := n_reduced) (sc := defScope s_reduced) (by decide +kernel)) (fun _ _ _ _ _ => (pg_name (i := 7) sc_reduced.nd rfl (Or.inl rfl))) (fun _ _ _ _ _ => pts_nil) (fun _ _ _ _ _ => (pe_callTy call_tuple_of (by rfl) T.m_tuple (by decide +kernel) (pa_cons (pv 7) pa_nil)))) pa_nil))))))), pure_reduced T h⟩

def sp_first_place (T : Txt K mg) : Sp := fun vs H Q _ => ∃ (t : Addr) (r : Ro), vs = [.ref t] ∧ SqT K H t (r.map V.int) ∧ RetV (optN (fstP r)) H Q
theorem len_first_place (T : Txt K mg) {vs H Q E} (h : sp_first_place T vs H Q E) : vs.length = 1 := by obtain ⟨_, _, rfl, _⟩ := h; rfl
theorem v_first_place (T : Txt K mg) {H : Hp} {t : Addr} {r : Ro} (h : SqT K H t (r.map V.int)) : SpV (sp_first_place T) [.ref t] H (optN (fstP r)) := spv fun H1 e Q q E => ⟨t, r, rfl, ex_t e h, q⟩
def t_first_place (T : Txt K mg) : TS := (tSeq (tFor (iEnumB true K (tCons (tVar 0) tNil)) (gTup K 2 (gCons (gName 1) (gCons (gName 2) gNil))) (tIfS (tTest (tOp rNe (tVar 2) (tC (.int 0)))) (tRet (tVar 1)) tNext)) (tRet (tC .non)))

theorem pure_first_place (T : Txt K mg) {vs H Q} {E : XK} (h : sp_first_place T vs H Q E) : t_first_place T { nx := fun _ H' => Q .non H', rt := Q } (L2.start n_first_place vs) H := by
  obtain ⟨t, r, rfl, ht, q⟩ := h
  refine q_forE (K := K) (b := true) (ea_1 (ev_var rfl)) (show SqB true K H t (r.map V.int) from ht) (fun i σ' H' => ∃ (u v : Option V), σ' = [some (.ref t), u, v] ∧ (∀ j, j < i → nth r j = 0) ∧ Ex H H') (fun H1 e1 => ⟨none, none, rfl, fun j hj => absurd hj (Nat.not_lt_zero _), e1⟩) ?_ ?_ ?_
  · rintro m σ' H' ⟨u, v, rfl, _, e'⟩
    exact ex_t e' ht
  · rintro m x σ' H' H2 hx ⟨u, v, rfl, hn, e'⟩ e2
    have hm : m < r.length := by have := (List.getElem?_eq_some_iff.mp hx).1; simpa using this
    rw [ints_at hm] at hx
    injection hx with hx
    subst hx
    refine s_when (et_neI (ev_var rfl) ev_c) (fun c H3 e3 => ?_) (fun c H3 e3 => ?_)
    · refine s_ret (ev_var rfl) fun H4 e4 => ?_
      rw [fstP_some hm (by simpa using c) hn] at q
      exact q H4 (((e'.trans e2).trans e3).trans e4)
    · refine ⟨_, _, rfl, fun j hj => ?_, (e'.trans e2).trans e3⟩
      by_cases z : j = m
      · rw [z]; simpa using c
      · exact hn j (by omega)
  · rintro σ' H' ⟨u, v, rfl, hn, e'⟩
    refine s_ret ev_c fun H4 e4 => ?_
    rw [fstP_none (fun j hj => hn j (by rw [List.length_map]; exact hj))] at q
    exact q H4 (e'.trans e4)
theorem ok_first_place (T : Txt K mg) : FnOk P w K mg base CX0 1 T.f_first_place T.fd_first_place ["numbers"] (sp_first_place T) :=
  T.d_first_place.F.ok sc_first_place (fun vs H Q E h => len_first_place T h) fun cdv A outer s H vs Q E hr h => ⟨t_first_place T, by
    exact (pss_cons (ps_for PassesOwn.never rfl (pi_enumB true (by rfl) T.m_enumerate (pa_cons (pv 0) pa_nil)) (pg_tup rfl (pgs_cons (pg_name (i := 1) sc_first_place.nd rfl (Or.inl rfl)) (pgs_cons (pg_name (i := 2) sc_first_place.nd rfl (Or.inl rfl)) pgs_nil))) (pss_one (ps_if (pt_cmpR op_ne (pv 2) pe_int (nomark _)) (pss_one (ps_ret (pv 1))) pss_nil))) (pss_one (ps_ret pe_non))), pure_first_place T h⟩

def sp_pivots_of (T : Txt K mg) : Sp := fun vs H Q _ => ∃ (t : Addr) (M : Mx) (S : List Nat), vs = [.ref t] ∧ MT K t M H ∧ M.length = S.length ∧ M.length ≤ 100 ∧ (∀ i, i < M.length → fstP (row M i) = some (S.getD i 0)) ∧ RetL (ofN S) H Q
theorem len_pivots_of (T : Txt K mg) {vs H Q E} (h : sp_pivots_of T vs H Q E) : vs.length = 1 := by obtain ⟨_, _, _, rfl, _⟩ := h; rfl
theorem v_pivots_of (T : Txt K mg) {H : Hp} {t : Addr} {M : Mx} {S : List Nat} (h : MT K t M H) (h1 : M.length = S.length) (h2 : M.length ≤ 100) (h3 : ∀ i, i < M.length → fstP (row M i) = some (S.getD i 0)) : SpL (sp_pivots_of T) [.ref t] H (ofN S) :=
  fun H1 e Q q E => ⟨t, M, S, rfl, h.ex e, h1, h2, h3, q⟩
def t_pivots_of (T : Txt K mg) : TS := (tRet (tLc (iTup K (tVar 0)) (gName 1) tYes (tCall (sp_first_place T) [] E0 (tCons (tVar 1) tNil)) [1]))

theorem pure_pivots_of (T : Txt K mg) {vs H Q} {E : XK} (h : sp_pivots_of T vs H Q E) : t_pivots_of T { nx := fun _ H' => Q .non H', rt := Q } (L2.start n_pivots_of vs) H := by
  obtain ⟨t, M, S, rfl, ⟨refs, h1, h2, h3⟩, hl, hz, hf, q⟩ := h
  refine s_retL (xs := ofN S) ?_ fun p H1 hp e hx => q p H1 hp e hx
  have := el_lcTp (K := K) (σ := L2.start n_pivots_of [.ref t]) (H := H) (j := 1) (vs := [1]) (t := tYes) (tl := tVar 0) (te := tCall (sp_first_place T) [] E0 (tCons (tVar 1) tNil)) (fun _ => true) (fun i => .int ((S.getD i 0 : Nat) : Int)) (ev_var rfl) h1 (by rw [List.length_map]; omega) (fun x => rfl) (fun i x H1 e hx => et_yes)
    (fun i x H1 e hx _ => by
      obtain ⟨b, hb, rfl⟩ := ms_at (K := K) (H := H) hx
      have hi : i < M.length := by have := (List.getElem?_eq_some_iff.mp hb).1; omega
      have := ev_call (σ := (wipe (L2.start n_pivots_of [.ref t]) [1]).set 1 (some (.ref b))) (E := E0) (ea_1 (ev_var (i := 1) rfl)) (v_first_place T (ex_t e (h3 i b hb)))
      rw [hf i hi] at this
      exact this)
  rw [given_true, List.length_map, h2, hl] at this
  have z : (List.range S.length).map (fun i => V.int ((S.getD i 0 : Nat) : Int)) = ofN S := by
    apply List.ext_getElem?
    intro i
    by_cases c : i < S.length
    · rw [List.getElem?_map, List.getElem?_range c]
      unfold ofN
      rw [List.getElem?_map, S_at c]; rfl
    · rw [List.getElem?_eq_none (by simp; omega), List.getElem?_eq_none (by simp [ofN]; omega)]
  rw [z] at this
  exact this
theorem ok_pivots_of (T : Txt K mg) : FnOk P w K mg base CX0 2 T.f_pivots_of T.fd_pivots_of ["rows"] (sp_pivots_of T) :=
  T.d_pivots_of.F.ok sc_pivots_of (fun vs H Q E h => len_pivots_of T h) fun cdv A outer s H vs Q E hr h => ⟨t_pivots_of T, by
    exact (pss_one (ps_ret (pe_lc (own := [("row", 1)]) (g := (gName 1)) (tt := tYes) (te := (tCall (sp_first_place T) [] E0 (tCons (tVar 1) tNil))) rfl sc_pivots_of.nd (pi_tup (pv 0)) (blkOk_by (own := [("row", 1)]) (N := n_pivots_of) (sc := defScope s_pivots_of) (by decide +kernel)) (fun _ _ _ _ _ => (pg_name (i := 1) sc_pivots_of.nd rfl (Or.inl rfl))) (fun _ _ _ _ _ => pts_nil) (fun _ _ _ _ _ => (pe_call (ok_first_place T) (hr.mono (by decide)) (by rfl) T.d_first_place.g T.d_first_place.F.kp T.d_first_place.b .nil pass0 (pa_cons (pv 1) pa_nil)))))), pure_pivots_of T h⟩

end
end My


namespace Own
open PySem PySem.Spec PyProof.Rows L2
open Evl
section
variable {K : PySem.W.Frag} {σ : L2.St} {H H' : Hp} {te ta tb tl : TE} {x y z w : V} {D : Ends} {tz tu t : TS} {R M : Mx} {l m : Addr} {refs : List Addr}
theorem MLr.app {b : Addr} {r : Ro} (h : MLr l refs R H) (nb : b ≠ l) (hb : H b = some (.lst (r.map V.int))) : MLr l (refs ++ [b]) (R ++ [r]) (upd H l (.lst (refs.map V.ref ++ [.ref b]))) := by
  refine ⟨by rw [upd_same]; simp, by simp [h.2.1], fun j c hc => ?_⟩
  have key : c ≠ l ∧ H c = some (.lst ((row (R ++ [r]) j).map V.int)) := by
    by_cases e : j < refs.length
    · rw [List.getElem?_append_left e] at hc
      have er : row (R ++ [r]) j = row R j := by
        unfold row
        rw [List.getD_eq_getElem?_getD, List.getD_eq_getElem?_getD, List.getElem?_append_left (by rw [← h.2.1]; exact e)]
      rw [er]
      exact h.2.2 j c hc
    · rw [List.getElem?_append_right (by omega)] at hc
      have z : j - refs.length = 0 := by
        refine Nat.eq_zero_of_not_pos fun q => ?_
        rw [List.getElem?_eq_none (by simp; omega)] at hc
        cases hc
      rw [z] at hc
      simp at hc
      subst hc
      have er : row (R ++ [r]) j = r := by
        unfold row
        rw [List.getD_eq_getElem?_getD, List.getElem?_append_right (by rw [← h.2.1]; omega), show j - R.length = 0 by rw [← h.2.1]; exact z]
        rfl
      rw [er]
      exact ⟨nb, hb⟩
  exact ⟨key.1, by rw [upd_ne key.1]; exact key.2⟩
/-- a comprehension over zip whose items are new -/
theorem en_lcZ {t1 t2 : Bool} {ta : TA} {a b : Addr} {xs ys : List V} {i j : Nat} {vs : List Nat} {o : Nat → HO} (h : EvA ta σ H [.ref a, .ref b]) (hx : SqB t1 K H a xs) (hy : SqB t2 K H b ys) (hl : xs.length = ys.length) (hn : xs.length ≤ 40000)
    (hw : ∀ x y, wipe (((wipe σ vs).set i (some x)).set j (some y)) vs = wipe σ vs)
    (he : ∀ m x y H1, Ex H H1 → xs[m]? = some x → ys[m]? = some y → EvH te (((wipe σ vs).set i (some x)).set j (some y)) H1 (o m)) : EvN (tLc (iZipB t1 t2 K ta) (gTup K 2 (gCons (gName i) (gCons (gName j) gNil))) tYes te vs) σ H (LsO xs.length o) :=
  fun H0 e Q q => h H0 e _ fun H1 e1 => ⟨a, b, xs, ys, rfl, ex_B (e.trans e1) hx, ex_B (e.trans e1) hy, fun Dl hD =>
    lc_it (n := xs.length) (walk_zipB (by omega)) (fun i H' => Ex H1 H' ∧ LsO i o Dl H') ⟨Ex.new hD, [], upd_same, rfl, fun i y h => by simp at h⟩ (fun m H' _ p => ⟨ex_B ((e.trans e1).trans p.1) hx, ex_B ((e.trans e1).trans p.1) hy⟩)
      (fun m z H2 H3 hm => by
        rintro ⟨p2, rs, hy, hl, hp⟩ ⟨T, x, y, rfl, hT, rfl, h1, h2⟩
        have nT : Dl ≠ T := fun z => by rw [z, hT] at hy; cases hy
        refine ⟨T, _, rfl, st_of upd_same, rfl, x, _, rfl, y, _, rfl, rfl, hw x y, ?_⟩
        refine yesT ?_
        have e2 : Ex H1 (upd H2 T (.tup [x, y])) := p2.trans (Ex.new hT)
        have eT : Ex H2 (upd H2 T (.tup [x, y])) := Ex.new hT
        have hy2 : (upd H2 T (.tup [x, y])) Dl = some (.lst (rs.map V.ref)) := eT _ _ hy
        refine he m x y _ ((e.trans e1).trans e2) h1 h2 _ (.refl _) _ fun p H4 np u4 hpo => ⟨rs.map V.ref, u4 _ _ hy2, sz_lt (by rw [List.length_map]; omega), Ex.mut (e2.trans u4) hD, rs ++ [p], by rw [upd_same]; simp, by simp [hl], fun m' b' hm' => ?_⟩
        have npD : p ≠ Dl := fun z => by rw [z, hy2] at np; cases np
        by_cases c : m' < rs.length
        · rw [List.getElem?_append_left c] at hm'
          obtain ⟨n1, h1⟩ := hp m' b' hm'
          exact ⟨n1, by rw [upd_ne n1]; exact u4 _ _ (eT _ _ h1)⟩
        · rw [List.getElem?_append_right (by omega)] at hm'
          have z : m' - rs.length = 0 := by
            refine Nat.eq_zero_of_not_pos fun q => ?_
            rw [List.getElem?_eq_none (by simp; omega)] at hm'
            cases hm'
          rw [z] at hm'
          simp at hm'
          subst hm'
          have : m' = m := by omega
          subst this
          exact ⟨npD, by rw [upd_ne npD]; exact hpo⟩)
      (fun H' p => q Dl H' (fresh_back e1 hD) (e1.trans p.1) p.2)⟩
theorem el_cat {xs ys : List V} (ha : EvL ta σ H xs) (hb : EvL tb σ H ys) (hz : xs.length + ys.length ≤ 1000) : EvL (tOp rCat ta tb) σ H (xs ++ ys) := fun H1 e Q q =>
  ha H1 e _ fun p H2 hp e2 hx => hb H2 (e.trans e2) _ fun r H3 hr e3 hy => ⟨p, r, xs, ys, rfl, rfl, e3 _ _ hx, hy, sz_of (by omega), fun c hc => q c _ (fresh_back (e2.trans e3) hc) ((e2.trans e3).trans (Ex.new hc)) upd_same⟩
def joined (M : Mx) (right : Ro) : Mx := List.zipWith (fun r x => r ++ [x]) M right
def solT (R : Mx) (S : List Nat) (n : Nat) : Nat → Ro
  | 0 => List.replicate n 0
  | t + 1 => (solT R S n t).set (S.getD t 0) (ent R t n)
noncomputable def sol (p : Int) (M : Mx) (right : Ro) (n : Nat) : Option Ro :=
  if n ∈ (red p (joined M right) (n + 1)).S then none else some (solT (red p (joined M right) (n + 1)).R (red p (joined M right) (n + 1)).S n (red p (joined M right) (n + 1)).d)
theorem len_solT {R : Mx} {S : List Nat} {n : Nat} : ∀ t, (solT R S n t).length = n
  | 0 => by simp [solT]
  | t + 1 => by simp [solT, len_solT t]
theorem len_joined {M : Mx} {right : Ro} (h : right.length = M.length) : (joined M right).length = M.length := by simp [joined, h]
theorem row_joined {M : Mx} {right : Ro} (h : right.length = M.length) {i : Nat} (hi : i < M.length) : row (joined M right) i = row M i ++ [nth right i] := by
  have e : (joined M right)[i]? = some (row M i ++ [nth right i]) := by
    unfold joined
    rw [List.getElem?_zipWith, row_at hi, List.getElem?_eq_getElem (by omega : i < right.length)]
    unfold nth
    rw [getD_lt (by omega)]
  unfold row
  rw [List.getD_eq_getElem?_getD]
  show ((joined M right)[i]?).getD [] = _
  rw [e]; rfl
theorem wf_joined {p : Int} {n : Nat} {M : Mx} {right : Ro} (w : WF p n M) (h : right.length = M.length) (hr : ∀ x ∈ right, 0 ≤ x ∧ x < p) : WF p (n + 1) (joined M right) := fun r hr' => by
  obtain ⟨i, hi, e⟩ := mem_row hr'
  rw [len_joined h] at hi
  rw [row_joined h hi] at e
  subst e
  refine ⟨by rw [List.length_append, (wf_row w hi).1]; rfl, fun x hx => ?_⟩
  rcases List.mem_append.mp hx with q | q
  · exact (wf_row w hi).2 x q
  · rw [List.mem_singleton.mp q]
    unfold nth
    rw [getD_lt (by omega)]
    exact hr _ (List.getElem_mem _)
/-- what solved tells -/
def SolP (K : PySem.W.Frag) (N : Mx) : Option Ro → VP
  | none, v, _ => v = .non
  | some s, v, H => ∃ a x y, v = .ref a ∧ SqT K H a [.ref x, .ref y] ∧ SqT K H x (s.map V.int) ∧ MT K y N H
theorem SolP.ex {N : Mx} {o : Option Ro} {v : V} (e : Ex H H') (h : SolP K N o v H) : SolP K N o v H' := by
  cases o with
  | none => exact h
  | some s =>
    obtain ⟨a, x, y, h1, h2, h3, h4⟩ := h
    exact ⟨a, x, y, h1, ex_t e h2, ex_t e h3, h4.ex e⟩
end
end Own


set_option maxHeartbeats 1000000
namespace My
open PySem PySem.Spec PyProof.Rows L2 Own
open Evl (Ex RetV)
section
variable {P : Program} {w : World} {K : PySem.W.Frag} {mg : Str → Option Value} {base : Heap}

open Evl
/-! ### the kernel and the solving of the program -/
def sp_kernel (T : Txt K mg) : Sp := fun vs H Q _ => ∃ (m : Addr) (M : Mx) (n : Nat) (p : Int), vs = [.ref m, .int (n : Int), .int p] ∧ MS K m M H ∧ WF p n M ∧ n ≤ 39 ∧ M.length ≤ 40 ∧ Prm p ∧ ∀ t H', H t = none → Ex H H' → MT K t (ker p M n) H' → Q (.ref t) H'
theorem len_kernel (T : Txt K mg) {vs H Q E} (h : sp_kernel T vs H Q E) : vs.length = 3 := by obtain ⟨_, _, _, _, rfl, _⟩ := h; rfl
theorem v_kernel (T : Txt K mg) {H : Hp} {m : Addr} {M : Mx} {n : Nat} {p : Int} (h : MS K m M H) (w : WF p n M) (h1 : n ≤ 39) (h2 : M.length ≤ 40) (P : Prm p) : SpN (sp_kernel T) [.ref m, .int (n : Int), .int p] H (fun t H' => MT K t (ker p M n) H') :=
  fun H1 e Q q E => ⟨m, M, n, p, rfl, h.ex e, w, h1, h2, P, q⟩
def t_kernel (T : Txt K mg) : TS := (tSeq (tAsg (tCall (sp_reduced T) [] E0 (tCons (tVar 0) (tCons (tVar 1) (tCons (tVar 2) tNil)))) (gName 3)) (tSeq (tAsg (tCall (sp_pivots_of T) [] E0 (tCons (tVar 3) tNil)) (gName 4)) (tSeq (tAsg (tLst tNil) (gName 5)) (tSeq (tFor (iRng1 (tCons (tVar 1) tNil)) (gName 6) (tIfS (tTest (tOp (rIn K true) (tVar 6) (tVar 4))) (tSeq (tAsg (tOp rRep (tLst (tCons (tC (.int 0)) tNil)) (tVar 1)) (gName 7)) (tSeq (tAsg (tC (.int 1)) (gSub (tVar 7) (tVar 6) rSetL)) (tSeq (tFor (iZipB true false K (tCons (tVar 3) (tCons (tVar 4) tNil))) (gTup K 2 (gCons (gName 8) (gCons (gName 9) gNil))) (tAsg (tOp rModI (tUn rNegI (tOp (rIxT K) (tVar 8) (tVar 6))) (tVar 2)) (gSub (tVar 7) (tVar 9) rSetL))) (tDrop (tBM K "list" rAppend (tVar 5) (tCons (tVar 7) tNil)))))) tNext)) (tRet (tCall (sp_reduced T) [] E0 (tCons (tVar 5) (tCons (tVar 1) (tCons (tVar 2) tNil)))))))))

noncomputable def kerP (p : Int) (M : Mx) (n f : Nat) : Mx := (frees f (red p M n).S).map fun g => vecT p (red p M n).R (red p M n).S n g (red p M n).d
theorem kerP_no {p : Int} {M : Mx} {n f : Nat} (h : f ∈ (red p M n).S) : kerP p M n (f + 1) = kerP p M n f := by
  unfold kerP frees
  rw [List.range_succ, List.filter_append, List.map_append]
  simp [h]
theorem kerP_yes {p : Int} {M : Mx} {n f : Nat} (h : f ∉ (red p M n).S) : kerP p M n (f + 1) = kerP p M n f ++ [vecT p (red p M n).R (red p M n).S n f (red p M n).d] := by
  unfold kerP frees
  rw [List.range_succ, List.filter_append, List.map_append]
  simp [h]
theorem kerP_len {p : Int} {M : Mx} {n f : Nat} : (kerP p M n f).length ≤ f := by
  unfold kerP frees
  rw [List.length_map]
  have := List.length_filter_le (fun k => !decide (k ∈ (red p M n).S)) (List.range f)
  rw [List.length_range] at this
  exact this
theorem pure_kernel (T : Txt K mg) {vs H Q} {E : XK} (h : sp_kernel T vs H Q E) : t_kernel T { nx := fun _ H' => Q .non H', rt := Q } (L2.start n_kernel vs) H := by
  obtain ⟨m, M, n, p, rfl, ms, wf, hn, hz, P, q⟩ := h
  have p5 := P.1
  have g := good_red (show 1 < p by omega) P.has wf n
  have lrr := len_rr (show 1 < p by omega) P.has wf
  have lred := len_red (p := p) (M := M) n
  have gdr := g.dr
  have gdl := g.dl
  refine q_asgN (en_call (ea_3 (ev_var rfl) (ev_var rfl) (ev_var rfl)) (v_reduced T ms wf (by omega) hz P)) fun t H1 ht e1 mt => ?_
  refine q_asgL (xs := ofN (red p M n).S) (el_call (dvs := []) (ea_1 (ev_var rfl)) (v_pivots_of T (S := (red p M n).S) mt (by rw [lrr, gdl]) (by rw [lrr]; omega) fun i hi => by
    rw [lrr] at hi
    have er : row (rr p M n) i = row (red p M n).R i := row_take hi
    rw [er]
    exact good_first g (Nat.le_refl _) hi)) fun pa H2 hpa e2 hpx => ?_
  refine q_asgL (xs := []) (el_lst ea_nil (Nat.zero_le _)) fun un H3 hun e3 hux => ?_
  obtain ⟨refsT, ht1, ht2, ht3⟩ := mt.ex e2
  refine q_forR1 (ea_1 (ev_var rfl)) (by omega) (fun f σ' H' => ∃ (refs : List Addr) (u6 u7 u8 u9 : Option V), σ' = [some (.ref m), some (.int (n : Int)), some (.int p), some (.ref t), some (.ref pa), some (.ref un), u6, u7, u8, u9] ∧ Ex H2 H' ∧ MLr un refs (kerP p M n f) H')
    (fun H4 e4 => ⟨[], none, none, none, none, rfl, e3.trans e4, by rw [e4 _ _ hux]; rfl, rfl, fun i b hb => by simp at hb⟩) ?_ ?_
  · rintro f σ' H' hf ⟨refs, u6, u7, u8, u9, rfl, e', ml⟩
    have hf' : f < n := by omega
    refine s_when (et_notIn (ev_var rfl) (ev_var rfl) (sq_of (e' _ _ hpx))) (fun c H4 e4 => ?_) (fun c H4 e4 => ?_)
    · have hS : f ∉ (red p M n).S := by simpa using c
      refine q_asgL (xs := (List.replicate n (0 : Int)).map V.int) ?_ fun nb H5 hnb e5 hnx => ?_
      · have := el_rep (σ := [some (.ref m), some (.int (n : Int)), some (.int p), some (.ref t), some (.ref pa), some (.ref un), some (.int (f : Int)), u7, u8, u9]) (H := H4) (v := .int 0) (te := tC (.int 0)) (tb := tVar 1) (k := (n : Int)) ev_c (ev_var rfl) (by omega) (by omega)
        rw [Int.toNat_natCast, rep_ints] at this
        exact this
      · refine q_setL (j := f) hnx ev_c (ev_var rfl) (ev_var rfl) (by simp; exact hf') fun H6 e6 => ?_
        have x6 : Ex H4 (upd H6 nb (.lst (((List.replicate n (0 : Int)).map V.int).set f (.int 1)))) := Ex.mut (e5.trans e6) hnb
        have n6 : (upd H6 nb (.lst (((List.replicate n (0 : Int)).map V.int).set f (.int 1)))) nb = some (.lst ((vecT p (red p M n).R (red p M n).S n f 0).map V.int)) := by
          rw [upd_same]; show _ = some (HO.lst (((List.replicate n (0 : Int)).set f 1).map V.int)); rw [List.map_set]
        generalize upd H6 nb (.lst (((List.replicate n (0 : Int)).map V.int).set f (.int 1))) = H7 at x6 n6
        have E7 : Ex H2 H7 := (e'.trans e4).trans x6
        have tl : refsT.length = (red p M n).S.length := by rw [ht2, lrr, gdl]
        refine q_forZ (K := K) (b1 := true) (b2 := false) (ea_2 (ev_var rfl) (ev_var rfl)) (show SqB true K H7 t (refsT.map V.ref) from ex_t E7 ht1) (show SqB false K H7 pa (ofN (red p M n).S) from sq_of (E7 _ _ hpx)) (by simp [ofN, tl])
          (fun k σ' H' => ∃ (u8 u9 : Option V), σ' = [some (.ref m), some (.int (n : Int)), some (.int p), some (.ref t), some (.ref pa), some (.ref un), some (.int (f : Int)), some (.ref nb), u8, u9] ∧ Ex H4 H' ∧ H' nb = some (.lst ((vecT p (red p M n).R (red p M n).S n f k).map V.int)))
          (fun H8 e8 => ⟨u8, u9, rfl, x6.trans e8, e8 _ _ n6⟩) ?_ ?_ ?_
        · rintro k σ' H8 ⟨u8, u9, rfl, e8, _⟩
          exact ⟨ex_t ((e'.trans e4).trans e8) ht1, sq_of (((e'.trans e4).trans e8) _ _ hpx)⟩
        · rintro k x y σ' H8 H9 hx hy ⟨u8, u9, rfl, e8, n8⟩ e9
          obtain ⟨b, hb, rfl⟩ := ms_at (K := K) (H := H) hx
          have hk : k < refsT.length := (List.getElem?_eq_some_iff.mp hb).1
          have hkS : k < (red p M n).S.length := by omega
          have hyS : y = .int (((red p M n).S.getD k 0 : Nat) : Int) := by
            unfold ofN at hy
            rw [List.getElem?_map, S_at hkS] at hy
            injection hy with hy
            exact hy.symm
          subst hyS
          have hSn := g.lt _ (List.mem_of_getElem? (S_at hkS))
          have hkd : k < (red p M n).d := by omega
          have er : row (rr p M n) k = row (red p M n).R k := row_take hkd
          have hrow := ht3 k b hb
          rw [er] at hrow
          have hkR : k < (red p M n).R.length := by omega
          refine s_setL (j := (red p M n).S.getD k 0) (v := .int (-(ent (red p M n).R k f) % p)) (e9 _ _ n8) (ev_modI (ev_negI (ev_ixT (ev_var rfl) (ev_var rfl) (ex_t (((e'.trans e4).trans e8).trans e9) hrow) (ints_atI (by rw [(wf_row g.wf hkR).1]; exact hf')))) (ev_var rfl) (by omega)) (ev_var rfl) (ev_var rfl) (by rw [List.length_map, len_vecT]; exact hSn) fun H10 e10 => ?_
          refine ⟨_, _, rfl, Ex.mut ((e8.trans e9).trans e10) hnb, ?_⟩
          rw [upd_same]
          show _ = some (HO.lst (((vecT p (red p M n).R (red p M n).S n f k).set ((red p M n).S.getD k 0) (-(ent (red p M n).R k f) % p)).map V.int))
          rw [List.map_set]
        · rintro σ' H8 ⟨u8, u9, rfl, e8, n8⟩
          have m8 := ml.ex (e4.trans e8)
          refine s_app m8.1 (ev_var rfl) (ev_var rfl) (by rw [List.length_map, m8.2.1]; have := kerP_len (p := p) (M := M) (n := n) (f := f); omega) fun H9 e9 => ?_
          have nbu : nb ≠ un := fun z => by rw [z, e4 _ _ ml.1] at hnb; cases hnb
          have n8' : H8 nb = some (.lst ((vecT p (red p M n).R (red p M n).S n f (red p M n).d).map V.int)) := by
            rw [n8]
            rw [List.length_map, tl, gdl]
          refine ⟨refs ++ [nb], _, _, _, _, rfl, Ex.mut (((e'.trans e4).trans e8).trans e9) hun, ?_⟩
          rw [kerP_yes hS]
          exact (m8.ex e9).app nbu (e9 _ _ n8')
    · have hS : f ∈ (red p M n).S := by simpa using c
      refine ⟨refs, _, u7, u8, u9, rfl, e'.trans e4, ?_⟩
      rw [kerP_no hS]
      exact ml.ex e4
  · rintro σ' H' ⟨refs, u6, u7, u8, u9, rfl, e', ml⟩
    have ml' : MLr un refs (kerM p M n) H' := ml
    refine s_retN (en_call (ea_3 (ev_var rfl) (ev_var rfl) (ev_var rfl)) (v_reduced T ml'.ms (wf_kerM (show 1 < p by omega)) (by omega) (by have : (kerM p M n).length ≤ n := kerP_len; omega) P)) fun t' H4 ht' e4 mt' => q t' H4 (fresh_back ((e1.trans e2).trans e') ht') (((e1.trans e2).trans e').trans e4) mt'
theorem ok_kernel (T : Txt K mg) : FnOk P w K mg base CX0 4 T.f_kernel T.fd_kernel ["matrix", "many", "p"] (sp_kernel T) :=
  T.d_kernel.F.ok sc_kernel (fun vs H Q E h => len_kernel T h) fun cdv A outer s H vs Q E hr h => ⟨t_kernel T, by
    exact (pss_cons (ps_set (i := 3) sc_kernel.nd rfl (Or.inl rfl) (pe_call (ok_reduced T) (hr.mono (by decide)) (by rfl) T.d_reduced.g T.d_reduced.F.kp T.d_reduced.b .nil pass0 (pa_cons (pv 0) (pa_cons (pv 1) (pa_cons (pv 2) pa_nil))))) (pss_cons (ps_set (i := 4) sc_kernel.nd rfl (Or.inl rfl) (pe_call (ok_pivots_of T) (hr.mono (by decide)) (by rfl) T.d_pivots_of.g T.d_pivots_of.F.kp T.d_pivots_of.b .nil pass0 (pa_cons (pv 3) pa_nil))) (pss_cons (ps_set (i := 5) sc_kernel.nd rfl (Or.inl rfl) (pe_lst pa_nil)) (pss_cons (ps_for PassesOwn.never rfl (pi_range1 (by rfl) T.m_range (pa_cons (pv 1) pa_nil)) (pg_name (i := 6) sc_kernel.nd rfl (Or.inl rfl)) (pss_one (ps_if (pt_cmpR op_notIn_seq (pv 6) (pv 4) (by rfl)) (pss_cons (ps_set (i := 7) sc_kernel.nd rfl (Or.inl rfl) (pe_op op_rep (pe_lst (pa_cons pe_int pa_nil)) (pv 1))) (pss_cons (ps_asg pe_int (pg_sub (pv 7) (pv 6) set_list)) (pss_cons (ps_for PassesOwn.never rfl (pi_zipB true false (by rfl) T.m_zip (pa_cons (pv 3) (pa_cons (pv 4) pa_nil))) (pg_tup rfl (pgs_cons (pg_name (i := 8) sc_kernel.nd rfl (Or.inl rfl)) (pgs_cons (pg_name (i := 9) sc_kernel.nd rfl (Or.inl rfl)) pgs_nil))) (pss_one (ps_asg (pe_op op_mod (pe_un un_neg (pe_ix ix_tup (pv 8) (pv 6) (fun _ _ => rfl))) (pv 2)) (pg_sub (pv 7) (pv 9) set_list)))) (pss_one (ps_expr (pe_bm PySem.F.plainAttrs_list PySem.F.slot_list_append PySem.F.type_list_append mt_append (pv 5) (pa_cons (pv 7) pa_nil))))))) pss_nil))) (pss_one (ps_ret (pe_call (ok_reduced T) (hr.mono (by decide)) (by rfl) T.d_reduced.g T.d_reduced.F.kp T.d_reduced.b .nil pass0 (pa_cons (pv 5) (pa_cons (pv 1) (pa_cons (pv 2) pa_nil)))))))))), pure_kernel T h⟩

def sp_solved (T : Txt K mg) : Sp := fun vs H Q _ => ∃ (m r : Addr) (M : Mx) (right : Ro) (n : Nat) (p : Int), vs = [.ref m, .int (n : Int), .ref r, .int p] ∧ MT K m M H ∧ SqT K H r (right.map V.int) ∧ right.length = M.length ∧ (∀ x ∈ right, 0 ≤ x ∧ x < p) ∧ WF p n M ∧ n ≤ 30 ∧ M.length ≤ 40 ∧ Prm p ∧
  ∀ v H', Ex H H' → SolP K (ker p M n) (sol p M right n) v H' → Q v H'
theorem len_solved (T : Txt K mg) {vs H Q E} (h : sp_solved T vs H Q E) : vs.length = 4 := by obtain ⟨_, _, _, _, _, _, rfl, _⟩ := h; rfl
def t_solved (T : Txt K mg) : TS := (tSeq (tAsg (tLc (iZipB true true K (tCons (tVar 0) (tCons (tVar 2) tNil))) (gTup K 2 (gCons (gName 8) (gCons (gName 10) gNil))) tYes (tOp rCat (tCB (rListOf K) (tCons (tVar 8) tNil)) (tLst (tCons (tVar 10) tNil))) [8, 10]) (gName 4)) (tSeq (tAsg (tCall (sp_reduced T) [] E0 (tCons (tVar 4) (tCons (tOp rAddI (tVar 1) (tC (.int 1))) (tCons (tVar 3) tNil)))) (gName 5)) (tSeq (tAsg (tCall (sp_pivots_of T) [] E0 (tCons (tVar 5) tNil)) (gName 6)) (tSeq (tIfS (tTest (tOp (rIn K false) (tVar 1) (tVar 6))) (tRet (tC .non)) tNext) (tSeq (tAsg (tOp rRep (tLst (tCons (tC (.int 0)) tNil)) (tVar 1)) (gName 7)) (tSeq (tFor (iZipB true false K (tCons (tVar 5) (tCons (tVar 6) tNil))) (gTup K 2 (gCons (gName 8) (gCons (gName 9) gNil))) (tAsg (tOp (rIxT K) (tVar 8) (tVar 1)) (gSub (tVar 7) (tVar 9) rSetL))) (tRet (tTup (tCons (tCB (rTupOf K) (tCons (tVar 7) tNil)) (tCons (tCall (sp_kernel T) [] E0 (tCons (tVar 0) (tCons (tVar 1) (tCons (tVar 3) tNil)))) tNil))))))))))

theorem pure_solved (T : Txt K mg) {vs H Q} {E : XK} (h : sp_solved T vs H Q E) : t_solved T { nx := fun _ H' => Q .non H', rt := Q } (L2.start n_solved vs) H := by
  obtain ⟨m, r, M, right, n, p, rfl, mt, hr, hrl, hrb, wf, hn, hz, P, q⟩ := h
  have p5 := P.1
  have wj := wf_joined wf hrl hrb
  have lj := len_joined hrl
  have g := good_red (show 1 < p by omega) P.has wj (n + 1)
  have lrr := len_rr (show 1 < p by omega) P.has wj
  have lred := len_red (p := p) (M := joined M right) (n + 1)
  have gdr := g.dr
  have gdl := g.dl
  obtain ⟨refsM, hm1, hm2, hm3⟩ := id mt
  refine q_asgN (en_lcZ (K := K) (t1 := true) (t2 := true) (o := fun i => .lst ((row (joined M right) i).map V.int)) (ea_2 (ev_var rfl) (ev_var rfl)) (show SqB true K H m (refsM.map V.ref) from hm1) (show SqB true K H r (right.map V.int) from hr) (by simp [hm2, hrl]) (by simp; omega) (fun x y => rfl) (fun i x y H1 e hx hy => ?_)) fun l H1 hl e1 P1 => ?_
  · obtain ⟨b, hb, rfl⟩ := ms_at (K := K) (H := H) hx
    have hi : i < M.length := by have := (List.getElem?_eq_some_iff.mp hb).1; omega
    rw [ints_at (by omega)] at hy
    injection hy with hy
    subst hy
    have e1 : (row (joined M right) i).map V.int = (row M i).map V.int ++ [V.int (nth right i)] := by rw [row_joined hrl hi, List.map_append]; rfl
    show EvH _ _ _ (HO.lst ((row (joined M right) i).map V.int))
    rw [e1]
    exact el_cat (eh_list (ev_var rfl) (.inr (ex_t e (hm3 i b hb)))) (el_lst (ea_1 (ev_var rfl)) (by show 1 ≤ 100000; decide)) (by rw [List.length_map, (wf_row wf hi).1]; show n + 1 ≤ 1000; omega)
  · obtain ⟨refs1, ml1⟩ := mlr_of P1 (by rw [List.length_map, lj]; exact hm2)
    refine q_asgN (en_call (ea_3 (ev_var rfl) (ev_is (ev_addI (ev_var rfl) ev_c) (show V.int ((n : Int) + 1) = V.int ((n + 1 : Nat) : Int) by simp)) (ev_var rfl)) (v_reduced T ml1.ms wj (by omega) (by omega) P)) fun t H2 ht e2 mt2 => ?_
    refine q_asgL (xs := ofN (red p (joined M right) (n + 1)).S) (el_call (dvs := []) (ea_1 (ev_var rfl)) (v_pivots_of T (S := (red p (joined M right) (n + 1)).S) mt2 (by rw [lrr, gdl]) (by rw [lrr]; omega) fun i hi => by
      rw [lrr] at hi
      have er : row (rr p (joined M right) (n + 1)) i = row (red p (joined M right) (n + 1)).R i := row_take hi
      rw [er]
      exact good_first g (Nat.le_refl _) hi)) fun pa H3 hpa e3 hpx => ?_
    have E3 := (e1.trans e2).trans e3
    refine q_when (et_in (ev_var rfl) (ev_var rfl) (sq_of hpx)) (fun c H4 e4 => ?_) (fun c H4 e4 => ?_)
    · refine s_ret ev_c fun H5 e5 => q .non H5 ((E3.trans e4).trans e5) ?_
      have z : sol p M right n = none := if_pos (of_decide_eq_true c)
      rw [z]; rfl
    · have nS := of_decide_eq_false c
      refine q_asgL (xs := (List.replicate n (0 : Int)).map V.int) ?_ fun nb H5 hnb e5 hnx => ?_
      · have := el_rep (σ := [some (.ref m), some (.int (n : Int)), some (.ref r), some (.int p), some (.ref l), some (.ref t), some (.ref pa), none, none, none, none]) (H := H4) (v := .int 0) (te := tC (.int 0)) (tb := tVar 1) (k := (n : Int)) ev_c (ev_var rfl) (by omega) (by omega)
        rw [Int.toNat_natCast, rep_ints] at this
        exact this
      · obtain ⟨refsT, ht1, ht2, ht3⟩ := mt2.ex (e3.trans (e4.trans e5))
        have hp5 := (e4.trans e5) _ _ hpx
        have tl : refsT.length = (red p (joined M right) (n + 1)).S.length := by rw [ht2, lrr, gdl]
        refine q_forZ (K := K) (b1 := true) (b2 := false) (ea_2 (ev_var rfl) (ev_var rfl)) (show SqB true K H5 t (refsT.map V.ref) from ht1) (show SqB false K H5 pa (ofN (red p (joined M right) (n + 1)).S) from sq_of hp5) (by simp [ofN, tl])
          (fun k σ' H' => ∃ (u8 u9 : Option V), σ' = [some (.ref m), some (.int (n : Int)), some (.ref r), some (.int p), some (.ref l), some (.ref t), some (.ref pa), some (.ref nb), u8, u9, none] ∧ Ex H4 H' ∧ SqT K H' t (refsT.map V.ref) ∧ (∀ i b, refsT[i]? = some b → SqT K H' b ((row (rr p (joined M right) (n + 1)) i).map V.int)) ∧ H' pa = some (.lst (ofN (red p (joined M right) (n + 1)).S)) ∧ H' nb = some (.lst ((solT (red p (joined M right) (n + 1)).R (red p (joined M right) (n + 1)).S n k).map V.int)))
          (fun H8 e8 => ⟨none, none, rfl, e5.trans e8, ex_t e8 ht1, fun i b hb => ex_t e8 (ht3 i b hb), e8 _ _ hp5, e8 _ _ hnx⟩) ?_ ?_ ?_
        · rintro k σ' H8 ⟨u8, u9, rfl, e8, h1, h2, h3, _⟩
          exact ⟨h1, sq_of h3⟩
        · rintro k x y σ' H8 H9 hx hy ⟨u8, u9, rfl, e8, h1, h2, h3, n8⟩ e9
          obtain ⟨b, hb, rfl⟩ := ms_at (K := K) (H := H) hx
          have hk : k < refsT.length := (List.getElem?_eq_some_iff.mp hb).1
          have hkS : k < (red p (joined M right) (n + 1)).S.length := by omega
          have hyS : y = .int (((red p (joined M right) (n + 1)).S.getD k 0 : Nat) : Int) := by
            unfold ofN at hy
            rw [List.getElem?_map, S_at hkS] at hy
            injection hy with hy
            exact hy.symm
          subst hyS
          have hSm := List.mem_of_getElem? (S_at hkS)
          have hSn := g.lt _ hSm
          have hne : (red p (joined M right) (n + 1)).S.getD k 0 ≠ n := fun z => by rw [z] at hSm; exact nS hSm
          have hkd : k < (red p (joined M right) (n + 1)).d := by omega
          have er : row (rr p (joined M right) (n + 1)) k = row (red p (joined M right) (n + 1)).R k := row_take hkd
          have hrow := h2 k b hb
          rw [er] at hrow
          have hkR : k < (red p (joined M right) (n + 1)).R.length := by omega
          refine s_setL (j := (red p (joined M right) (n + 1)).S.getD k 0) (v := .int (ent (red p (joined M right) (n + 1)).R k n)) (e9 _ _ n8) (ev_ixT (ev_var rfl) (ev_var rfl) (ex_t e9 hrow) (ints_atI (by rw [(wf_row g.wf hkR).1]; omega))) (ev_var rfl) (ev_var rfl) (by rw [List.length_map, len_solT]; omega) fun H10 e10 => ?_
          have X : ∀ (b' : Addr) (o : HO), b' ≠ nb → H8 b' = some o → upd H10 nb (.lst (((solT (red p (joined M right) (n + 1)).R (red p (joined M right) (n + 1)).S n k).map V.int).set ((red p (joined M right) (n + 1)).S.getD k 0) (.int (ent (red p (joined M right) (n + 1)).R k n)))) b' = some o := fun b' o nb' hb' => by rw [upd_ne nb']; exact e10 _ _ (e9 _ _ hb')
          have XT : ∀ (a : Addr) (xs : List V), SqT K H8 a xs → SqT K (upd H10 nb (.lst (((solT (red p (joined M right) (n + 1)).R (red p (joined M right) (n + 1)).S n k).map V.int).set ((red p (joined M right) (n + 1)).S.getD k 0) (.int (ent (red p (joined M right) (n + 1)).R k n))))) a xs := fun a xs h => by
            rcases h with (h | ⟨o, h⟩) | h
            · exact .inl (.inl (X a _ (fun z => by rw [z, n8] at h; cases h) h))
            · exact .inl (.inr ⟨o, X a _ (fun z => by rw [z, n8] at h; cases h) h⟩)
            · exact .inr h
          have panb : pa ≠ nb := fun z => by rw [← z] at hnb; rw [e4 _ _ hpx] at hnb; cases hnb
          refine ⟨_, _, rfl, Ex.mut ((e8.trans e9).trans e10) hnb, XT _ _ h1, fun i b hb => XT _ _ (h2 i b hb), X _ _ panb h3, ?_⟩
          rw [upd_same]
          show _ = some (HO.lst (((solT (red p (joined M right) (n + 1)).R (red p (joined M right) (n + 1)).S n k).set ((red p (joined M right) (n + 1)).S.getD k 0) (ent (red p (joined M right) (n + 1)).R k n)).map V.int))
          rw [List.map_set]
        · rintro σ' H8 ⟨u8, u9, rfl, e8, h1, h2, h3, n8⟩
          have n8' : H8 nb = some (.lst ((solT (red p (joined M right) (n + 1)).R (red p (joined M right) (n + 1)).S n (red p (joined M right) (n + 1)).d).map V.int)) := by
            rw [n8, List.length_map, tl, gdl]
          have E8 := (E3.trans e4).trans e8
          refine eh_tup (K := K) (te := tVar 7) (ev_var rfl) (sq_of n8') H8 (.refl H8) _ fun x H9 hx e9 hxx => ?_
          refine en_call (ea_3 (ev_var rfl) (ev_var rfl) (ev_var rfl)) (v_kernel T (mt.ms.ex (E8.trans e9)) wf (by omega) hz P) H9 (.refl H9) _ fun y H10 hy e10 my => ?_
          refine ⟨by show 2 ≤ sizeLine; decide, fun a na => q _ _ (((E8.trans e9).trans e10).trans (Ex.new na)) ?_⟩
          have z : sol p M right n = some (solT (red p (joined M right) (n + 1)).R (red p (joined M right) (n + 1)).S n (red p (joined M right) (n + 1)).d) := if_neg nS
          rw [z]
          exact ⟨a, x, y, rfl, st_of upd_same, ex_t (Ex.new na) (st_of (e10 _ _ hxx)), my.ex (Ex.new na)⟩
theorem ok_solved (T : Txt K mg) : FnOk P w K mg base CX0 5 T.f_solved T.fd_solved ["matrix", "many", "right", "p"] (sp_solved T) :=
  T.d_solved.F.ok sc_solved (fun vs H Q E h => len_solved T h) fun cdv A outer s H vs Q E hr h => ⟨t_solved T, by
    exact (pss_cons (ps_setLc (i := 4) (own := [("row", 8), ("number", 10)]) (g := (gTup K 2 (gCons (gName 8) (gCons (gName 10) gNil)))) (tt := tYes) (te := (tOp rCat (tCB (rListOf K) (tCons (tVar 8) tNil)) (tLst (tCons (tVar 10) tNil)))) rfl sc_solved.nd rfl rfl (sw_true rfl rfl rfl (by decide +kernel)) (pi_zipB true true (by rfl) T.m_zip (pa_cons (pv 0) (pa_cons (pv 2) pa_nil))) (blkOk_by (own := [("row", 8), ("number", 10)]) (N := n_solved) (sc := defScope s_solved) (by decide +kernel)) (fun _ _ _ _ _ => (pg_tup rfl (pgs_cons (pg_name (i := 8) sc_solved.nd rfl (Or.inl rfl)) (pgs_cons (pg_name (i := 10) sc_solved.nd rfl (Or.inl rfl)) pgs_nil)))) (fun _ _ _ _ _ => pts_nil) (fun _ _ _ _ _ => (pe_op op_cat (pe_callTy call_list_of (by rfl) T.m_list (by decide +kernel) (pa_cons (pv 8) pa_nil)) (pe_lst (pa_cons (pv 10) pa_nil))))) (pss_cons (ps_set (i := 5) sc_solved.nd rfl (Or.inl rfl) (pe_call (ok_reduced T) (hr.mono (by decide)) (by rfl) T.d_reduced.g T.d_reduced.F.kp T.d_reduced.b .nil pass0 (pa_cons (pv 4) (pa_cons (pe_op op_add (pv 1) pe_int) (pa_cons (pv 3) pa_nil))))) (pss_cons (ps_set (i := 6) sc_solved.nd rfl (Or.inl rfl) (pe_call (ok_pivots_of T) (hr.mono (by decide)) (by rfl) T.d_pivots_of.g T.d_pivots_of.F.kp T.d_pivots_of.b .nil pass0 (pa_cons (pv 5) pa_nil))) (pss_cons (ps_if (pt_cmpR op_in_seq (pv 1) (pv 6) (by rfl)) (pss_one (ps_ret pe_non)) pss_nil) (pss_cons (ps_set (i := 7) sc_solved.nd rfl (Or.inl rfl) (pe_op op_rep (pe_lst (pa_cons pe_int pa_nil)) (pv 1))) (pss_cons (ps_for PassesOwn.never rfl (pi_zipB true false (by rfl) T.m_zip (pa_cons (pv 5) (pa_cons (pv 6) pa_nil))) (pg_tup rfl (pgs_cons (pg_name (i := 8) sc_solved.nd rfl (Or.inl rfl)) (pgs_cons (pg_name (i := 9) sc_solved.nd rfl (Or.inl rfl)) pgs_nil))) (pss_one (ps_asg (pe_ix ix_tup (pv 8) (pv 1) (fun _ _ => rfl)) (pg_sub (pv 7) (pv 9) set_list)))) (pss_one (ps_ret (pe_tup (pa_cons (pe_callTy call_tuple_of (by rfl) T.m_tuple (by decide +kernel) (pa_cons (pv 7) pa_nil)) (pa_cons (pe_call (ok_kernel T) (hr.mono (by decide)) (by rfl) T.d_kernel.g T.d_kernel.F.kp T.d_kernel.b .nil pass0 (pa_cons (pv 0) (pa_cons (pv 1) (pa_cons (pv 3) pa_nil)))) pa_nil))))))))))), pure_solved T h⟩

end
end My


namespace Own
open PySem PySem.Spec PyProof.Rows L2
/-! ### t * 0 -/
theorem tuple_nought (l : Addr) (items : Array Value) (n : Nat) (dd : Option Addr) (sl : Array (Option Value)) (u : Tok) (hi : items.isEmpty = false) :
    Meets (Builtin.«tuple.__mul__» ⟨[.ref l, .int 0 u], []⟩) (fun _ R s => s.heap.get? l = some { cls := .type "tuple", dict := dd, data := .seq items n, slots := sl } ∧
      R (.ok (.ret (Value.ref s.heap.objs.size))) { s with heap := s.heap.push { cls := Value.type "tuple", data := Data.seq #[] }, toks := s.toks }) :=
  .of_wp fun prog w A R s h => by
    obtain ⟨hp, g, d, tk, os⟩ := s
    obtain ⟨hl, h⟩ := h
    have f1 := AutoSeq1.idx_int
    have c0 : (decide ((0 : Int) < -(2 ^ 63)) || decide ((0 : Int) ≥ 2 ^ 63)) = false := by decide
    have c1 : (items.isEmpty || (0 : Int) == 1) = false := by rw [hi]; rfl
    have c2 : (decide ((0 : Int) ≤ 0) || items.isEmpty) = true := by rw [decide_eq_true (Int.le_refl 0)]; rfl
    wp_walk using wpAny_loadPart' hl
    repeat (first
      | (refine wpAny_ite_false (decide_eq_false (by rw [c0]; exact Bool.false_ne_true)) ?_; wp_walk using wpAny_loadPart' hl)
      | (refine wpAny_ite_false (decide_eq_false (by rw [c1]; exact Bool.false_ne_true)) ?_; wp_walk using wpAny_loadPart' hl)
      | (refine wpAny_ite_true (decide_eq_true c2) ?_; wp_walk using wpAny_loadPart' hl))
    exact ⟨_, rfl, h⟩
def rNought (K : PySem.W.Frag) : R2 := fun x y H Q => ∃ l xs, x = .ref l ∧ y = .int 0 ∧ SqT K H l xs ∧ xs ≠ [] ∧ ∀ p, H p = none → Q (.ref p) (upd H p (.tup []))
theorem op_nought {X : Cx} : OpR X (binaryOp .Mult) (rNought X.K) := by
  intro pins s σ H x y v u Q I rx ry h
  obtain ⟨l, xs, rfl, rfl, hT, hne, q⟩ := h
  cases rx
  obtain ⟨t, rfl⟩ := ry
  obtain ⟨its, r, ⟨⟨cls, dd, data, sl⟩, ho, hc, n, hd⟩, hs⟩ := I.tuple hT
  simp only at hc hd
  subst hc hd
  have hle : its.length = xs.length := r.length.symm
  have hi : its.toArray.isEmpty = false := by
    cases its with
    | nil => exact absurd (List.eq_nil_of_length_eq_zero hle.symm) hne
    | cons a b => rfl
  refine wpAny_binaryOp_repeat_ref (T := "tuple") (U := "int") (by decide) ⟨_, ho, rfl⟩ (fun s' => typeIs_int s' 0 t) noFill_tuple_mul F.fills_int_mul F.slot_int_rmul repeat_tuple F.slot_int_index.lookup
    (call_meets F.slot_int_rmul (typeIs_int s 0 t) F.entry_int_rmul (F.args_int_rmul_2 _ _) (int_rmul_tuple 0 t l its.toArray n dd sl)
      ⟨ho, rfl, ⟨_, ho, rfl⟩, call_meets F.slot_tuple_mul ⟨_, ho, rfl⟩ F.entry_tuple_mul (F.args_tuple_mul_2 _ _) (tuple_nought l its.toArray n dd sl t hi) ⟨ho, ?_⟩⟩)
  refine ⟨.ref s.heap.objs.size, _, I.laid (t' := s.toks) (o := .tup []) (fun b ob q => Heap.get?_push_of_some _ q) (Nat.le_refl _) ?_, rfl, q _ (I.hok.fresh (Nat.le_refl _))⟩
  exact ⟨Nat.zero_le _, [], .nil, IsTup.new _ _⟩
abbrev rTimes0 (K : PySem.W.Frag) : R2 := fun x y H Q => rTimes K x y H Q ∨ rNought K x y H Q
theorem op_times0 {X : Cx} : OpR X (binaryOp .Mult) (rTimes0 X.K) := OpR.or op_times op_nought
/-! ### a list's or a tuple's place -/
abbrev rIxA (K : PySem.W.Frag) : R2 := fun x y H Q => rIxL K x y H Q ∨ rIxT K x y H Q
theorem ix_seq {X : Cx} : IxR X (rIxA X.K) := by
  intro value slice pins s σ H x y v u Q I rx ry h hs
  rcases h with h | h
  · exact ix_list value slice pins s σ H x y v u Q I rx ry h hs
  · exact ix_tup value slice pins s σ H x y v u Q I rx ry h hs
theorem lookup_relabel_cf {env : Env} : ∀ {names : List (Str × NameKind)} {x : Str}, (names.lookup x = some .cell ∨ names.lookup x = some .free) →
    (names.map fun (n, k) => if (k == NameKind.free && env.scope.kind == .function && env.kindOf n == some .cell) then (n, NameKind.cell) else (n, k)).lookup x = some .cell ∨
    (names.map fun (n, k) => if (k == NameKind.free && env.scope.kind == .function && env.kindOf n == some .cell) then (n, NameKind.cell) else (n, k)).lookup x = some .free
  | [], _, h => by simp at h
  | (n, k) :: r, x, h => by
    have ih := @lookup_relabel_cf env r x
    show List.lookup x ((if (k == NameKind.free && env.scope.kind == .function && env.kindOf n == some .cell) = true then (n, NameKind.cell) else (n, k)) :: _) = _ ∨ List.lookup x ((if (k == NameKind.free && env.scope.kind == .function && env.kindOf n == some .cell) = true then (n, NameKind.cell) else (n, k)) :: _) = _
    cases hx : x == n with
    | true =>
      simp only [List.lookup_cons, hx] at h
      by_cases hc : (k == NameKind.free && env.scope.kind == .function && env.kindOf n == some .cell) = true
      · rw [if_pos hc]; simp [List.lookup_cons, hx]
      · rw [if_neg hc]; simpa only [List.lookup_cons, hx] using h
    | false =>
      simp only [List.lookup_cons, hx] at h
      by_cases hc : (k == NameKind.free && env.scope.kind == .function && env.kindOf n == some .cell) = true
      · rw [if_pos hc]; simp only [List.lookup_cons, hx]; exact ih h
      · rw [if_neg hc]; simp only [List.lookup_cons, hx]; exact ih h
theorem blk_relabel {N : List Str} {sc scope : Scope} {own : List (Str × Nat)} {env : Env} (h : BlkOk N sc scope own) : BlkOk N (relabel sc env) scope own :=
  ⟨h.kind, h.uniq, h.ix, fun y hy e => lookup_relabel_cf (h.free y hy e), h.own⟩
/-- a comprehension within a comprehension -/
theorem pe_lcIn {X : Cx} {s : Shared} {H : Hp} {scope0 : Scope} {C : Addr} {cl : List (Str × Addr)} {fp : List Addr} {elt tg iter : Expr} {ifs : List Expr} {scope : Scope} {own : List (Str × Nat)} {pos : Pos} {wi : TI} {g : TG} {tt : TT} {te : TE} (hc : X.calm = true) (hN : X.N.Nodup)
    (hi : PI (X.blk s H scope0 (compEnvC scope0 cl C X.env) fp) tg iter wi) (ok : BlkOk X.N scope0 scope own)
    (hg : ∀ (s' : Shared) (H' : Hp) (C' : Addr) (cl' : List (Str × Addr)) (fp' : List Addr), PG ((X.blk s H scope0 (compEnvC scope0 cl C X.env) fp).blk s' H' scope (compEnvC scope cl' C' (compEnvC scope0 cl C X.env)) fp') tg g)
    (ht : ∀ (s' : Shared) (H' : Hp) (C' : Addr) (cl' : List (Str × Addr)) (fp' : List Addr), L2.PTs ((X.blk s H scope0 (compEnvC scope0 cl C X.env) fp).blk s' H' scope (compEnvC scope cl' C' (compEnvC scope0 cl C X.env)) fp') ifs tt)
    (he : ∀ (s' : Shared) (H' : Hp) (C' : Addr) (cl' : List (Str × Addr)) (fp' : List Addr), PE ((X.blk s H scope0 (compEnvC scope0 cl C X.env) fp).blk s' H' scope (compEnvC scope cl' C' (compEnvC scope0 cl C X.env)) fp') elt te)
    (hs : ∀ x, foldedSetIterable iter (compEnvC scope0 cl C X.env) x = pure x := by intro _; rfl) :
    PE (X.blk s H scope0 (compEnvC scope0 cl C X.env) fp) (.ListComp elt [⟨tg, iter, ifs, 0⟩] scope pos) (tLc wi g tt te (own.map (·.2))) :=
  pe_lc (X := X.blk s H scope0 (compEnvC scope0 cl C X.env) fp) hc hN hi (blk_relabel ok) hg ht he hs
end Own
namespace Own
open PySem PySem.Spec PyProof.Rows L2
open Evl
section
variable {K : PySem.W.Frag} {σ : L2.St} {H H' : Hp} {te ta tb tl : TE} {x y z w v : V} {D : Ends} {tz tu t : TS} {R M : Mx} {l m : Addr} {refs : List Addr}
theorem ev_ixA {a : Addr} {xs : List V} {i : Int} (ha : Ev ta σ H (.ref a)) (hb : Ev tb σ H (.int i)) (hs : SqA K H a xs) (h : atI xs i = some v) : Ev (tOp (rIxA K) ta tb) σ H v :=
  fun H1 e Q q => by
    rcases hs with hs | hs
    · exact ha H1 e _ fun H2 e2 => hb H2 (e.trans e2) _ fun H3 e3 => .inl ⟨a, xs, i, v, rfl, rfl, ex_l ((e.trans e2).trans e3) hs, h, q H3 (e2.trans e3)⟩
    · exact ha H1 e _ fun H2 e2 => hb H2 (e.trans e2) _ fun H3 e3 => .inr ⟨a, xs, i, v, rfl, rfl, ex_t ((e.trans e2).trans e3) hs, h, q H3 (e2.trans e3)⟩
theorem ev_lenA {a : Addr} {xs : List V} (h : Ev ta σ H (.ref a)) (hs : SqA K H a xs) : Ev (tCB (rLenV K) (tCons ta tNil)) σ H (.int (xs.length : Int)) := by
  rcases hs with hs | hs
  · exact ev_lenL h hs
  · exact ev_lenT h hs
theorem ev_sumN {ns : List Int} (h : EvL ta σ H (ns.map V.int)) : Ev (tCB (rSum K) (tCons ta tNil)) σ H (.int ns.sum) := fun H1 e Q q =>
  h H1 e _ fun p H2 _ e2 hp => ⟨p, ns, rfl, sq_of hp, q H2 e2⟩
theorem sum_range {f : Nat → Int} : ∀ n : Nat, ((List.range n).map f).sum = sumTo f n
  | 0 => rfl
  | n + 1 => by rw [List.range_succ, List.map_append, List.sum_append, sum_range n]; simp [sumTo]
/-- (e,) * k, from nought on -/
theorem eh_rep0 {k : Nat} (h : Ev te σ H v) (hb : Ev tb σ H (.int (k : Int))) (hk : k ≤ 1000) : EvH (tOp (rTimes0 K) (tTup (tCons te tNil)) tb) σ H (.tup (List.replicate k v)) := fun H1 e Q q =>
  h H1 e _ fun H2 e2 => ⟨by show 1 ≤ sizeLine; decide, fun p np => hb _ ((e.trans e2).trans (Ex.new np)) _ fun H3 e3 => by
    have hp := e3 _ _ (upd_same (H := H2) (a := p) (o := .tup [v]))
    have E3 : Ex H1 H3 := (e2.trans (Ex.new np)).trans e3
    match k, hk with
    | 0, _ => exact .inr ⟨p, [v], rfl, rfl, st_of hp, (by simp), fun r nr => q r _ (fresh_back E3 nr) (E3.trans (Ex.new nr)) (by rw [upd_same]; rfl)⟩
    | 1, _ => exact .inl (.inr ⟨p, [v], rfl, rfl, st_of hp, q p H3 (fresh_back e2 np) E3 hp⟩)
    | k + 2, hk => exact .inl (.inl ⟨p, ((k + 2 : Nat) : Int), [v], rfl, rfl, st_of hp, (by simp), by omega, by omega, by show 1 ≤ 1000; decide, fun r nr => q r _ (fresh_back E3 nr) (E3.trans (Ex.new nr)) (by rw [upd_same, Int.toNat_natCast, rep_one])⟩)⟩
/-- a list that stands + a new one -/
theorem el_catV {xs ys : List V} {a : Addr} (ha : Ev ta σ H (.ref a)) (hx : H a = some (.lst xs)) (hb : EvL tb σ H ys) (hz : xs.length + ys.length ≤ 1000) : EvL (tOp rCat ta tb) σ H (xs ++ ys) := fun H1 e Q q =>
  ha H1 e _ fun H2 e2 => hb H2 (e.trans e2) _ fun r H3 hr e3 hy => ⟨a, r, xs, ys, rfl, rfl, e3 _ _ (e2 _ _ (e _ _ hx)), hy, sz_of (by omega), fun c hc => q c _ (fresh_back (e2.trans e3) hc) ((e2.trans e3).trans (Ex.new hc)) upd_same⟩
/-- a new tuple of numbers -/
theorem eh_call {sp : Sp} {vs : List V} {E : XK} {ta : TA} {o : HO} (h : EvA ta σ H vs) (hs : SpN sp vs H fun l H' => H' l = some o) : EvH (tCall sp [] E ta) σ H o := fun H1 e Q q => en_call h hs H1 e Q q
/-! ### data of numbers -/
def intsD (r : Ro) : PyData := .tuple (r.map PyData.int)
def matD (M : Mx) : PyData := .tuple (M.map intsD)
theorem gd_ints {r : Ro} {a : Addr} (h : SqT K H a (r.map V.int)) (hl : r.length ≤ 20) (hb : ∀ x ∈ r, x.natAbs < 2 ^ 64) : Gd K H 1 (.ref a) (intsD r) := by
  refine gd_tup h ?_ (by rw [List.length_map]; exact hl)
  have : ∀ (r : Ro), (∀ x ∈ r, x.natAbs < 2 ^ 64) → GdAll K H 0 (r.map V.int) (r.map PyData.int) := fun r => by
    induction r with
    | nil => exact fun _ => .nil
    | cons x r ih => exact fun h => .cons (gd_int (h x List.mem_cons_self)) (ih fun y hy => h y (List.mem_cons_of_mem _ hy))
  exact this r hb
theorem gd_mat {p : Int} {n : Nat} {t : Addr} (h : MT K t M H) (w : WF p n M) (hp : p ≤ 1000003) (hn : n ≤ 20) (hl : M.length ≤ 20) : Gd K H 2 (.ref t) (matD M) := by
  obtain ⟨refs, h1, h2, h3⟩ := h
  refine gd_tup h1 ?_ (by rw [List.length_map]; omega)
  have key : ∀ (M : Mx) (refs : List Addr), refs.length = M.length → (∀ i b, refs[i]? = some b → Gd K H 1 (.ref b) (intsD (row M i))) → GdAll K H 1 (refs.map V.ref) (M.map intsD) := fun M => by
    induction M with
    | nil =>
      intro refs hl _
      rw [List.eq_nil_of_length_eq_zero hl]
      exact .nil
    | cons r M ih =>
      intro refs hl h
      cases refs with
      | nil => cases hl
      | cons b refs => exact .cons (h 0 b rfl) (ih refs (by simpa using hl) fun i c hc => h (i + 1) c (by simpa using hc))
  refine key M refs h2 fun i b hb => ?_
  have hi : i < M.length := by have := (List.getElem?_eq_some_iff.mp hb).1; omega
  have wr := wf_row w hi
  exact gd_ints (h3 i b hb) (by omega) fun x hx => by have := wr.2 x hx; omega
theorem ints_self : ∀ r : Ro, PyData.eqvAll (r.map PyData.int) (r.map PyData.int) = true
  | [] => by simp [PyData.eqvAll]
  | x :: r => by simp [PyData.eqvAll, PyData.eqv, ints_self r]
/-- the text of what a call makes -/
theorem ev_showN {P : Addr → Hp → Prop} {d : PyData} {k : Nat} (h : EvN te σ H P) (hd : ∀ t H', Ex H H' → P t H' → Gd K H' k (.ref t) d) (hk : k ≤ 4) : Ev (tCB (rShow K) (tCons te tNil)) σ H (.str d.shown) := fun H1 e Q q =>
  h H1 e _ fun t H2 _ e2 p => show_d (hd t H2 (e.trans e2) p) hk (q H2 e2)
theorem ev_showV {d : PyData} {k : Nat} (h : Ev te σ H v) (hd : Gd K H k v d) (hk : k ≤ 4) : Ev (tCB (rShow K) (tCons te tNil)) σ H (.str d.shown) := fun H1 e Q q =>
  h H1 e _ fun H2 e2 => show_d (hd.ex (e.trans e2)) hk (q H2 e2)
/-- two texts that are one -/
theorem et_neSame {s : Str} (ha : Ev ta σ H (.str s)) (hb : Ev tb σ H (.str s)) : EvT (tTest (tOp rNe ta tb)) σ H false := by
  have := et_test (ev_op (z := .bl (!decide ((V.str s) = (V.str s)))) ha hb (rv_ne rfl))
  rwa [decide_eq_true rfl] at this
/-- two new tuples of the same numbers -/
theorem ints_shaped (r : Ro) : SeqAt.shaped (intsD r) = true := by
  have h := lay_ints r
  unfold SeqAt.shaped intsD
  rw [show PyData.canLay0 (.tuple (r.map PyData.int)) = true by simpa only [PyData.canLay0] using h.1, decide_eq_true (show (PyData.tuple (r.map PyData.int)).depth ≤ 64 by simp only [PyData.depth]; omega)]
  rfl
theorem ne_ints {a b : Addr} {r : Ro} {Q : VK} (ha : SqT K H a (r.map V.int)) (hb : SqT K H b (r.map V.int)) (q : Q (.bl false) H) : rNeD K (.ref a) (.ref b) H Q :=
  ⟨intsD r, intsD r, .tup ha (dp_ints r), .tup hb (dp_ints r), ints_shaped r, ints_shaped r, by
    have e : PyData.eqv (intsD r) (intsD r) = true := by unfold intsD; simp [PyData.eqv, ints_self r]
    rw [e]
    exact q⟩
theorem ev_neHH {r : Ro} (ha : EvH ta σ H (.tup (r.map V.int))) (hb : EvH tb σ H (.tup (r.map V.int))) : Ev (tOp (rNeD K) ta tb) σ H (.bl false) := fun H1 e Q q =>
  ha H1 e _ fun p H2 _ e2 h2 => hb H2 (e.trans e2) _ fun p' H3 _ e3 h3 => ne_ints (st_of (e3 _ _ h2)) (st_of h3) (q H3 (e2.trans e3))
/-- a, b, c = something new, v, [] -/
theorem q_three {i j k : Nat} {P : Addr → Hp → Prop} (h : EvN te σ H P) (kk : ∀ l H1 s H2, H l = none → Ex H H1 → P l H1 → H1 s = none → Ex H1 H2 → H2 s = some (.lst []) → tz D (((σ.set i (some (.ref l))).set j (some v)).set k (some (.ref s))) H2) :
    tSeq (tAsg (tTup (tCons te (tCons (tC v) (tCons (tLst tNil) tNil)))) (gTup K 3 (gCons (gName i) (gCons (gName j) (gCons (gName k) gNil))))) tz D σ H :=
  h H (.refl H) _ fun l H1 hl e1 p => ⟨Nat.zero_le _, fun s ns => ⟨by show 3 ≤ sizeLine; decide, fun t nt => ⟨t, _, rfl, st_of upd_same, rfl, _, _, rfl, _, _, rfl, _, _, rfl, rfl,
    kk l H1 s _ hl e1 p ns ((Ex.new ns).trans (Ex.new nt)) ((Ex.new nt) _ _ upd_same)⟩⟩⟩
theorem s_parL {i j : Nat} {xs : List V} (h : Ev ta σ H x) (h2 : EvL tb σ H xs) (k : ∀ p H1, H p = none → Ex H H1 → H1 p = some (.lst xs) → D.nx ((σ.set i (some x)).set j (some (.ref p))) H1) : tPar i j (tCons ta (tCons tb tNil)) D σ H :=
  h H (.refl H) _ fun H1 e1 => h2 H1 e1 _ fun p H2 hp e2 hx => ⟨x, .ref p, rfl, k p H2 (fresh_back e1 hp) (e1.trans e2) hx⟩
/-- tuple(t) + (x,) -/
theorem eh_catT {a : Addr} {xs : List V} (h : Ev te σ H (.ref a)) (hx : SqT K H a xs) (h2 : Ev tb σ H v) (hz : xs.length ≤ 1000) : EvH (tOp (rCatA K) (tCB (rTupOf K) (tCons te tNil)) (tTup (tCons tb tNil))) σ H (.tup (xs ++ [v])) := fun H1 e Q q =>
  h H1 e _ fun H2 e2 => ⟨a, xs, rfl, .inr ⟨ex_t (e.trans e2) hx, h2 H2 (e.trans e2) _ fun H3 e3 => ⟨by show 1 ≤ sizeLine; decide, fun p np => ⟨a, p, xs, [v], rfl, rfl, ex_t (((e.trans e2).trans e3).trans (Ex.new np)) hx, st_of upd_same, sz_of (by show xs.length + 1 ≤ 100000; omega),
    fun z => q p _ (fresh_back (e2.trans e3) np) ((e2.trans e3).trans (Ex.new np)) (by rw [upd_same, z]; rfl), (fun _ z => by cases z), fun _ _ r nr => q r _ (fresh_back ((e2.trans e3).trans (Ex.new np)) nr) (((e2.trans e3).trans (Ex.new np)).trans (Ex.new nr)) upd_same⟩⟩⟩⟩
/-- xs.append(a new thing) -/
theorem s_appH {l : Addr} {xs : List V} {o : HO} (hl : H l = some (.lst xs)) (ha : Ev ta σ H (.ref l)) (h : EvH te σ H o) (hz : xs.length < 100000) (k : ∀ p H1, H p = none → Ex H H1 → H1 p = some o → D.nx σ (upd H1 l (.lst (xs ++ [.ref p])))) :
    tDrop (tBM K "list" rAppend ta (tCons te tNil)) D σ H := ha H (Ex.refl H) _ fun H1 e1 =>
  ⟨Or.inl ⟨rfl, xs, sq_of (e1 l _ hl)⟩, h H1 e1 _ fun p H2 hp e2 h2 => ⟨l, xs, .ref p, rfl, rfl, e2 l _ (e1 l _ hl), sz_lt hz, k p H2 (fresh_back e1 hp) (e1.trans e2) h2⟩⟩
theorem MT.kp (e : Kp H H') (h : MT K m M H) : MT K m M H' := let ⟨r, h1, h2, h3⟩ := h; ⟨r, e.sqT h1, h2, fun i b hb => e.sqT (h3 i b hb)⟩
/-- [e for j in range(n)], e drawing: a new list of n -/
def PLsF (H0 : Hp) (a : Addr) (n : Nat) (P : VP) : VP := fun v H => ∃ b xs, v = .ref b ∧ H0 b = none ∧ b ≠ a ∧ H b = some (.lst xs) ∧ xs.length = n ∧ ∀ x ∈ xs, P x H
theorem up_back {a b : Addr} (u : Up a H H') (n : b ≠ a) (h : H' b = none) : H b = none := by
  cases e : H b with
  | none => rfl
  | some o => rw [u.keep b o n e] at h; cases h
theorem es_lcN {a : Addr} {P : VP} {elt : TE} {j i n : Nat} {vs : List Nat} (e0 : σ[i]? = some (some (.int (n : Int)))) (hn : n ≤ 1000) (hw : ∀ x, wipe ((wipe σ vs).set j (some x)) vs = wipe σ vs)
    (he : ∀ (i : Nat) H1, Up a H H1 → i < n → EvS a elt ((wipe σ vs).set j (some (.int (i : Int)))) H1 P) (mk : MonoK P) : EvS a (tLc (iRng1 (tCons (tVar i) tNil)) (gName j) tYes elt vs) σ H (PLsF H a n P) :=
  fun H2 u Q q => ⟨_, e0, (n : Int), rfl, by omega, by omega, fun Dl hD =>
    lc_range (lo := 0) (n := (n : Int).toNat) (fun i H' => Up a H2 H' ∧ ∃ acc, H' Dl = some (.lst acc) ∧ acc.length = i ∧ ∀ x ∈ acc, P x H') ⟨.ex (Ex.new hD) u.src, [], upd_same, rfl, fun _ z => absurd z List.not_mem_nil⟩
      (fun i H' hi ⟨u3, acc, hacc, hl, hp⟩ => by
        show wipe ((wipe σ vs).set j (some (.int ((0 : Int) + (i : Int))))) vs = wipe σ vs ∧ elt ((wipe σ vs).set j (some (.int ((0 : Int) + (i : Int))))) H' fun y H4 => ∃ acc, H4 Dl = some (.lst acc) ∧ acc.length < sizeLine ∧ (Up a H2 (upd H4 Dl (.lst (acc ++ [y]))) ∧ ∃ ac2, (upd H4 Dl (.lst (acc ++ [y]))) Dl = some (.lst ac2) ∧ ac2.length = i + 1 ∧ ∀ x ∈ ac2, P x (upd H4 Dl (.lst (acc ++ [y]))))
        rw [Int.zero_add]
        have nD : Dl ≠ a := u.src.new hD
        refine ⟨hw _, he i H' (u.trans u3) (by omega) H' (.refl u3.src) _ fun y H4 u4 py => ?_⟩
        have h4 := u4.keep Dl _ nD hacc
        have kp : Kp H' (upd H4 Dl (.lst (acc ++ [y]))) := (u4.kp u3.src).trans (.lst h4)
        refine ⟨acc, h4, sz_lt (by omega), ⟨fun b o nb hb => ?_, ?_⟩, _, upd_same, by rw [List.length_append, hl]; rfl, fun x hx => ?_⟩
        · rw [upd_ne (ne_of_none hb hD)]
          exact u4.keep b o nb (u3.keep b o nb hb)
        · obtain ⟨big, mixed, e, r⟩ := u4.src
          exact ⟨big, mixed, by rw [upd_ne nD.symm]; exact e, r⟩
        · rcases List.mem_append.mp hx with z | z
          · exact mk x _ _ kp (hp x z)
          · rw [List.mem_singleton.mp z]
            exact mk y _ _ (.lst h4) py)
      (fun H' ⟨u3, acc, hacc, hl, hp⟩ => q _ _ u3 ⟨Dl, acc, rfl, up_back u (u.src.new hD) hD, u.src.new hD, hacc, by omega, hp⟩)⟩
/-- rows against none -/
theorem dp_rows : ∀ (refs : List Addr) (R : Mx), refs.length = R.length → (∀ i b, refs[i]? = some b → H b = some (.lst ((row R i).map V.int))) → DpAll K H (refs.map V.ref) (R.map fun r => PyData.list (r.map PyData.int))
  | [], [], _, _ => .nil
  | b :: refs, r :: R, hl, h => .cons (.lst (sq_of (h 0 b rfl)) (dp_ints r)) (dp_rows refs R (by simpa using hl) fun i c hc => h (i + 1) c (by simpa using hc))
  | [], _ :: _, hl, _ => by cases hl
  | _ :: _, [], hl, _ => by cases hl
theorem lay_rows : ∀ R : Mx, PyData.canLayAll0 (R.map fun r => PyData.list (r.map PyData.int)) = true ∧ PyData.depthAll (R.map fun r => PyData.list (r.map PyData.int)) ≤ 2
  | [] => ⟨rfl, by simp [PyData.depthAll]⟩
  | r :: R => ⟨by simp [PyData.canLayAll0, PyData.canLay0, (lay_ints r).1, (lay_rows R).1], by have := (lay_rows R).2; have := (lay_ints r).2; simp only [List.map_cons, PyData.depthAll, PyData.depth]; omega⟩
theorem shaped_rows (R : Mx) : SeqAt.shaped (.list (R.map fun r => PyData.list (r.map PyData.int))) = true := by
  have h := lay_rows R
  unfold SeqAt.shaped
  rw [show PyData.canLay0 (.list (R.map fun r => PyData.list (r.map PyData.int))) = true by simpa only [PyData.canLay0] using h.1, decide_eq_true (show (PyData.list (R.map fun r => PyData.list (r.map PyData.int))).depth ≤ 64 by simp only [PyData.depth]; omega)]
  rfl
theorem et_neRows (h : Ev ta σ H (.ref l)) (hs : MLr l refs R H) : EvT (tTest (tOp (rNeD K) ta (tLst tNil))) σ H (!R.isEmpty) :=
  et_test (ev_opL h (el_lst ea_nil (Nat.zero_le _)) fun q H1 hq e H2 e2 Q w => ⟨_, .list [], .lst (sq_of (hs.ex (e.trans e2)).1) (dp_rows _ _ hs.2.1 fun i b hb => ((hs.ex (e.trans e2)).2.2 i b hb).2), .lst (sq_of (e2 q _ hq)) .nil, shaped_rows R, rfl, by
    have z : PyData.eqv (.list (R.map fun r => PyData.list (r.map PyData.int))) (.list []) = R.isEmpty := by cases R <;> simp [PyData.eqv, PyData.eqvAll]
    rw [z]
    exact w H2 (.refl _)⟩)
theorem ev_chainLt {i j k : Int} {tc : TE} (ha : Ev ta σ H (.int i)) (hb : Ev tb σ H (.int j)) (hc : Ev tc σ H (.int k)) : Ev (tChain rLtI rLtI ta tb tc) σ H (.bl (decide (i < j) && decide (j < k))) :=
  fun H1 e Q q => ha H1 e _ fun H2 e2 => hb H2 (e.trans e2) _ fun H3 e3 => ⟨i, j, rfl, rfl, _, rfl, by
    by_cases c : i < j
    · rw [decide_eq_true c]
      exact iteT (hc H3 ((e.trans e2).trans e3) _ fun H4 e4 => ⟨j, k, rfl, rfl, by simpa [c] using q H4 ((e2.trans e3).trans e4)⟩)
    · rw [decide_eq_false c]
      exact iteF (by simpa [c] using q H3 (e2.trans e3))⟩
theorem es_mulN {a : Addr} {h1 h2 : Int} (ha : EvS a ta σ H (PInt 0 h1)) (hb : EvS a tb σ H (PInt 0 h2)) (z : h1 ≤ 1000003) (z2 : 0 ≤ h1) : EvS a (tOp rMulI ta tb) σ H (PInt 0 (h1 * h2)) :=
  es_op ha hb mono_int fun x y H1 u ⟨i, ei, a1, a2⟩ ⟨j, ej, b1, b2⟩ Q q => ⟨i, j, ei, ej, .inl ⟨by omega, by omega⟩, q _ H1 (.refl u.src) ⟨_, rfl, Int.mul_nonneg a1 b1, Int.mul_le_mul a2 b2 b1 z2⟩⟩
theorem ev_showX {P : VP} {d : PyData} {k : Nat} (h : EvX te σ H P) (hd : ∀ v H', Ex H H' → P v H' → Gd K H' k v d) (hk : k ≤ 4) : Ev (tCB (rShow K) (tCons te tNil)) σ H (.str d.shown) := fun H1 e Q q =>
  h H1 e _ fun t H2 e2 p => show_d (hd t H2 (e.trans e2) p) hk (q H2 e2)
theorem given_none (n : Nat) (v : Nat → V) : given n (fun _ => false) v = [] := by
  unfold given
  rw [List.filter_eq_nil_iff.mpr (by simp)]
  rfl
theorem wf_take {p : Int} {n d : Nat} (w : WF p n R) : WF p n (R.take d) := fun r hr => w r (List.mem_of_mem_take hr)
theorem wf_rr {p : Int} {n : Nat} (hp : 1 < p) (hI : HasInv p) (w : WF p n M) : WF p n (rr p M n) := wf_take (good_red hp hI w n).wf
theorem wf_ker {p : Int} {n : Nat} (hp : 1 < p) (hI : HasInv p) : WF p n (ker p M n) := wf_take (good_red hp hI (wf_kerM hp) n).wf
theorem len_ker {p : Int} {n : Nat} (hp : 1 < p) (hI : HasInv p) : (ker p M n).length ≤ n := by
  unfold ker
  rw [List.length_take]
  have h1 := len_red (p := p) (M := kerM p M n) n
  have h2 : (kerM p M n).length ≤ n := by
    simp only [kerM, List.length_map]
    have := List.length_filter_le (fun k => !decide (k ∈ (red p M n).S)) (List.range n)
    rw [List.length_range] at this
    exact this
  omega
theorem solT_bd {p : Int} {n : Nat} {S : List Nat} (hp : 0 < p) (w : WF p (n + 1) R) : ∀ t, ∀ x ∈ solT R S n t, 0 ≤ x ∧ x < p
  | 0 => fun x hx => by
    have := (List.mem_replicate.mp hx).2
    omega
  | t + 1 => fun x hx => by
    rcases List.mem_or_eq_of_mem_set hx with q | q
    · exact solT_bd hp w t x q
    · rw [q]; exact wf_nth w hp t n
theorem sol_bd {p : Int} {n : Nat} {right s : Ro} (P : Prm p) (hI : HasInv p) (w : WF p n M) (hr : right.length = M.length) (hb : ∀ x ∈ right, 0 ≤ x ∧ x < p) (h : sol p M right n = some s) : s.length = n ∧ ∀ x ∈ s, 0 ≤ x ∧ x < p := by
  have p5 := P.1
  have wj := wf_joined w hr hb
  have g := good_red (show 1 < p by omega) hI wj (n + 1)
  unfold sol at h
  split at h
  · cases h
  · injection h with h
    subst h
    exact ⟨len_solT _, solT_bd (by omega) g.wf _⟩
/-- a right side: n numbers below p, in a tuple -/
def Rig (K : PySem.W.Frag) (p : Int) (n : Nat) (v : V) (H : Hp) : Prop := ∃ (c : Addr) (r : Ro), v = .ref c ∧ SqT K H c (r.map V.int) ∧ r.length = n ∧ ∀ x ∈ r, 0 ≤ x ∧ x < p
theorem Rig.ex {p : Int} {n : Nat} {v : V} (e : Ex H H') (h : Rig K p n v H) : Rig K p n v H' := let ⟨c, r, h1, h2, h3⟩ := h; ⟨c, r, h1, ex_t e h2, h3⟩
theorem monoK_rig {p : Int} {n : Nat} : MonoK (Rig K p n) := fun _ _ _ e ⟨c, r, h1, h2, h3⟩ => ⟨c, r, h1, e.sqT h2, h3⟩
theorem ints_of {lo hi : Int} : ∀ {xs : List V}, (∀ x ∈ xs, PInt lo hi x H) → ∃ r : Ro, xs = r.map V.int ∧ r.length = xs.length ∧ ∀ x ∈ r, lo ≤ x ∧ x ≤ hi
  | [], _ => ⟨[], rfl, rfl, fun _ h => absurd h List.not_mem_nil⟩
  | x :: xs, h => by
    obtain ⟨i, e, h1, h2⟩ := h x List.mem_cons_self
    obtain ⟨r, e2, hl, hr⟩ := ints_of fun y hy => h y (List.mem_cons_of_mem _ hy)
    exact ⟨i :: r, by rw [e, e2]; rfl, by simp [hl], fun y hy => by
      rcases List.mem_cons.mp hy with z | z
      · rw [z]; exact ⟨h1, h2⟩
      · exact hr y z⟩
theorem es_ofH {a : Addr} {P : VP} {o : HO} (h : ∀ H1, Up a H H1 → EvH te σ H1 o) (i : ∀ p H1, H1 p = some o → P (.ref p) H1) : EvS a te σ H P :=
  fun H1 u Q q => h H1 u H1 (.refl H1) _ fun p H2 _ e hp => q _ H2 (.ex e u.src) (i p H2 hp)
theorem es_tupR {a : Addr} {H0 : Hp} {p : Int} {n : Nat} (h : EvS a te σ H (PLsF H0 a n (PInt 0 (p - 1)))) : EvS a (tCB (rTupOf K) (tCons te tNil)) σ H (Rig K p n) :=
  fun H1 u Q q => h H1 u _ fun v H2 u2 ⟨b, xs, ev, _, _, hb, hl, hp⟩ => by
    obtain ⟨r, rfl, hl2, hr⟩ := ints_of hp
    exact ⟨b, _, by rw [ev], .inl ⟨sq_of hb, fun t nt => q _ _ (u2.trans (.ex (Ex.new nt) u2.src)) ⟨t, r, rfl, st_of upd_same, by omega, fun x hx => by have := hr x hx; omega⟩⟩⟩
/-- for x in a new list whose items are drawn -/
theorem q_forS {a : Addr} {P : VP} {j n : Nat} (s : Src H a) (h : EvS a tl σ H (PLst a n P)) (Pv : Hp → Nat → L2.St → Hp → Prop) (h0 : ∀ HL, Up a H HL → Pv HL 0 σ HL) (hE : ∀ HL i σ' H', Pv HL i σ' H' → Ex HL H')
    (hs : ∀ HL i x σ' H', Up a H HL → P x HL → i < n → Pv HL i σ' H' → tu { D with nx := Pv HL (i + 1), ct := Pv HL (i + 1), bk := tz D } (σ'.set j (some x)) H') (hd : ∀ HL σ' H', Up a H HL → Pv HL n σ' H' → tz D σ' H') :
    tSeq (tFor (iList K tl) (gName j) tu) tz D σ H :=
  h H (.refl s) _ fun v HL u ⟨L, xs, ev, nL, hL, hl, hp⟩ => ⟨L, ev, ⟨xs, sq_of hL⟩, for_list (xs := xs) (Pv HL) (h0 HL u) (fun i σ' H' _ p => sq_of (hE HL i σ' H' p _ _ hL))
    (fun i x σ' H' hx p => hs HL i x σ' H' u (hp x (List.mem_of_getElem? hx)) (by have := (List.getElem?_eq_some_iff.mp hx).1; omega) p) (fun σ' H' p => hd HL σ' H' u (by rw [← hl]; exact p))⟩
end
end Own


set_option maxHeartbeats 1000000
namespace My
open PySem PySem.Spec PyProof.Rows L2 Own
open Evl (Ex RetV)
section
variable {P : Program} {w : World} {K : PySem.W.Frag} {mg : Str → Option Value} {base : Heap}

open Evl
/-! ### the law's own elimination -/
def RedP (K : PySem.W.Frag) (p : Int) (M : Mx) (n : Nat) : Addr → Hp → Prop := fun v H => ∃ a b, SqT K H v [.ref a, .ref b] ∧ MT K a (rr p M n) H ∧ H b = some (.lst (ofN (red p M n).S))
def sp_law_own_reduced (T : Txt K mg) : Sp := fun vs H Q _ => ∃ (m : Addr) (M : Mx) (n : Nat) (p : Int), vs = [.ref m, .int (n : Int), .int p] ∧ MS K m M H ∧ WF p n M ∧ n ≤ 40 ∧ M.length ≤ 40 ∧ Prm p ∧ ∀ t H', H t = none → Ex H H' → RedP K p M n t H' → Q (.ref t) H'
theorem len_law_own_reduced (T : Txt K mg) {vs H Q E} (h : sp_law_own_reduced T vs H Q E) : vs.length = 3 := by obtain ⟨_, _, _, _, rfl, _⟩ := h; rfl
theorem v_law_own_reduced (T : Txt K mg) {H : Hp} {m : Addr} {M : Mx} {n : Nat} {p : Int} (h : MS K m M H) (w : WF p n M) (h1 : n ≤ 40) (h2 : M.length ≤ 40) (P : Prm p) : SpN (sp_law_own_reduced T) [.ref m, .int (n : Int), .int p] H (RedP K p M n) :=
  fun H1 e Q q E => ⟨m, M, n, p, rfl, h.ex e, w, h1, h2, P, q⟩
def t_law_own_reduced (T : Txt K mg) : TS := (tSeq (tAsg (tTup (tCons (tLc (iSeq K (tVar 0)) (gName 10) tYes (tCB (rListOf K) (tCons (tVar 10) tNil)) [10]) (tCons (tC (.int 0)) (tCons (tLst tNil) tNil)))) (gTup K 3 (gCons (gName 3) (gCons (gName 4) (gCons (gName 5) gNil))))) (tSeq (tFor (iRng1 (tCons (tVar 1) tNil)) (gName 6) (tSeq (tAsg (tLc (iRng2 (tCons (tVar 4) (tCons (tCB (rLenV K) (tCons (tVar 3) tNil)) tNil))) (gName 9) (tTest (tOp rNe (tOp (rIxL K) (tOp (rIxL K) (tVar 3) (tVar 9)) (tVar 6)) (tC (.int 0)))) (tVar 9) [9]) (gName 7)) (tIfS (tTest (tOp (rNeD K) (tVar 7) (tLst tNil))) (tSeq (tAsg (tTup (tCons (tOp (rIxL K) (tVar 3) (tOp (rIxL K) (tVar 7) (tC (.int 0)))) (tCons (tOp (rIxL K) (tVar 3) (tVar 4)) tNil))) (gTup K 2 (gCons (gSub (tVar 3) (tVar 4) rSetL) (gCons (gSub (tVar 3) (tOp (rIxL K) (tVar 7) (tC (.int 0))) rSetL) gNil)))) (tSeq (tAsg (tCall (sp_law_own_inverse T) [] E0 (tCons (tOp (rIxL K) (tOp (rIxL K) (tVar 3) (tVar 4)) (tVar 6)) (tCons (tVar 2) tNil))) (gName 8)) (tSeq (tAsg (tLc (iList K (tOp (rIxL K) (tVar 3) (tVar 4))) (gName 11) tYes (tOp rModI (tCB rInt1 (tCons (tOp rMulI (tVar 11) (tVar 8)) tNil)) (tVar 2)) [11]) (gSub (tVar 3) (tVar 4) rSetL)) (tSeq (tFor (iRng1 (tCons (tCB (rLenV K) (tCons (tVar 3) tNil)) tNil)) (gName 9) (tIfS (tTest (tOp rNe (tVar 9) (tVar 4))) (tAsg (tCall (sp_law_led T) [] E0 (tCons (tOp (rIxL K) (tVar 3) (tVar 9)) (tCons (tOp (rIxL K) (tVar 3) (tVar 4)) (tCons (tOp (rIxL K) (tOp (rIxL K) (tVar 3) (tVar 9)) (tVar 6)) (tCons (tVar 2) tNil))))) (gSub (tVar 3) (tVar 9) rSetL)) tNext)) (tPar 4 5 (tCons (tOp rAddI (tVar 4) (tC (.int 1))) (tCons (tOp rCat (tVar 5) (tLst (tCons (tVar 6) tNil))) tNil))))))) tNext))) (tRet (tTup (tCons (tCB (rTupOf K) (tCons (tLc (iList K (tSl (rSlL K) (tVar 3) tNoPart (tPart (tVar 4)))) (gName 10) tYes (tCB (rTupOf K) (tCons (tVar 10) tNil)) [10]) tNil)) (tCons (tVar 5) tNil))))))

/-- the rows from d on whose k-th number isn't nought -/
def cnd (R : Mx) (d k : Nat) : List Nat := (List.range (R.length - d)).filter fun i => decide (ent R (d + i) k ≠ 0)
theorem cnd_nil {R : Mx} {d k : Nat} (h : cnd R d k = []) : pv R d k = none := pv_not fun j h1 h2 => by
  have := List.filter_eq_nil_iff.mp h (j - d) (List.mem_range.mpr (by omega))
  rw [show d + (j - d) = j by omega] at this
  simpa using this
theorem cnd_cons {R : Mx} {d k i : Nat} {r : List Nat} (h : cnd R d k = i :: r) : pv R d k = some (d + i) := by
  have e : ((List.range (R.length - d)).find? fun i => decide (ent R (d + i) k ≠ 0)) = some i := by
    rw [← List.head?_filter]
    show (cnd R d k).head? = _
    rw [h]; rfl
  rw [List.find?_range_eq_some] at e
  obtain ⟨e1, e2, e3⟩ := e
  have e2 := List.mem_range.mp e2
  refine pv_found (by omega) (by omega) (by simpa using e1) fun j h1 h2 => ?_
  have := e3 (j - d) (by omega)
  rw [show d + (j - d) = j by omega] at this
  simpa using this
theorem cnd_given {R : Mx} {d k m : Nat} (h : R.length - d = m) : given m (fun i => decide (ent R (d + i) k ≠ 0)) (fun (i : Nat) => V.int ((d : Int) + (i : Int))) = ((cnd R d k).map fun (i : Nat) => (d : Int) + (i : Int)).map V.int := by
  subst h
  unfold given cnd
  rw [List.map_map]
  rfl
theorem pure_law_own_reduced (T : Txt K mg) {vs H Q} {E : XK} (h : sp_law_own_reduced T vs H Q E) : t_law_own_reduced T { nx := fun _ H' => Q .non H', rt := Q } (L2.start n_law_own_reduced vs) H := by
  obtain ⟨m, M, n, p, rfl, ⟨refsM, hm, hml, hmr⟩, wf, hn, hz, P, q⟩ := h
  have p5 := P.1
  have p6 := P.2.1
  have G := good_red (show 1 < p by omega) P.has wf
  refine q_three (en_lcS (o := fun i => .lst ((row M i).map V.int)) (ev_var rfl) hm (by rw [List.length_map]; omega) (fun x => rfl) (fun i x H' e hx hi => ?_)) fun l H1 s0 H2 hl e1 P1 ns0 e2 hs0 => ?_
  · obtain ⟨b, hb, rfl⟩ := ms_at (K := K) (H := H) hx
    exact eh_list (ev_var rfl) (ex_a e (hmr i b hb))
  obtain ⟨refs1, ml1⟩ := mlr_of P1 (by rw [List.length_map]; exact hml)
  have nsl : s0 ≠ l := fun z => by rw [z, ml1.1] at ns0; cases ns0
  refine q_forR1 (ea_1 (ev_var rfl)) (by omega) (fun j σ' H' => ∃ (refs : List Addr) (sb : Addr) (u6 u7 u8 u9 : Option V), σ' = [some (.ref m), some (.int (n : Int)), some (.int p), some (.ref l), some (.int ((red p M j).d : Int)), some (.ref sb), u6, u7, u8, u9, none, none] ∧ Ex H H' ∧ MLr l refs (red p M j).R H' ∧ sb ≠ l ∧ H' sb = some (.lst (ofN (red p M j).S)))
    (fun H3 e3 => ⟨refs1, s0, none, none, none, none, rfl, (e1.trans e2).trans e3, ml1.ex (e2.trans e3), nsl, e3 _ _ hs0⟩) ?_ ?_
  · rintro j σ' H' hj ⟨refs, sb, u6, u7, u8, u9, rfl, e', ml, nsb, hsb⟩
    have g := G j
    have lr := len_red (p := p) (M := M) j
    have gd := g.dr
    have gl := g.dl
    have hrl : ∀ i, i < (red p M j).R.length → (row (red p M j).R i).length = n := fun i hi => (wf_row g.wf hi).1
    generalize hst : red p M j = st at *
    obtain ⟨R, d, S⟩ := st
    simp only at g ml hsb lr gd gl hrl ⊢
    have lenR : ∀ (σ : L2.St) H3, Ex H' H3 → σ[3]? = some (some (.ref l)) → Ev (tCB (rLenV K) (tCons (tVar 3) tNil)) σ H3 (.int (R.length : Int)) := fun σ H3 e3 h3 => by
      have := ev_lenL (K := K) (ev_var h3) (sq_of (ml.ex e3).1)
      rwa [List.length_map, ml.2.1] at this
    -- some
    refine q_asgL (xs := ((cnd R d j).map fun (i : Nat) => (d : Int) + (i : Int)).map V.int) ?_ fun so H3 hso e3 hsx => ?_
    · have := el_lcRg (σ := [some (.ref m), some (.int (n : Int)), some (.int p), some (.ref l), some (.int (d : Int)), some (.ref sb), some (.int (j : Int)), u7, u8, u9, none, none]) (H := H') (j := 9) (vs := [9]) (t := tTest (tOp rNe (tOp (rIxL K) (tOp (rIxL K) (tVar 3) (tVar 9)) (tVar 6)) (tC (.int 0)))) (te := tVar 9) (ta := tCons (tVar 4) (tCons (tCB (rLenV K) (tCons (tVar 3) tNil)) tNil)) (lo := (d : Int)) (hi := (R.length : Int))
        (fun i => decide (ent R (d + i) j ≠ 0)) (fun (i : Nat) => V.int ((d : Int) + (i : Int))) (ea_2 (ev_var rfl) (lenR _ _ (.refl _) rfl)) (by omega) (by omega) (fun x => rfl)
        (fun i H4 e4 hi => by
          have hi' : d + i < R.length := by omega
          have := et_neI (ev_ent (K := K) (σ := (wipe [some (.ref m), some (.int (n : Int)), some (.int p), some (.ref l), some (.int (d : Int)), some (.ref sb), some (.int (j : Int)), u7, u8, u9, none, none] [9]).set 9 (some (.int ((d : Int) + (i : Int))))) (ta := tVar 3) (tb := tVar 9) (tc := tVar 6) (i := d + i) (k := j) (ev_var rfl) (ev_var rfl) (ev_var rfl) (ml.ex e4) hi' (by rw [hrl _ hi']; omega)) (ev_c (v := .int 0))
          have z : decide (ent R (d + i) j ≠ 0) = !decide (ent R (d + i) j = 0) := by simp
          rw [z]
          exact this)
        (fun i H4 e4 hi _ => ev_var rfl)
      rw [show ((R.length : Int) - (d : Int)).toNat = R.length - d by omega, cnd_given rfl] at this
      exact this
    have nso : so ≠ l := fun z => by rw [z, ml.1] at hso; cases hso
    refine s_if (et_neInts (ev_var rfl) (sq_of hsx)) (fun c H4 e4 => ?_) (fun c H4 e4 => ?_)
    · cases hc : cnd R d j with
      | nil => rw [hc] at c; cases c
      | cons i0 rest =>
        have hp := cnd_cons hc
        generalize hii : d + i0 = i at hp
        obtain ⟨hi, hdi, hne⟩ := pv_some hp
        have hd : d < R.length := by omega
        have z : red p M (j + 1) = ⟨clr p (inv p (ent (swp R d i) d j)) (swp R d i) d j, d + 1, S ++ [j]⟩ := by
          show stp p (red p M j) j = _; rw [hst]; unfold stp; rw [hp]
        have m4 := ml.ex (e3.trans e4)
        have hs4 := (e3.trans e4) _ _ hsb
        have hso4 := e4 _ _ hsx
        obtain ⟨bi, hbi, _, _⟩ := m4.at hi
        obtain ⟨bd, hbd, _, _⟩ := m4.at hd
        have so0 : ∀ H5, ExB l H4 H5 → ∀ (σ : L2.St), σ[7]? = some (some (.ref so)) → Ev (tOp (rIxL K) (tVar 7) (tC (.int 0))) σ H5 (.int (i : Int)) := fun H5 x5 σ h7 => by
          refine ev_ixL (ev_var h7) ev_c (sq_of (x5 _ _ nso hso4)) (atI_nat (j := 0) ?_)
          rw [hc, ← hii]
          rfl
        refine s_swap (D := { nx := _, rt := _, bk := _, ct := _ }) m4 hi hd hbi hbd (fun _ => ev_var rfl) (fun _ => ev_var rfl) (ea_2 (ev_row (ev_var rfl) (by exact so0 _ (.ex (.refl _)) _ rfl) m4 hbi) (ev_row (ev_var rfl) (ev_var rfl) m4 hbd)) (fun H5 x5 => by exact so0 _ x5 _ rfl) fun refs5 H5 x5 m5 => ?_
        have w5 := wf_swp g.wf hd hi
        have l5 : (swp R d i).length = R.length := len_swp
        have ne5 : ent (swp R d i) d j ≠ 0 := by
          unfold ent
          rw [row_swp hd hi]
          split
          · rename_i y; rw [← y] at hne; exact hne
          · rw [if_pos rfl]; exact hne
        have hs5 := x5 _ _ nsb hs4
        have e5 : ∀ b o, H b = some o → H5 b = some o := ExB.to hl ((e'.trans e3).trans e4) x5
        generalize swp R d i = R1 at *
        have rl : ∀ r, r < R1.length → (row R1 r).length = n := fun r hr => (wf_row w5 hr).1
        have en := fun a b => wf_nth w5 (show 0 < p by omega) a b
        have ed := en d j
        have hd1 : d < R1.length := by omega
        have hj1 : j < n := by omega
        -- factor
        refine q_asg (ev_call (ea_2 (ev_ent (ev_var rfl) (ev_var rfl) (ev_var rfl) m5 hd1 (by rw [rl d hd1]; exact hj1)) (ev_var rfl)) (show SpV (sp_law_own_inverse T) ([.int (ent R1 d j), .int p] ++ []) H5 (.int (inv p (ent R1 d j))) from v_inverse T P (by omega) ed.2)) fun H6 e6 => ?_
        have I := inv_is (Classical.choose_spec (P.has _ (show 0 < ent R1 d j by omega) ed.2))
        generalize inv p (ent R1 d j) = b at I z
        have m6 := m5.ex e6
        obtain ⟨bd6, hbd6, nbd6, hxd6⟩ := m6.at hd1
        -- rows[at]
        refine s_setLL (D := { nx := _, rt := _, bk := _, ct := _ }) (ys := (scl p b (row R1 d)).map V.int) (j := d) m6.1 ?_ (fun H7 e7 => ev_var rfl) (fun H7 e7 => ev_var rfl) (by rw [List.length_map, m6.2.1]; exact hd1) fun pc H7 hpc e7 hpx => ?_
        · have := el_lcL (σ := [some (.ref m), some (.int (n : Int)), some (.int p), some (.ref l), some (.int (d : Int)), some (.ref sb), some (.int (j : Int)), some (.ref so), some (.int b), u9, none, none]) (H := H6) (K := K) (j := 11) (vs := [11]) (t := tYes) (tl := tOp (rIxL K) (tVar 3) (tVar 4)) (te := tOp rModI (tCB rInt1 (tCons (tOp rMulI (tVar 11) (tVar 8)) tNil)) (tVar 2)) (fun _ => true) (fun i => .int (nth (row R1 d) i * b % p))
            (ev_row (ev_var rfl) (ev_var rfl) m6 hbd6) (sq_of hxd6) (by rw [List.length_map, rl d hd1]; omega) (fun x => rfl) (fun i x H1 e hx => et_yes) (fun i x H1 e hx _ => by
              have hi : i < (row R1 d).length := by have := (List.getElem?_eq_some_iff.mp hx).1; simpa using this
              rw [ints_at hi] at hx
              injection hx with hx
              subst hx
              exact ev_modI (ev_int1 (ev_mulI (ev_var rfl) (ev_var rfl) (.inr ⟨by have := I.1; omega, by have := I.2.1; omega⟩))) (ev_var rfl) (by omega))
          rw [given_true, List.length_map, row_range (r := scl p b (row R1 d)) (len_scl) (fun i hi => by rw [nth_scl, Int.mul_comm])] at this
          exact this
        have npl : pc ≠ l := fun z => by rw [z, m6.1] at hpc; cases hpc
        have m7 := (m6.ex e7).set hd1 npl hpx
        have x7 : ExB l H5 (upd H7 l (.lst ((refs5.map V.ref).set d (.ref pc)))) := (ExB.ex (e6.trans e7)).trans ExB.upd
        generalize upd H7 l (.lst ((refs5.map V.ref).set d (.ref pc))) = H8 at m7 x7
        generalize refs5.set d pc = refs8 at m7
        have l7 : (R1.set d (scl p b (row R1 d))).length = R1.length := by simp
        have r7 : ∀ r, row (R1.set d (scl p b (row R1 d))) r = if r = d then scl p b (row R1 d) else row R1 r := fun r => row_set hd1
        generalize hR2 : R1.set d (scl p b (row R1 d)) = R2 at m7 l7 r7
        have hR2l : ∀ r, r < R2.length → (row R2 r).length = n := fun r hr => by
          rw [r7]
          split
          · rw [len_scl, rl d hd1]
          · exact rl r (by omega)
        have hN : (clr p b R1 d j).length = R2.length := by rw [len_clr, l7]
        have rN : ∀ r, r < R2.length → row (clr p b R1 d j) r = if r = d then scl p b (row R1 d) else led p (ent R1 r j) (row R1 r) (scl p b (row R1 d)) := fun r hr => row_clr (by omega)
        have len8 := ev_lenL (K := K) (σ := [some (.ref m), some (.int (n : Int)), some (.int p), some (.ref l), some (.int (d : Int)), some (.ref sb), some (.int (j : Int)), some (.ref so), some (.int b), u9, none, none]) (ta := tVar 3) (H := H8) (ev_var rfl) (sq_of m7.1)
        rw [List.length_map, m7.2.1] at len8
        refine q_forR1 (ea_1 len8) (by omega) (fun r σ' H' => ∃ (refs' : List Addr) (u : Option V), σ' = [some (.ref m), some (.int (n : Int)), some (.int p), some (.ref l), some (.int (d : Int)), some (.ref sb), some (.int (j : Int)), some (.ref so), some (.int b), u, none, none] ∧ ExB l H8 H' ∧ MLr l refs' (mix R2 (clr p b R1 d j) r) H')
          (fun H9 e9 => ⟨refs8, _, rfl, .ex e9, by rw [mix_zero]; exact m7.ex e9⟩) ?_ ?_
        · rintro r σ' H9 hr ⟨refs', u, rfl, x9, m9⟩
          have hr' : r < R2.length := by omega
          have hrm : r < (mix R2 (clr p b R1 d j) r).length := by rw [len_mix]; exact hr'
          have hdm : d < (mix R2 (clr p b R1 d j) r).length := by rw [len_mix]; omega
          have rr1 : row (mix R2 (clr p b R1 d j) r) r = row R2 r := by rw [row_mix hr', if_neg (Nat.lt_irrefl _)]
          have rd1 : row (mix R2 (clr p b R1 d j) r) d = scl p b (row R1 d) := by
            rw [row_mix (by omega)]
            split
            · rw [rN d (by omega), if_pos rfl]
            · rw [r7, if_pos rfl]
          refine s_if (et_neI (ev_var rfl) (ev_var rfl)) (fun c H10 e10 => ?_) (fun c H10 e10 => ?_)
          · have hrd : r ≠ d := fun y => by subst y; simp at c
            have m10 := m9.ex e10
            obtain ⟨br, hbr, nbr, hxr⟩ := m10.at hrm
            obtain ⟨bd9, hbd9, nbd9, hxd9⟩ := m10.at hdm
            rw [rr1, r7, if_neg hrd] at hxr
            rw [rd1] at hxd9
            have er : ent (mix R2 (clr p b R1 d j) r) r j = ent R1 r j := by unfold ent; rw [rr1, r7, if_neg hrd]
            have enr := en r j
            refine s_setLL (ys := (led p (ent R1 r j) (row R1 r) (scl p b (row R1 d))).map V.int) (j := r) m10.1 ?_ (fun H11 e11 => ev_var rfl) (fun H11 e11 => ev_var rfl) (by rw [List.length_map, m10.2.1]; exact hrm) fun pn H11 hpn e11 hpnx => ?_
            · refine el_call (dvs := []) (vs := [.ref br, .ref bd9, .int (ent R1 r j), .int p]) (ea_4 (ev_row (ev_var rfl) (ev_var rfl) m10 hbr) (ev_row (ev_var rfl) (ev_var rfl) m10 hbd9) (by rw [← er]; exact ev_ent (ev_var rfl) (ev_var rfl) (ev_var rfl) m10 hrm (by rw [rr1, hR2l r hr']; exact hj1)) (ev_var rfl)) fun H11 e11 Q' q' E' => ?_
              exact ⟨br, bd9, row R1 r, scl p b (row R1 d), ent R1 r j, p, rfl, ex_l e11 (sq_of hxr), ex_l e11 (sq_of hxd9), by rw [len_scl, rl r (by omega), rl d hd1], by rw [rl r (by omega)]; omega, by omega, by omega, by omega, q'⟩
            · have npl2 : pn ≠ l := fun y => by rw [y, m10.1] at hpn; cases hpn
              have m11 := (m10.ex e11).set hrm npl2 hpnx
              rw [mix_set hr' (by rw [rN r hr', if_neg hrd])] at m11
              exact ⟨_, _, rfl, (x9.trans (.ex (e10.trans e11))).trans ExB.upd, m11⟩
          · have hrd : r = d := by
              have := of_decide_eq_true (show decide ((r : Int) = (d : Int)) = true by simpa using c)
              omega
            refine ⟨refs', _, rfl, x9.trans (.ex e10), ?_⟩
            rw [← mix_same hr' (by rw [rN r hr', if_pos hrd, r7, if_pos hrd])]
            exact m9.ex e10
        · rintro σ' H9 ⟨refs', u, rfl, x9, m9⟩
          have m9' : MLr l refs' (clr p b R1 d j) H9 := by
            have m9' : MLr l refs' (mix R2 (clr p b R1 d j) R2.length) H9 := m9
            rwa [mix_all hN] at m9'
          have hs9 := (x7.trans x9) _ _ nsb hs5
          -- at, starts
          refine s_parL (ev_addI (ev_var rfl) ev_c) (el_catV (ev_var rfl) hs9 (el_lst (ea_1 (ev_var rfl)) (by show 1 ≤ 100000; decide)) ?_) fun sn H11 hsn e11 hsnx => ?_
          · unfold ofN; rw [List.length_map]; show S.length + 1 ≤ 1000; omega
          refine ⟨refs', sn, some (.int (j : Int)), some (.ref so), some (.int b), u, ?_, ?_, ?_, ?_, ?_⟩
          · rw [z]; rfl
          · exact (show Ex H H9 from fun a o ha => (x7.trans x9) a o (ne_of_none ha hl) (e5 a o ha)).trans e11
          · rw [z]; exact m9'.ex e11
          · exact fun y => by rw [y, m9'.1] at hsn; cases hsn
          · rw [z, hsnx]
            show _ = some (HO.lst (ofN (S ++ [j])))
            unfold ofN
            rw [List.map_append]
            rfl
    · have hc : cnd R d j = [] := by
        cases hc : cnd R d j with
        | nil => rfl
        | cons i r => rw [hc] at c; cases c
      have z : red p M (j + 1) = ⟨R, d, S⟩ := by show stp p (red p M j) j = _; rw [hst]; unfold stp; rw [cnd_nil hc]
      refine ⟨refs, sb, some (.int (j : Int)), some (.ref so), u8, u9, ?_, (e'.trans e3).trans e4, ?_, nsb, ?_⟩
      · rw [z]; rfl
      · rw [z]; exact ml.ex (e3.trans e4)
      · rw [z]; exact (e3.trans e4) _ _ hsb
  · rintro σ' H' ⟨refs, sb, u6, u7, u8, u9, rfl, e', ml, nsb, hsb⟩
    have ml' : MLr l refs (red p M n).R H' := ml
    have hsb' : H' sb = some (.lst (ofN (red p M n).S)) := hsb
    have dr := (G n).dr
    have lrefs := ml'.2.1
    have cut : cutV (refs.map V.ref) none (some (((red p M n).d : Nat) : Int)) = (refs.map V.ref).take (red p M n).d := cut_lo (by rw [List.length_map]; omega)
    have lrr := len_rr (show 1 < p by omega) P.has wf
    refine en_tup (M := rr p M n) (n := ((refs.map V.ref).take (red p M n).d).length) (en_lcNL (xs := (refs.map V.ref).take (red p M n).d) ?_ (by have := len_red (p := p) (M := M) n; rw [List.length_take, List.length_map]; omega) (fun x => rfl) (fun i x H2 e hx hi => ?_)) ?_ H' (.refl H') _ fun t H2 ht e2 mt => ?_
    · rw [← cut]
      exact el_sl (ev_var rfl) eo_none (eo_some (ev_var rfl)) (sq_of ml'.1)
    · have hi' : i < (red p M n).d := by rw [List.length_take] at hi; omega
      rw [List.getElem?_take, if_pos hi'] at hx
      obtain ⟨b, hb, rfl⟩ := ms_at (K := K) (H := H) hx
      have er : row (rr p M n) i = row (red p M n).R i := row_take hi'
      rw [er]
      exact eh_tup (ev_var rfl) (sq_of (e _ _ (ml'.2.2 i b hb).2))
    · rw [lrr, List.length_take, List.length_map]; omega
    · refine ⟨_, rfl, by show 2 ≤ sizeLine; decide, fun v nv => q v _ (fresh_back (e'.trans e2) nv) ((e'.trans e2).trans (Ex.new nv)) ⟨t, sb, st_of upd_same, mt.ex (Ex.new nv), (Ex.new nv) _ _ (e2 _ _ hsb')⟩⟩
theorem ok_law_own_reduced (T : Txt K mg) : FnOk P w K mg base CX0 2 T.f_law_own_reduced T.fd_law_own_reduced ["matrix", "many", "p"] (sp_law_own_reduced T) :=
  T.d_law_own_reduced.F.ok sc_law_own_reduced (fun vs H Q E h => len_law_own_reduced T h) fun cdv A outer s H vs Q E hr h => ⟨t_law_own_reduced T, by
    exact (pss_cons (ps_asg (pe_tup (pa_cons (pe_lc (own := [("row", 10)]) (g := (gName 10)) (tt := tYes) (te := (tCB (rListOf K) (tCons (tVar 10) tNil))) rfl sc_law_own_reduced.nd (pi_seq (pv 0)) (blkOk_by (own := [("row", 10)]) (N := n_law_own_reduced) (sc := defScope s_law_own_reduced) (by decide +kernel)) (fun _ _ _ _ _ => (pg_name (i := 10) sc_law_own_reduced.nd rfl (Or.inl rfl))) (fun _ _ _ _ _ => pts_nil) (fun _ _ _ _ _ => (pe_callTy call_list_of (by rfl) T.m_list (by decide +kernel) (pa_cons (pv 10) pa_nil)))) (pa_cons pe_int (pa_cons (pe_lst pa_nil) pa_nil)))) (pg_tup rfl (pgs_cons (pg_name (i := 3) sc_law_own_reduced.nd rfl (Or.inr rfl)) (pgs_cons (pg_name (i := 4) sc_law_own_reduced.nd rfl (Or.inl rfl)) (pgs_cons (pg_name (i := 5) sc_law_own_reduced.nd rfl (Or.inl rfl)) pgs_nil))))) (pss_cons (ps_for PassesOwn.never rfl (pi_range1 (by rfl) T.m_range (pa_cons (pv 1) pa_nil)) (pg_name (i := 6) sc_law_own_reduced.nd rfl (Or.inr rfl)) (pss_cons (ps_setLc (i := 7) (own := [("r", 9)]) (g := (gName 9)) (tt := (tTest (tOp rNe (tOp (rIxL K) (tOp (rIxL K) (tVar 3) (tVar 9)) (tVar 6)) (tC (.int 0))))) (te := (tVar 9)) rfl sc_law_own_reduced.nd rfl rfl (sw_true rfl rfl rfl (by decide +kernel)) (pi_range2 (by rfl) T.m_range (pa_cons (pv 4) (pa_cons (pe_callB call_len (by rfl) T.m_len (by decide +kernel) (pa_cons (pv 3) pa_nil)) pa_nil))) (blkOk_by (own := [("r", 9)]) (N := n_law_own_reduced) (sc := defScope s_law_own_reduced) (by decide +kernel)) (fun _ _ _ _ _ => (pg_name (i := 9) sc_law_own_reduced.nd rfl (Or.inl rfl))) (fun _ _ _ _ _ => pts_one (pt_cmpR op_ne (pe_ix ix_list (pe_ix ix_list (pv 3) (pv 9) (fun _ _ => rfl)) (pv 6) (fun _ _ => rfl)) pe_int (nomark _))) (fun _ _ _ _ _ => (pv 9))) (pss_one (ps_if (pt_cmpR (op_neD hr.units) (pv 7) (pe_lst pa_nil) (nomark _)) (pss_cons (ps_asg (pe_tup (pa_cons (pe_ix ix_list (pv 3) (pe_ix ix_list (pv 7) pe_int (fun _ _ => rfl)) (fun _ _ => rfl)) (pa_cons (pe_ix ix_list (pv 3) (pv 4) (fun _ _ => rfl)) pa_nil))) (pg_tup rfl (pgs_cons (pg_sub (pv 3) (pv 4) set_list) (pgs_cons (pg_sub (pv 3) (pe_ix ix_list (pv 7) pe_int (fun _ _ => rfl)) set_list) pgs_nil)))) (pss_cons (ps_set (i := 8) sc_law_own_reduced.nd rfl (Or.inr rfl) (pe_call (ok_law_own_inverse T) (hr.mono (by decide)) (by rfl) T.d_law_own_inverse.g T.d_law_own_inverse.F.kp T.d_law_own_inverse.b .nil pass0 (pa_cons (pe_ix ix_list (pe_ix ix_list (pv 3) (pv 4) (fun _ _ => rfl)) (pv 6) (fun _ _ => rfl)) (pa_cons (pv 2) pa_nil)))) (pss_cons (ps_asg (pe_lc (own := [("number", 11)]) (g := (gName 11)) (tt := tYes) (te := (tOp rModI (tCB rInt1 (tCons (tOp rMulI (tVar 11) (tVar 8)) tNil)) (tVar 2))) rfl sc_law_own_reduced.nd (pi_list (pe_ix ix_list (pv 3) (pv 4) (fun _ _ => rfl))) (blkOk_by (own := [("number", 11)]) (N := n_law_own_reduced) (sc := defScope s_law_own_reduced) (by decide +kernel)) (fun _ _ _ _ _ => (pg_name (i := 11) sc_law_own_reduced.nd rfl (Or.inl rfl))) (fun _ _ _ _ _ => pts_nil) (fun _ _ _ _ _ => (pe_op op_mod (pe_callTy call_int1 (by rfl) T.m_int (by decide +kernel) (pa_cons (pe_op op_mul (pv 11) (pv 8)) pa_nil)) (pv 2)))) (pg_sub (pv 3) (pv 4) set_list)) (pss_cons (ps_for PassesOwn.never rfl (pi_range1 (by rfl) T.m_range (pa_cons (pe_callB call_len (by rfl) T.m_len (by decide +kernel) (pa_cons (pv 3) pa_nil)) pa_nil)) (pg_name (i := 9) sc_law_own_reduced.nd rfl (Or.inl rfl)) (pss_one (ps_if (pt_cmpR op_ne (pv 9) (pv 4) (nomark _)) (pss_one (ps_asg (pe_call (ok_law_led T) (hr.mono (by decide)) (by rfl) T.d_law_led.g T.d_law_led.F.kp T.d_law_led.b .nil pass0 (pa_cons (pe_ix ix_list (pv 3) (pv 9) (fun _ _ => rfl)) (pa_cons (pe_ix ix_list (pv 3) (pv 4) (fun _ _ => rfl)) (pa_cons (pe_ix ix_list (pe_ix ix_list (pv 3) (pv 9) (fun _ _ => rfl)) (pv 6) (fun _ _ => rfl)) (pa_cons (pv 2) pa_nil))))) (pg_sub (pv 3) (pv 9) set_list))) pss_nil))) (pss_one (ps_par (i := 4) (j := 5) rfl sc_law_own_reduced.nd rfl rfl (by decide) rfl rfl (pa_cons (pe_op op_add (pv 4) pe_int) (pa_cons (pe_op op_cat (pv 5) (pe_lst (pa_cons (pv 6) pa_nil))) pa_nil)) (by rfl))))))) pss_nil)))) (pss_one (ps_ret (pe_tup (pa_cons (pe_callTy call_tuple_of (by rfl) T.m_tuple (by decide +kernel) (pa_cons (pe_lc (own := [("row", 10)]) (g := (gName 10)) (tt := tYes) (te := (tCB (rTupOf K) (tCons (tVar 10) tNil))) rfl sc_law_own_reduced.nd (pi_list (pe_slice sl_list (pv 3) po_none (po_some (pv 4)))) (blkOk_by (own := [("row", 10)]) (N := n_law_own_reduced) (sc := defScope s_law_own_reduced) (by decide +kernel)) (fun _ _ _ _ _ => (pg_name (i := 10) sc_law_own_reduced.nd rfl (Or.inl rfl))) (fun _ _ _ _ _ => pts_nil) (fun _ _ _ _ _ => (pe_callTy call_tuple_of (by rfl) T.m_tuple (by decide +kernel) (pa_cons (pv 10) pa_nil)))) pa_nil)) (pa_cons (pv 5) pa_nil))))))), pure_law_own_reduced T h⟩

end
end My


set_option maxHeartbeats 1000000
namespace My
open PySem PySem.Spec PyProof.Rows L2 Own
open Evl (Ex RetV)
section
variable {P : Program} {w : World} {K : PySem.W.Frag} {mg : Str → Option Value} {base : Heap}

open Evl
/-! ### the law's own products, kernel, solving -/
def timesM (p : Int) (n : Nat) (M : Mx) (v : Ro) : Ro := M.map fun r => dot n r v % p
def sp_law_times (T : Txt K mg) : Sp := fun vs H Q _ => ∃ (m r : Addr) (M : Mx) (v : Ro) (n : Nat) (p : Int), vs = [.ref m, .ref r, .int p] ∧ MT K m M H ∧ SqA K H r (v.map V.int) ∧ v.length = n ∧ n ≤ 1000 ∧ WF p n M ∧ M.length ≤ 1000 ∧ 0 < p ∧ p ≤ 1000003 ∧
  ∀ t H', H t = none → Ex H H' → H' t = some (.tup ((timesM p n M v).map V.int)) → Q (.ref t) H'
theorem len_law_times (T : Txt K mg) {vs H Q E} (h : sp_law_times T vs H Q E) : vs.length = 3 := by obtain ⟨_, _, _, _, _, _, rfl, _⟩ := h; rfl
theorem v_law_times (T : Txt K mg) {H : Hp} {m r : Addr} {M : Mx} {v : Ro} {n : Nat} {p : Int} (h : MT K m M H) (h1 : SqA K H r (v.map V.int)) (h2 : v.length = n) (h3 : n ≤ 1000) (w : WF p n M) (h4 : M.length ≤ 1000) (p0 : 0 < p) (p1 : p ≤ 1000003) :
    SpN (sp_law_times T) [.ref m, .ref r, .int p] H (fun t H' => H' t = some (.tup ((timesM p n M v).map V.int))) :=
  fun H1 e Q q E => ⟨m, r, M, v, n, p, rfl, h.ex e, ex_a e h1, h2, h3, w, h4, p0, p1, q⟩
def t_law_times (T : Txt K mg) : TS := (tRet (tCB (rTupOf K) (tCons (tLc (iTup K (tVar 0)) (gName 3) tYes (tOp rModI (tCB rInt1 (tCons (tCB (rSum K) (tCons (tLc (iRng1 (tCons (tCB (rLenV K) (tCons (tVar 1) tNil)) tNil)) (gName 4) tYes (tOp rMulI (tOp (rIxT K) (tVar 3) (tVar 4)) (tOp (rIxA K) (tVar 1) (tVar 4))) [4]) tNil)) tNil)) (tVar 2)) [3]) tNil)))

theorem pure_law_times (T : Txt K mg) {vs H Q} {E : XK} (h : sp_law_times T vs H Q E) : t_law_times T { nx := fun _ H' => Q .non H', rt := Q } (L2.start n_law_times vs) H := by
  obtain ⟨m, r, M, v, n, p, rfl, ⟨refs, hm, hml, hmr⟩, hr, hv, hn, wf, hz, p0, p1, q⟩ := h
  have key : EvL (tLc (iTup K (tVar 0)) (gName 3) tYes (tOp rModI (tCB rInt1 (tCons (tCB (rSum K) (tCons (tLc (iRng1 (tCons (tCB (rLenV K) (tCons (tVar 1) tNil)) tNil)) (gName 4) tYes (tOp rMulI (tOp (rIxT K) (tVar 3) (tVar 4)) (tOp (rIxA K) (tVar 1) (tVar 4))) [4]) tNil)) tNil)) (tVar 2)) [3]) (L2.start n_law_times [.ref m, .ref r, .int p]) H ((timesM p n M v).map V.int) := by
    have := el_lcTp (K := K) (σ := L2.start n_law_times [.ref m, .ref r, .int p]) (H := H) (j := 3) (vs := [3]) (t := tYes) (tl := tVar 0) (te := tOp rModI (tCB rInt1 (tCons (tCB (rSum K) (tCons (tLc (iRng1 (tCons (tCB (rLenV K) (tCons (tVar 1) tNil)) tNil)) (gName 4) tYes (tOp rMulI (tOp (rIxT K) (tVar 3) (tVar 4)) (tOp (rIxA K) (tVar 1) (tVar 4))) [4]) tNil)) tNil)) (tVar 2)) (fun _ => true) (fun i => .int (dot n (row M i) v % p)) (ev_var rfl) hm (by rw [List.length_map]; omega) (fun x => rfl) (fun i x H1 e hx => et_yes)
      (fun i x H1 e hx _ => by
        obtain ⟨b, hb, rfl⟩ := ms_at (K := K) (H := H) hx
        have hi : i < M.length := by have := (List.getElem?_eq_some_iff.mp hb).1; omega
        have wr := wf_row wf hi
        have len := ev_lenA (K := K) (σ := [some (.ref m), some (.ref r), some (.int p), some (.ref b), none]) (ta := tVar 1) (ev_var rfl) (ex_a e hr)
        rw [List.length_map, hv] at len
        have inner := el_lcR1 (σ := [some (.ref m), some (.ref r), some (.int p), some (.ref b), none]) (H := H1) (j := 4) (vs := [4]) (t := tYes) (te := tOp rMulI (tOp (rIxT K) (tVar 3) (tVar 4)) (tOp (rIxA K) (tVar 1) (tVar 4))) (fun _ => true) (fun k => .int (nth (row M i) k * nth v k)) (ea_1 len) (by omega) (fun x => rfl)
          (fun k H2 e2 hk => et_yes) (fun k H2 e2 hk _ => ev_mulI (ev_ixT (ev_var rfl) (ev_var rfl) (ex_t (e.trans e2) (hmr i b hb)) (ints_atI (by omega))) (ev_ixA (ev_var rfl) (ev_var rfl) (ex_a (e.trans e2) hr) (ints_atI (by omega))) (.inl (by
            have := wf_nth wf p0 i k
            unfold ent at this
            exact ⟨by omega, by omega⟩)))
        rw [given_true, Int.toNat_natCast, show (List.range n).map (fun k => V.int (nth (row M i) k * nth v k)) = ((List.range n).map fun k => nth (row M i) k * nth v k).map V.int by rw [List.map_map]; rfl] at inner
        have s := ev_modI (ev_int1 (ev_sumN (K := K) inner)) (ev_var (i := 2) rfl) p0
        rw [sum_range] at s
        exact s)
    rw [given_true, List.length_map, hml] at this
    have z : (List.range M.length).map (fun i => V.int (dot n (row M i) v % p)) = (timesM p n M v).map V.int := by
      apply List.ext_getElem?
      intro i
      by_cases c : i < M.length
      · rw [List.getElem?_map, List.getElem?_range c]
        unfold timesM
        rw [List.map_map, List.getElem?_map, row_at c]
        rfl
      · rw [List.getElem?_eq_none (by simp; omega), List.getElem?_eq_none (by simp [timesM]; omega)]
    rw [z] at this
    exact this
  exact eh_tupN key H (.refl H) _ q
theorem ok_law_times (T : Txt K mg) : FnOk P w K mg base CX0 1 T.f_law_times T.fd_law_times ["matrix", "row", "p"] (sp_law_times T) :=
  T.d_law_times.F.ok sc_law_times (fun vs H Q E h => len_law_times T h) fun cdv A outer s H vs Q E hr h => ⟨t_law_times T, by
    exact (pss_one (ps_ret (pe_callTy call_tuple_of (by rfl) T.m_tuple (by decide +kernel) (pa_cons (pe_lc (own := [("line", 3)]) (g := (gName 3)) (tt := tYes) (te := (tOp rModI (tCB rInt1 (tCons (tCB (rSum K) (tCons (tLc (iRng1 (tCons (tCB (rLenV K) (tCons (tVar 1) tNil)) tNil)) (gName 4) tYes (tOp rMulI (tOp (rIxT K) (tVar 3) (tVar 4)) (tOp (rIxA K) (tVar 1) (tVar 4))) [4]) tNil)) tNil)) (tVar 2))) rfl sc_law_times.nd (pi_tup (pv 0)) (blkOk_by (own := [("line", 3)]) (N := n_law_times) (sc := defScope s_law_times) (by decide +kernel)) (fun _ _ _ _ _ => (pg_name (i := 3) sc_law_times.nd rfl (Or.inr rfl))) (fun _ _ _ _ _ => pts_nil) (fun _ _ _ _ _ => (pe_op op_mod (pe_callTy call_int1 (by rfl) T.m_int (by decide +kernel) (pa_cons (pe_callB (cr_sum rfl) (by rfl) T.m_sum (by decide +kernel) (pa_cons (pe_lcIn (own := [("k", 4)]) (g := (gName 4)) (tt := tYes) (te := (tOp rMulI (tOp (rIxT K) (tVar 3) (tVar 4)) (tOp (rIxA K) (tVar 1) (tVar 4)))) rfl sc_law_times.nd (pi_range1 (by rfl) T.m_range (pa_cons (pe_callB call_len (by rfl) T.m_len (by decide +kernel) (pa_cons (pv 1) pa_nil)) pa_nil)) (blkOk_by (own := [("k", 4)]) (N := n_law_times) (sc := _) (by decide +kernel)) (fun _ _ _ _ _ => (pg_name (i := 4) sc_law_times.nd rfl (Or.inl rfl))) (fun _ _ _ _ _ => pts_nil) (fun _ _ _ _ _ => (pe_op op_mul (pe_ix ix_tup (pv 3) (pv 4) (fun _ _ => rfl)) (pe_ix ix_seq (pv 1) (pv 4) (fun _ _ => rfl))))) pa_nil)) pa_nil)) (pv 2)))) pa_nil)))), pure_law_times T h⟩

def sp_law_own_kernel (T : Txt K mg) : Sp := fun vs H Q _ => ∃ (m : Addr) (M : Mx) (n : Nat) (p : Int), vs = [.ref m, .int (n : Int), .int p] ∧ MS K m M H ∧ WF p n M ∧ n ≤ 39 ∧ M.length ≤ 40 ∧ Prm p ∧ ∀ t H', Ex H H' → MT K t (ker p M n) H' → Q (.ref t) H'
theorem len_law_own_kernel (T : Txt K mg) {vs H Q E} (h : sp_law_own_kernel T vs H Q E) : vs.length = 3 := by obtain ⟨_, _, _, _, rfl, _⟩ := h; rfl
def t_law_own_kernel (T : Txt K mg) : TS := (tSeq (tAsg (tCall (sp_law_own_reduced T) [] E0 (tCons (tVar 0) (tCons (tVar 1) (tCons (tVar 2) tNil)))) (gTup K 2 (gCons (gName 3) (gCons (gName 4) gNil)))) (tSeq (tAsg (tLst tNil) (gName 5)) (tSeq (tFor (iList K (tLc (iRng1 (tCons (tVar 1) tNil)) (gName 9) (tTest (tOp (rIn K true) (tVar 9) (tVar 4))) (tVar 9) [9])) (gName 6) (tSeq (tAsg (tOp rRep (tLst (tCons (tC (.int 0)) tNil)) (tVar 1)) (gName 7)) (tSeq (tAsg (tC (.int 1)) (gSub (tVar 7) (tVar 6) rSetL)) (tSeq (tFor (iRng1 (tCons (tCB (rLenV K) (tCons (tVar 3) tNil)) tNil)) (gName 8) (tAsg (tOp rModI (tCB rInt1 (tCons (tUn rNegI (tOp (rIxT K) (tOp (rIxT K) (tVar 3) (tVar 8)) (tVar 6))) tNil)) (tVar 2)) (gSub (tVar 7) (tOp (rIxL K) (tVar 4) (tVar 8)) rSetL))) (tDrop (tBM K "list" rAppend (tVar 5) (tCons (tCB (rTupOf K) (tCons (tVar 7) tNil)) tNil))))))) (tRet (tOp (rIxT K) (tCall (sp_law_own_reduced T) [] E0 (tCons (tVar 5) (tCons (tVar 1) (tCons (tVar 2) tNil)))) (tC (.int 0)))))))

theorem len_frees {n : Nat} {S : List Nat} : (frees n S).length ≤ n := by
  have := List.length_filter_le (fun k => !decide (k ∈ S)) (List.range n)
  rw [List.length_range] at this
  exact this
theorem pure_law_own_kernel (T : Txt K mg) {vs H Q} {E : XK} (h : sp_law_own_kernel T vs H Q E) : t_law_own_kernel T { nx := fun _ H' => Q .non H', rt := Q } (L2.start n_law_own_kernel vs) H := by
  obtain ⟨m, M, n, p, rfl, ms, wf, hn, hz, P, q⟩ := h
  have p5 := P.1
  have g := good_red (show 1 < p by omega) P.has wf n
  have lrr := len_rr (show 1 < p by omega) P.has wf
  have lred := len_red (p := p) (M := M) n
  have gdr := g.dr
  have gdl := g.dl
  -- rows, starts
  refine en_call (ea_3 (ev_var rfl) (ev_var rfl) (ev_var rfl)) (v_law_own_reduced T ms wf (by omega) hz P) H (.refl H) _ fun v H1 hv e1 ⟨a, b, hvs, hma, hb⟩ => ⟨v, _, rfl, hvs, rfl, _, _, rfl, _, _, rfl, rfl, ?_⟩
  obtain ⟨refsT, ht1, ht2, ht3⟩ := hma
  have tl : refsT.length = (red p M n).S.length := by rw [ht2, lrr, gdl]
  refine q_asgL (xs := []) (el_lst ea_nil (Nat.zero_le _)) fun un H3 hun e3 hux => ?_
  -- the free places
  refine q_forNL (xs := ofN (frees n (red p M n).S)) ?_ (fun fr i σ' H' => ∃ (refs : List Addr) (u6 u7 u8 u9 : Option V), σ' = [some (.ref m), some (.int (n : Int)), some (.int p), some (.ref a), some (.ref b), some (.ref un), u6, u7, u8, u9] ∧ Ex H1 H' ∧ H' fr = some (.lst (ofN (frees n (red p M n).S))) ∧ fr ≠ un ∧
      H' un = some (.lst (refs.map V.ref)) ∧ refs.length = i ∧ ∀ j c, refs[j]? = some c → c ≠ un ∧ H' c = some (.tup ((vecT p (red p M n).R (red p M n).S n ((frees n (red p M n).S).getD j 0) (red p M n).d).map V.int)))
    (fun fr H4 hfr e4 hfx => ⟨[], none, none, none, none, rfl, e3.trans e4, hfx, (fun z => by rw [z, hux] at hfr; cases hfr), e4 _ _ hux, rfl, fun j c hc => by simp at hc⟩) (fun fr i σ' H' hi ⟨_, _, _, _, _, _, _, hfx, _⟩ => sq_of hfx) ?_ ?_
  · have := el_lcR1 (σ := [some (.ref m), some (.int (n : Int)), some (.int p), some (.ref a), some (.ref b), some (.ref un), none, none, none, none]) (H := H3) (j := 9) (vs := [9]) (t := tTest (tOp (rIn K true) (tVar 9) (tVar 4))) (te := tVar 9) (fun k => !decide (k ∈ (red p M n).S)) (fun k => .int (k : Int)) (ea_1 (ev_var (i := 1) rfl)) (by omega) (fun x => rfl)
      (fun k H2 e2 hk => et_notIn (ev_var rfl) (ev_var rfl) (sq_of ((e3.trans e2) _ _ hb))) (fun k H2 e2 hk _ => ev_var rfl)
    rw [Int.toNat_natCast] at this
    exact this
  · rintro fr i x σ' H4 hx ⟨refs, u6, u7, u8, u9, rfl, e', hfx, nfu, hu, hrl, hrs⟩
    have hi : i < (frees n (red p M n).S).length := by have := (List.getElem?_eq_some_iff.mp hx).1; simpa [ofN] using this
    generalize hf : (frees n (red p M n).S).getD i 0 = f
    have hxf : x = .int (f : Int) := by
      unfold ofN at hx
      rw [List.getElem?_map, S_at hi, hf] at hx
      injection hx with hx
      exact hx.symm
    subst hxf
    have hfm : f ∈ frees n (red p M n).S := by rw [← hf]; exact List.mem_of_getElem? (S_at hi)
    have hf' : f < n := List.mem_range.mp (List.mem_filter.mp hfm).1
    refine q_asgL (xs := (List.replicate n (0 : Int)).map V.int) ?_ fun nb H5 hnb e5 hnx => ?_
    · have := el_rep (σ := [some (.ref m), some (.int (n : Int)), some (.int p), some (.ref a), some (.ref b), some (.ref un), some (.int (f : Int)), u7, u8, u9]) (H := H4) (v := .int 0) (te := tC (.int 0)) (tb := tVar 1) (k := (n : Int)) ev_c (ev_var rfl) (by omega) (by omega)
      rw [Int.toNat_natCast, rep_ints] at this
      exact this
    refine q_setL (j := f) hnx ev_c (ev_var rfl) (ev_var rfl) (by simp; exact hf') fun H6 e6 => ?_
    have x6 : Ex H4 (upd H6 nb (.lst (((List.replicate n (0 : Int)).map V.int).set f (.int 1)))) := Ex.mut (e5.trans e6) hnb
    have n6 : (upd H6 nb (.lst (((List.replicate n (0 : Int)).map V.int).set f (.int 1)))) nb = some (.lst ((vecT p (red p M n).R (red p M n).S n f 0).map V.int)) := by
      rw [upd_same]; show _ = some (HO.lst (((List.replicate n (0 : Int)).set f 1).map V.int)); rw [List.map_set]
    generalize upd H6 nb (.lst (((List.replicate n (0 : Int)).map V.int).set f (.int 1))) = H7 at x6 n6
    have E7 : Ex H1 H7 := e'.trans x6
    have len7 := ev_lenT (K := K) (σ := [some (.ref m), some (.int (n : Int)), some (.int p), some (.ref a), some (.ref b), some (.ref un), some (.int (f : Int)), some (.ref nb), u8, u9]) (ta := tVar 3) (H := H7) (ev_var rfl) (ex_t E7 ht1)
    rw [List.length_map, tl, ← gdl] at len7
    refine q_forR1 (ea_1 len7) (by omega) (fun k σ' H' => ∃ (u8 : Option V), σ' = [some (.ref m), some (.int (n : Int)), some (.int p), some (.ref a), some (.ref b), some (.ref un), some (.int (f : Int)), some (.ref nb), u8, u9] ∧ Ex H4 H' ∧ H' nb = some (.lst ((vecT p (red p M n).R (red p M n).S n f k).map V.int)))
      (fun H8 e8 => ⟨u8, rfl, x6.trans e8, e8 _ _ n6⟩) ?_ ?_
    · rintro k σ' H8 hk ⟨u8, rfl, e8, n8⟩
      have hkd : k < (red p M n).d := by omega
      have hkS : k < (red p M n).S.length := by omega
      have hSn := g.lt _ (List.mem_of_getElem? (S_at hkS))
      have hkR : k < (red p M n).R.length := by omega
      have er : row (rr p M n) k = row (red p M n).R k := row_take hkd
      have hkt : k < refsT.length := by omega
      have hrow := ht3 k refsT[k] (List.getElem?_eq_getElem hkt)
      rw [er] at hrow
      have EE : Ex H1 H8 := e'.trans e8
      refine s_setL (j := (red p M n).S.getD k 0) (v := .int (-(ent (red p M n).R k f) % p)) n8 (ev_modI (ev_int1 (ev_negI (ev_ixT (ev_ixT (ev_var rfl) (ev_var rfl) (ex_t EE ht1) (atI_nat (refs_at (List.getElem?_eq_getElem hkt)))) (ev_var rfl) (ex_t EE hrow) (ints_atI (by rw [(wf_row g.wf hkR).1]; exact hf'))))) (ev_var rfl) (by omega)) (ev_var rfl) (ev_ixL (ev_var rfl) (ev_var rfl) (sq_of (EE _ _ hb)) (atI_nat (by unfold ofN; rw [List.getElem?_map, S_at hkS]; rfl))) (by rw [List.length_map, len_vecT]; exact hSn) fun H10 e10 => ?_
      refine ⟨_, rfl, Ex.mut (e8.trans e10) hnb, ?_⟩
      rw [upd_same]
      show _ = some (HO.lst (((vecT p (red p M n).R (red p M n).S n f k).set ((red p M n).S.getD k 0) (-(ent (red p M n).R k f) % p)).map V.int))
      rw [List.map_set]
    · rintro σ' H8 ⟨u8, rfl, e8, n8⟩
      have n8' : H8 nb = some (.lst ((vecT p (red p M n).R (red p M n).S n f (red p M n).d).map V.int)) := n8
      refine s_appH (e8 _ _ hu) (ev_var rfl) (eh_tup (ev_var rfl) (sq_of n8')) (by rw [List.length_map, hrl]; have := len_frees (n := n) (S := (red p M n).S); omega) fun np H9 hnp e9 hnpx => ?_
      have npu : np ≠ un := fun z => by rw [z, e8 _ _ hu] at hnp; cases hnp
      refine ⟨refs ++ [np], _, _, _, _, rfl, Ex.mut ((e'.trans e8).trans e9) hun, ?_, nfu, by rw [upd_same]; simp, by simp [hrl], fun j c hc => ?_⟩
      · rw [upd_ne nfu]; exact e9 _ _ (e8 _ _ hfx)
      · by_cases cc : j < refs.length
        · rw [List.getElem?_append_left cc] at hc
          obtain ⟨h1, h2⟩ := hrs j c hc
          exact ⟨h1, by rw [upd_ne h1]; exact e9 _ _ (e8 _ _ h2)⟩
        · rw [List.getElem?_append_right (by omega)] at hc
          have z : j - refs.length = 0 := by
            refine Nat.eq_zero_of_not_pos fun q => ?_
            rw [List.getElem?_eq_none (by simp; omega)] at hc
            cases hc
          rw [z] at hc
          simp at hc
          subst hc
          have : j = i := by omega
          subst this
          rw [hf]
          exact ⟨npu, by rw [upd_ne npu]; exact hnpx⟩
  · rintro fr σ' H4 ⟨refs, u6, u7, u8, u9, rfl, e', hfx, nfu, hu, hrl, hrs⟩
    have lf : refs.length = (frees n (red p M n).S).length := by rw [hrl]; simp [ofN]
    have msK : MS K un (kerM p M n) H4 := ⟨refs, .inl (sq_of hu), by simp [kerM, lf], fun j c hc => by
      have hj : j < refs.length := (List.getElem?_eq_some_iff.mp hc).1
      have er : row (kerM p M n) j = vecT p (red p M n).R (red p M n).S n ((frees n (red p M n).S).getD j 0) (red p M n).d := by
        unfold kerM
        show (List.map _ _).getD j [] = _
        rw [getD_lt (by rw [List.length_map]; omega), List.getElem_map, getD_lt (by omega)]
      rw [er]
      exact .inr (st_of (hrs j c hc).2)⟩
    have klen : (kerM p M n).length ≤ n := by
      simp only [kerM, List.length_map]
      have := List.length_filter_le (fun k => !decide (k ∈ (red p M n).S)) (List.range n)
      rw [List.length_range] at this
      exact this
    refine en_call (ea_3 (ev_var rfl) (ev_var rfl) (ev_var rfl)) (v_law_own_reduced T msK (wf_kerM (show 1 < p by omega)) (by omega) (by omega) P) H4 (.refl H4) _ fun v2 H5 hv2 e5 ⟨a2, b2, hvs2, hma2, _⟩ => ?_
    exact ⟨v2, _, 0, .ref a2, rfl, rfl, hvs2, rfl, q a2 H5 ((e1.trans e').trans e5) hma2⟩
theorem ok_law_own_kernel (T : Txt K mg) : FnOk P w K mg base CX0 3 T.f_law_own_kernel T.fd_law_own_kernel ["matrix", "many", "p"] (sp_law_own_kernel T) :=
  T.d_law_own_kernel.F.ok sc_law_own_kernel (fun vs H Q E h => len_law_own_kernel T h) fun cdv A outer s H vs Q E hr h => ⟨t_law_own_kernel T, by
    exact (pss_cons (ps_asg (pe_call (ok_law_own_reduced T) (hr.mono (by decide)) (by rfl) T.d_law_own_reduced.g T.d_law_own_reduced.F.kp T.d_law_own_reduced.b .nil pass0 (pa_cons (pv 0) (pa_cons (pv 1) (pa_cons (pv 2) pa_nil)))) (pg_tup rfl (pgs_cons (pg_name (i := 3) sc_law_own_kernel.nd rfl (Or.inl rfl)) (pgs_cons (pg_name (i := 4) sc_law_own_kernel.nd rfl (Or.inr rfl)) pgs_nil)))) (pss_cons (ps_set (i := 5) sc_law_own_kernel.nd rfl (Or.inl rfl) (pe_lst pa_nil)) (pss_cons (ps_for PassesOwn.never rfl (pi_list (pe_lc (own := [("k", 9)]) (g := (gName 9)) (tt := (tTest (tOp (rIn K true) (tVar 9) (tVar 4)))) (te := (tVar 9)) rfl sc_law_own_kernel.nd (pi_range1 (by rfl) T.m_range (pa_cons (pv 1) pa_nil)) (blkOk_by (own := [("k", 9)]) (N := n_law_own_kernel) (sc := defScope s_law_own_kernel) (by decide +kernel)) (fun _ _ _ _ _ => (pg_name (i := 9) sc_law_own_kernel.nd rfl (Or.inl rfl))) (fun _ _ _ _ _ => pts_one (pt_cmpR op_notIn_seq (pv 9) (pv 4) (by rfl))) (fun _ _ _ _ _ => (pv 9)))) (pg_name (i := 6) sc_law_own_kernel.nd rfl (Or.inl rfl)) (pss_cons (ps_set (i := 7) sc_law_own_kernel.nd rfl (Or.inl rfl) (pe_op op_rep (pe_lst (pa_cons pe_int pa_nil)) (pv 1))) (pss_cons (ps_asg pe_int (pg_sub (pv 7) (pv 6) set_list)) (pss_cons (ps_for PassesOwn.never rfl (pi_range1 (by rfl) T.m_range (pa_cons (pe_callB call_len (by rfl) T.m_len (by decide +kernel) (pa_cons (pv 3) pa_nil)) pa_nil)) (pg_name (i := 8) sc_law_own_kernel.nd rfl (Or.inl rfl)) (pss_one (ps_asg (pe_op op_mod (pe_callTy call_int1 (by rfl) T.m_int (by decide +kernel) (pa_cons (pe_un un_neg (pe_ix ix_tup (pe_ix ix_tup (pv 3) (pv 8) (fun _ _ => rfl)) (pv 6) (fun _ _ => rfl))) pa_nil)) (pv 2)) (pg_sub (pv 7) (pe_ix ix_list (pv 4) (pv 8) (fun _ _ => rfl)) set_list)))) (pss_one (ps_expr (pe_bm PySem.F.plainAttrs_list PySem.F.slot_list_append PySem.F.type_list_append mt_append (pv 5) (pa_cons (pe_callTy call_tuple_of (by rfl) T.m_tuple (by decide +kernel) (pa_cons (pv 7) pa_nil)) pa_nil)))))))) (pss_one (ps_ret (pe_ix ix_tup (pe_call (ok_law_own_reduced T) (hr.mono (by decide)) (by rfl) T.d_law_own_reduced.g T.d_law_own_reduced.F.kp T.d_law_own_reduced.b .nil pass0 (pa_cons (pv 5) (pa_cons (pv 1) (pa_cons (pv 2) pa_nil)))) pe_int (fun _ _ => rfl))))))), pure_law_own_kernel T h⟩

/-- what the law's solving tells -/
def OwnS (K : PySem.W.Frag) : Option Ro → VP
  | none, v, _ => v = .non
  | some s, v, H => ∃ a, v = .ref a ∧ SqT K H a (s.map V.int)
theorem OwnS.ex {H H' : Hp} {o : Option Ro} {v : V} (e : Ex H H') (h : OwnS K o v H) : OwnS K o v H' := by
  cases o with
  | none => exact h
  | some s => obtain ⟨a, h1, h2⟩ := h; exact ⟨a, h1, ex_t e h2⟩
def sp_law_own_solved (T : Txt K mg) : Sp := fun vs H Q _ => ∃ (m r : Addr) (M : Mx) (right : Ro) (n : Nat) (p : Int), vs = [.ref m, .int (n : Int), .ref r, .int p] ∧ MT K m M H ∧ SqT K H r (right.map V.int) ∧ right.length = M.length ∧ (∀ x ∈ right, 0 ≤ x ∧ x < p) ∧ WF p n M ∧ n ≤ 30 ∧ M.length ≤ 40 ∧ Prm p ∧
  ∀ v H', Ex H H' → OwnS K (sol p M right n) v H' → Q v H'
theorem len_law_own_solved (T : Txt K mg) {vs H Q E} (h : sp_law_own_solved T vs H Q E) : vs.length = 4 := by obtain ⟨_, _, _, _, _, _, rfl, _⟩ := h; rfl
def t_law_own_solved (T : Txt K mg) : TS := (tSeq (tAsg (tLc (iRng1 (tCons (tCB (rLenV K) (tCons (tVar 0) tNil)) tNil)) (gName 8) tYes (tOp (rCatA K) (tCB (rTupOf K) (tCons (tOp (rIxT K) (tVar 0) (tVar 8)) tNil)) (tTup (tCons (tOp (rIxT K) (tVar 2) (tVar 8)) tNil))) [8]) (gName 4)) (tSeq (tAsg (tCall (sp_law_own_reduced T) [] E0 (tCons (tVar 4) (tCons (tOp rAddI (tVar 1) (tC (.int 1))) (tCons (tVar 3) tNil)))) (gTup K 2 (gCons (gName 5) (gCons (gName 6) gNil)))) (tSeq (tIfS (tTest (tOp (rIn K false) (tVar 1) (tVar 6))) (tRet (tC .non)) tNext) (tSeq (tAsg (tOp rRep (tLst (tCons (tC (.int 0)) tNil)) (tVar 1)) (gName 7)) (tSeq (tFor (iRng1 (tCons (tCB (rLenV K) (tCons (tVar 5) tNil)) tNil)) (gName 8) (tAsg (tOp (rIxT K) (tOp (rIxT K) (tVar 5) (tVar 8)) (tVar 1)) (gSub (tVar 7) (tOp (rIxL K) (tVar 6) (tVar 8)) rSetL))) (tRet (tCB (rTupOf K) (tCons (tVar 7) tNil))))))))

theorem pure_law_own_solved (T : Txt K mg) {vs H Q} {E : XK} (h : sp_law_own_solved T vs H Q E) : t_law_own_solved T { nx := fun _ H' => Q .non H', rt := Q } (L2.start n_law_own_solved vs) H := by
  obtain ⟨m, r, M, right, n, p, rfl, mt, hr, hrl, hrb, wf, hn, hz, P, q⟩ := h
  have p5 := P.1
  have wj := wf_joined wf hrl hrb
  have lj := len_joined hrl
  have g := good_red (show 1 < p by omega) P.has wj (n + 1)
  have lrr := len_rr (show 1 < p by omega) P.has wj
  have lred := len_red (p := p) (M := joined M right) (n + 1)
  have gdr := g.dr
  have gdl := g.dl
  obtain ⟨refsM, hm1, hm2, hm3⟩ := id mt
  have len0 := ev_lenT (K := K) (σ := L2.start n_law_own_solved [.ref m, .int (n : Int), .ref r, .int p]) (ta := tVar 0) (H := H) (ev_var rfl) hm1
  rw [List.length_map, hm2] at len0
  refine q_asgN (en_lcR (n := (M.length : Int)) (o := fun i => .tup ((row (joined M right) i).map V.int)) (ea_1 len0) (by omega) (fun x => rfl) (fun i H1 e hi => ?_)) fun l H1 hl e1 P1 => ?_
  · have hi' : i < M.length := by omega
    have hir : i < refsM.length := by omega
    have hb := List.getElem?_eq_getElem hir
    generalize refsM[i] = b at hb
    have e1 : (row (joined M right) i).map V.int = (row M i).map V.int ++ [V.int (nth right i)] := by rw [row_joined hrl hi', List.map_append]; rfl
    show EvH _ _ _ (HO.tup ((row (joined M right) i).map V.int))
    rw [e1]
    exact eh_catT (ev_ixT (ev_var rfl) (ev_var rfl) (ex_t e hm1) (atI_nat (refs_at hb))) (ex_t e (hm3 i b hb)) (ev_ixT (ev_var rfl) (ev_var rfl) (ex_t e hr) (ints_atI (by omega))) (by rw [List.length_map, (wf_row wf hi').1]; omega)
  · have ms1 : MS K l (joined M right) H1 := by
      obtain ⟨refs, h1, h2, h3⟩ := P1
      rw [Int.toNat_natCast] at h2
      exact ⟨refs, .inl (sq_of h1), by omega, fun i b hb => .inr (st_of (h3 i b hb).2)⟩
    refine en_call (ea_3 (ev_var rfl) (ev_is (ev_addI (ev_var rfl) ev_c) (show V.int ((n : Int) + 1) = V.int ((n + 1 : Nat) : Int) by simp)) (ev_var rfl)) (v_law_own_reduced T ms1 wj (by omega) (by omega) P) H1 (.refl H1) _ fun v H2 hv e2 ⟨a, b, hvs, hma, hb⟩ => ⟨v, _, rfl, hvs, rfl, _, _, rfl, _, _, rfl, rfl, ?_⟩
    refine q_when (et_in (ev_var rfl) (ev_var rfl) (sq_of hb)) (fun c H4 e4 => ?_) (fun c H4 e4 => ?_)
    · refine s_ret ev_c fun H5 e5 => q .non H5 (((e1.trans e2).trans e4).trans e5) ?_
      have z : sol p M right n = none := if_pos (of_decide_eq_true c)
      rw [z]; rfl
    · have nS := of_decide_eq_false c
      refine q_asgL (xs := (List.replicate n (0 : Int)).map V.int) ?_ fun nb H5 hnb e5 hnx => ?_
      · have := el_rep (σ := [some (.ref m), some (.int (n : Int)), some (.ref r), some (.int p), some (.ref l), some (.ref a), some (.ref b), none, none]) (H := H4) (v := .int 0) (te := tC (.int 0)) (tb := tVar 1) (k := (n : Int)) ev_c (ev_var rfl) (by omega) (by omega)
        rw [Int.toNat_natCast, rep_ints] at this
        exact this
      · obtain ⟨refsT, ht1, ht2, ht3⟩ := hma
        have hb4 := e4 _ _ hb
        have tl : refsT.length = (red p (joined M right) (n + 1)).S.length := by rw [ht2, lrr, gdl]
        have len5 := ev_lenT (K := K) (σ := [some (.ref m), some (.int (n : Int)), some (.ref r), some (.int p), some (.ref l), some (.ref a), some (.ref b), some (.ref nb), none]) (ta := tVar 5) (H := H5) (ev_var rfl) (ex_t (e4.trans e5) ht1)
        rw [List.length_map, tl, ← gdl] at len5
        refine q_forR1 (ea_1 len5) (by omega) (fun k σ' H' => ∃ (u8 : Option V), σ' = [some (.ref m), some (.int (n : Int)), some (.ref r), some (.int p), some (.ref l), some (.ref a), some (.ref b), some (.ref nb), u8] ∧ Ex H4 H' ∧ H' nb = some (.lst ((solT (red p (joined M right) (n + 1)).R (red p (joined M right) (n + 1)).S n k).map V.int)))
          (fun H8 e8 => ⟨none, rfl, e5.trans e8, e8 _ _ hnx⟩) ?_ ?_
        · rintro k σ' H8 hk ⟨u8, rfl, e8, n8⟩
          have hkd : k < (red p (joined M right) (n + 1)).d := by omega
          have hkS : k < (red p (joined M right) (n + 1)).S.length := by omega
          have hSm := List.mem_of_getElem? (S_at hkS)
          have hSn := g.lt _ hSm
          have hne : (red p (joined M right) (n + 1)).S.getD k 0 ≠ n := fun z => by rw [z] at hSm; exact nS hSm
          have er : row (rr p (joined M right) (n + 1)) k = row (red p (joined M right) (n + 1)).R k := row_take hkd
          have hkt : k < refsT.length := by omega
          have hrow := ht3 k refsT[k] (List.getElem?_eq_getElem hkt)
          rw [er] at hrow
          have hkR : k < (red p (joined M right) (n + 1)).R.length := by omega
          have E8 := e4.trans e8
          refine s_setL (j := (red p (joined M right) (n + 1)).S.getD k 0) (v := .int (ent (red p (joined M right) (n + 1)).R k n)) n8 (ev_ixT (ev_ixT (ev_var rfl) (ev_var rfl) (ex_t E8 ht1) (atI_nat (refs_at (List.getElem?_eq_getElem hkt)))) (ev_var rfl) (ex_t E8 hrow) (ints_atI (by rw [(wf_row g.wf hkR).1]; omega))) (ev_var rfl) (ev_ixL (ev_var rfl) (ev_var rfl) (sq_of (e8 _ _ hb4)) (atI_nat (by unfold ofN; rw [List.getElem?_map, S_at hkS]; rfl))) (by rw [List.length_map, len_solT]; omega) fun H10 e10 => ?_
          refine ⟨_, rfl, Ex.mut (e8.trans e10) hnb, ?_⟩
          rw [upd_same]
          show _ = some (HO.lst (((solT (red p (joined M right) (n + 1)).R (red p (joined M right) (n + 1)).S n k).set ((red p (joined M right) (n + 1)).S.getD k 0) (ent (red p (joined M right) (n + 1)).R k n)).map V.int))
          rw [List.map_set]
        · rintro σ' H8 ⟨u8, rfl, e8, n8⟩
          have n8' : H8 nb = some (.lst ((solT (red p (joined M right) (n + 1)).R (red p (joined M right) (n + 1)).S n (red p (joined M right) (n + 1)).d).map V.int)) := n8
          refine eh_tup (K := K) (te := tVar 7) (ev_var rfl) (sq_of n8') H8 (.refl H8) _ fun x H9 hx e9 hxx => q _ _ ((((e1.trans e2).trans e4).trans e8).trans e9) ?_
          have z : sol p M right n = some (solT (red p (joined M right) (n + 1)).R (red p (joined M right) (n + 1)).S n (red p (joined M right) (n + 1)).d) := if_neg nS
          rw [z]
          exact ⟨x, rfl, st_of hxx⟩
theorem ok_law_own_solved (T : Txt K mg) : FnOk P w K mg base CX0 3 T.f_law_own_solved T.fd_law_own_solved ["matrix", "many", "right", "p"] (sp_law_own_solved T) :=
  T.d_law_own_solved.F.ok sc_law_own_solved (fun vs H Q E h => len_law_own_solved T h) fun cdv A outer s H vs Q E hr h => ⟨t_law_own_solved T, by
    exact (pss_cons (ps_setLc (i := 4) (own := [("r", 8)]) (g := (gName 8)) (tt := tYes) (te := (tOp (rCatA K) (tCB (rTupOf K) (tCons (tOp (rIxT K) (tVar 0) (tVar 8)) tNil)) (tTup (tCons (tOp (rIxT K) (tVar 2) (tVar 8)) tNil)))) rfl sc_law_own_solved.nd rfl rfl (sw_true rfl rfl rfl (by decide +kernel)) (pi_range1 (by rfl) T.m_range (pa_cons (pe_callB call_len (by rfl) T.m_len (by decide +kernel) (pa_cons (pv 0) pa_nil)) pa_nil)) (blkOk_by (own := [("r", 8)]) (N := n_law_own_solved) (sc := defScope s_law_own_solved) (by decide +kernel)) (fun _ _ _ _ _ => (pg_name (i := 8) sc_law_own_solved.nd rfl (Or.inl rfl))) (fun _ _ _ _ _ => pts_nil) (fun _ _ _ _ _ => (pe_op op_catA (pe_callTy call_tuple_of (by rfl) T.m_tuple (by decide +kernel) (pa_cons (pe_ix ix_tup (pv 0) (pv 8) (fun _ _ => rfl)) pa_nil)) (pe_tup (pa_cons (pe_ix ix_tup (pv 2) (pv 8) (fun _ _ => rfl)) pa_nil))))) (pss_cons (ps_asg (pe_call (ok_law_own_reduced T) (hr.mono (by decide)) (by rfl) T.d_law_own_reduced.g T.d_law_own_reduced.F.kp T.d_law_own_reduced.b .nil pass0 (pa_cons (pv 4) (pa_cons (pe_op op_add (pv 1) pe_int) (pa_cons (pv 3) pa_nil)))) (pg_tup rfl (pgs_cons (pg_name (i := 5) sc_law_own_solved.nd rfl (Or.inl rfl)) (pgs_cons (pg_name (i := 6) sc_law_own_solved.nd rfl (Or.inl rfl)) pgs_nil)))) (pss_cons (ps_if (pt_cmpR op_in_seq (pv 1) (pv 6) (by rfl)) (pss_one (ps_ret pe_non)) pss_nil) (pss_cons (ps_set (i := 7) sc_law_own_solved.nd rfl (Or.inl rfl) (pe_op op_rep (pe_lst (pa_cons pe_int pa_nil)) (pv 1))) (pss_cons (ps_for PassesOwn.never rfl (pi_range1 (by rfl) T.m_range (pa_cons (pe_callB call_len (by rfl) T.m_len (by decide +kernel) (pa_cons (pv 5) pa_nil)) pa_nil)) (pg_name (i := 8) sc_law_own_solved.nd rfl (Or.inl rfl)) (pss_one (ps_asg (pe_ix ix_tup (pe_ix ix_tup (pv 5) (pv 8) (fun _ _ => rfl)) (pv 1) (fun _ _ => rfl)) (pg_sub (pv 7) (pe_ix ix_list (pv 6) (pv 8) (fun _ _ => rfl)) set_list)))) (pss_one (ps_ret (pe_callTy call_tuple_of (by rfl) T.m_tuple (by decide +kernel) (pa_cons (pv 7) pa_nil))))))))), pure_law_own_solved T h⟩

end
end My


set_option maxHeartbeats 1000000
namespace My
open PySem PySem.Spec PyProof.Rows L2 Own
open Evl (Ex RetV)
section
variable {P : Program} {w : World} {K : PySem.W.Frag} {mg : Str → Option Value} {base : Heap}

open Evl
/-! ### drawn matrices -/
def sp_law_drawn_matrix (T : Txt K mg) : Sp := fun vs H Q _ => ∃ (a : Addr) (p : Int) (high many : Nat), vs = [.ref a, .int p, .int (high : Int), .int (many : Int)] ∧ Src H a ∧ Prm p ∧ high ≤ 10 ∧ many ≤ 10 ∧ ∀ t H' M, Up a H H' → MT K t M H' → WF p many M → M.length = high → Q (.ref t) H'
theorem len_law_drawn_matrix (T : Txt K mg) {vs H Q E} (h : sp_law_drawn_matrix T vs H Q E) : vs.length = 4 := by obtain ⟨_, _, _, _, rfl, _⟩ := h; rfl
def t_law_drawn_matrix (T : Txt K mg) : TS := (tSeq (tAsg (tLst tNil) (gName 4)) (tSeq (tFor (iRng1 (tCons (tVar 2) tNil)) (gName 5) (tSeq (tAsg (tLc (iRng1 (tCons (tVar 3) tNil)) (gName 7) tYes (tCall (sp_law_one T) [] E0 (tCons (tVar 0) (tCons (tLst (tCons (tC (.int 0)) (tCons (tC (.int 0)) (tCons (tC (.int 1)) (tCons (tOp rSubI (tVar 1) (tC (.int 1))) (tCons (tCall (sp_law_take T) [] E0 (tCons (tVar 0) (tCons (tVar 1) tNil))) (tCons (tCall (sp_law_take T) [] E0 (tCons (tVar 0) (tCons (tVar 1) tNil))) tNil))))))) tNil))) [7]) (gName 6)) (tSeq (tIfS (tAnd (tTest (tOp (rNeD K) (tVar 4) (tLst tNil))) (tTest (tOp rEq (tCall (sp_law_take T) [] E0 (tCons (tVar 0) (tCons (tC (.int 3)) tNil))) (tC (.int 0))))) (tAsg (tCall (sp_law_led T) [] E0 (tCons (tCall (sp_law_one T) [] E0 (tCons (tVar 0) (tCons (tVar 4) tNil))) (tCons (tCall (sp_law_one T) [] E0 (tCons (tVar 0) (tCons (tVar 4) tNil))) (tCons (tCall (sp_law_take T) [] E0 (tCons (tVar 0) (tCons (tVar 1) tNil))) (tCons (tVar 1) tNil))))) (gName 6)) tNext) (tDrop (tBM K "list" rAppend (tVar 4) (tCons (tVar 6) tNil)))))) (tRet (tCB (rTupOf K) (tCons (tLc (iList K (tVar 4)) (gName 6) tYes (tCB (rTupOf K) (tCons (tVar 6) tNil)) [6]) tNil)))))

theorem up_new {a l : Addr} {H0 H H1 : Hp} (s : Src H a) (nl : H0 l = none) (u : Up a H0 H) (n : l ≠ a) (w : ∀ b o', b ≠ a → b ≠ l → H b = some o' → H1 b = some o') (hs : H1 a = H a) : Up a H0 H1 :=
  ⟨fun b o' nb hb => w b o' nb (ne_of_none hb nl) (u.keep b o' nb hb), let ⟨x, y, h, r⟩ := s; ⟨x, y, by rw [hs]; exact h, r⟩⟩
/-- numbers below p, n of them, in a list of its own -/
def RowL (a : Addr) (p : Int) (n : Nat) (b : Addr) (r : Ro) (H : Hp) : Prop := b ≠ a ∧ H b = some (.lst (r.map V.int)) ∧ r.length = n ∧ ∀ x ∈ r, 0 ≤ x ∧ x < p
theorem pure_law_drawn_matrix (T : Txt K mg) {vs H Q} {E : XK} (h : sp_law_drawn_matrix T vs H Q E) : t_law_drawn_matrix T { nx := fun _ H' => Q .non H', rt := Q } (L2.start n_law_drawn_matrix vs) H := by
  obtain ⟨a, p, high, many, rfl, s, P, hh, hm, q⟩ := h
  have p5 := P.1
  have p6 := P.2.1
  refine q_asgL (xs := []) (el_lst ea_nil (Nat.zero_le _)) fun l H1 hl e1 hlx => ?_
  have nla : l ≠ a := s.new hl
  refine q_forR1 (ea_1 (ev_var rfl)) (by omega) (fun i σ' H' => ∃ (refs : List Addr) (R : Mx) (u5 u6 u7 : Option V), σ' = [some (.ref a), some (.int p), some (.int (high : Int)), some (.int (many : Int)), some (.ref l), u5, u6, u7] ∧ Up a H H' ∧ MLr l refs R H' ∧ (∀ b ∈ refs, b ≠ a) ∧ R.length = i ∧ WF p many R)
    (fun H2 e2 => ⟨[], [], none, none, none, rfl, .ex (e1.trans e2) s, ⟨by rw [e2 _ _ hlx]; rfl, rfl, fun i b hb => by simp at hb⟩, fun b hb => absurd hb List.not_mem_nil, rfl, fun r hr => absurd hr List.not_mem_nil⟩) ?_ ?_
  · rintro i σ' H2 hi ⟨refs, R, z5, z6, z7, rfl, u, ml, nra, hR, w⟩
    have s2 := u.src
    have mlAt : ∀ {H4 : Hp}, Up a H2 H4 → MLr l refs R H4 := fun u4 => ⟨u4.keep l _ nla ml.1, ml.2.1, fun j c hc => ⟨(ml.2.2 j c hc).1, u4.keep c _ (nra c (List.mem_of_getElem? hc)) (ml.2.2 j c hc).2⟩⟩
    -- the row drawn
    have I1 : ∀ {σ : L2.St} {H' : Hp} {i : Int}, 0 ≤ i → i ≤ p - 1 → EvS a (tC (.int i)) σ H' (PInt 0 (p - 1)) := fun h1 h2 => es_int h1 h2
    refine ss_asg s2 (es_lcN (P := PInt 0 (p - 1)) (n := many) rfl (by omega) (fun x => rfl) (fun k H1 u1 hk => es_one rfl (es_lst (ea_consS (I1 (by omega) (by omega)) (ea_consS (I1 (by omega) (by omega)) (ea_consS (I1 (by omega) (by omega))
      (ea_consS (es_wide (es_sub (es_vint (lo := p) (hi := p) rfl (by omega) (by omega)) (es_int (lo := 1) (hi := 1) (by omega) (by omega))) (by omega) (by omega)) (ea_consS (es_take (lo := p) (hi := p) rfl (es_vint rfl (by omega) (by omega)) (by omega) (by omega))
        (ea_consS (es_take (lo := p) (hi := p) rfl (es_vint rfl (by omega) (by omega)) (by omega) (by omega)) ea_nilS mono_int) mono_int) mono_int) mono_int) mono_int) mono_int) (by decide) mono_int) (by decide) (by decide) mono_int) monoK_int) fun v H3 u3 ⟨b, xs, ev, hbF, nba, hbx, hxl, hxp⟩ => ?_
    subst ev
    obtain ⟨r, rfl, hrl, hrb⟩ := ints_of hxp
    have nbl : b ≠ l := fun z => by rw [z, ml.1] at hbF; cases hbF
    have R0 : RowL a p many b r H3 := ⟨nba, hbx, by rw [← hxl, hrl], fun x hx => by have := hrb x hx; omega⟩
    have s3 := u3.src
    refine q_split (fun σ' H' => ∃ (b : Addr) (r : Ro) (v7 : Option V), σ' = [some (.ref a), some (.int p), some (.int (high : Int)), some (.int (many : Int)), some (.ref l), some (.int (i : Int)), some (.ref b), v7] ∧ Up a H2 H' ∧ RowL a p many b r H' ∧ b ≠ l) ?_ (fun KK => ?_)
    · rintro σ' H4 ⟨b, r, v7, rfl, u4, ⟨nba, hb, hrl, hrb⟩, nbl⟩
      have ml4 := mlAt u4
      -- rows.append(row)
      refine s_app ml4.1 (ev_var rfl) (ev_var rfl) (by rw [List.length_map, ml4.2.1]; omega) fun H5 e5 => ?_
      have ml5 := (ml4.ex e5).app nbl (e5 _ _ hb)
      refine ⟨refs ++ [b], R ++ [r], some (.int (i : Int)), some (.ref b), v7, rfl, ?_, ml5, fun c hc => ?_, by simp [hR], fun x hx => ?_⟩
      · exact up_new (u4.src.ex e5) hl ((u.trans u4).trans (.ex e5 u4.src)) nla (fun c o _ ncl hc => by rw [upd_ne ncl]; exact hc) (by rw [upd_ne nla.symm])
      · rcases List.mem_append.mp hc with z | z
        · exact nra c z
        · rw [List.mem_singleton.mp z]; exact nba
      · rcases List.mem_append.mp hx with z | z
        · exact w x z
        · rw [List.mem_singleton.mp z]; exact ⟨hrl, hrb⟩
    · -- if rows != [] and take(3) == 0
      refine et_neRows (K := K) (ev_var rfl) (mlAt u3) H3 (.refl H3) _ fun H4 e4 => ?_
      have u4 : Up a H2 H4 := u3.trans (.ex e4 s3)
      have s4 := u4.src
      have R4 : RowL a p many b r H4 := ⟨nba, e4 _ _ R0.2.1, R0.2.2⟩
      cases hRe : (!R.isEmpty) with
      | false => exact KK _ _ ⟨b, r, z7, rfl, u4, R4, nbl⟩
      | true =>
        have hRn : R ≠ [] := fun z => by rw [z] at hRe; cases hRe
        have R0' := List.length_pos_iff.mpr hRn
        refine es_take (lo := 3) (hi := 3) rfl (es_int (by decide) (by decide)) (by decide) (by decide) H4 (.refl s4) _ fun v H5 u5 ⟨t, et, t0, t1⟩ => ?_
        subst et
        refine ⟨rfl, _, rfl, ?_⟩
        have U5 := u4.trans u5
        have R5 : RowL a p many b r H5 := ⟨nba, u5.keep _ _ nba R4.2.1, R4.2.2⟩
        cases hd : decide (V.int t = V.int 0) with
        | false => exact KK _ _ ⟨b, r, z7, rfl, U5, R5, nbl⟩
        | true =>
          -- one of the rows, another, led
          have pick : ∀ {H6 : Hp}, Up a H2 H6 → ∀ Q' : VK, (∀ c r' H7, Up a H6 H7 → c ≠ l → RowL a p many c r' H7 → Q' (.ref c) H7) → spOne K ([V.ref a, V.ref l] ++ []) H6 Q' E0 := fun {H6} u6 Q' q' => by
            have m6 := mlAt u6
            refine ⟨a, l, refs.map V.ref, rfl, nla, u6.src, sq_of m6.1, fun z => ?_, by rw [List.length_map, m6.2.1]; omega, fun x hx H7 u7 => ?_⟩
            · have := m6.2.1; rw [List.map_eq_nil_iff] at z; rw [z] at this; simp at this; omega
            · obtain ⟨c, hc, rfl⟩ := List.mem_map.mp hx
              obtain ⟨j, hj, ej⟩ := List.mem_iff_getElem.mp hc
              have hj2 : refs[j]? = some c := by rw [List.getElem?_eq_getElem hj, ej]
              have m7 := mlAt (u6.trans u7)
              have := m7.2.2 j c hj2
              have wr := wf_row w (i := j) (by rw [← m7.2.1]; exact hj)
              exact q' c (row R j) H7 u7 this.1 ⟨nra c hc, this.2, wr.1, wr.2⟩
          refine ⟨_, rfl, _, rfl, pick U5 _ fun c1 r1 H6 u6 nc1 Q1 => ⟨_, rfl, _, rfl, pick (U5.trans u6) _ fun c2 r2 H7 u7 nc2 Q2 => ⟨_, rfl, _, rfl, ⟨a, p, rfl, u7.src, by omega, by omega, fun f H8 f0 f1 u8 => ⟨_, rfl, ?_⟩⟩⟩⟩⟩
          have Q1' := u8.keep _ _ Q1.1 (u7.keep _ _ Q1.1 Q1.2.1)
          have Q2' := u8.keep _ _ Q2.1 Q2.2.1
          refine ⟨c1, c2, r1, r2, f, p, rfl, sq_of Q1', sq_of Q2', by rw [Q1.2.2.1, Q2.2.2.1], by rw [Q1.2.2.1]; omega, by omega, f0, by omega, fun c H9 hc e9 hcx => ?_⟩
          have U8 := ((U5.trans u6).trans u7).trans u8
          have ncl : c ≠ l := fun z => by rw [z, (mlAt U8).1] at hc; cases hc
          refine KK _ _ ⟨c, led p f r1 r2, z7, rfl, U8.trans (.ex e9 U8.src), ⟨U8.src.new hc, hcx, by rw [len_led (by rw [Q1.2.2.1, Q2.2.2.1]), Q1.2.2.1], fun x hx => ?_⟩, ncl⟩
          unfold led at hx
          obtain ⟨k, hk, rfl⟩ := List.mem_iff_getElem.mp hx
          rw [List.getElem_zipWith]
          exact ⟨Int.emod_nonneg _ (by omega), Int.emod_lt_of_pos _ (by omega)⟩
  · rintro σ' H2 ⟨refs, R, u5, u6, u7, rfl, u, ml, nra, hR, w⟩
    have hR' : R.length = high := hR
    refine en_tup (K := K) (M := R) (n := (refs.map V.ref).length) (en_lcL (ev_var rfl) (sq_of ml.1) (by rw [List.length_map, ml.2.1]; omega) (fun x => rfl) (fun i x H3 e hx hi => ?_)) (by rw [List.length_map, ml.2.1]) H2 (.refl H2) _ fun t H3 ht e3 mt => q t H3 R (u.trans (.ex e3 u.src)) mt w hR'
    obtain ⟨b, hb, rfl⟩ := ms_at (K := K) (H := H) hx
    exact eh_tup (ev_var rfl) (sq_of (e _ _ (ml.2.2 i b hb).2))
theorem ok_law_drawn_matrix (T : Txt K mg) : FnOk P w K mg base CX0 3 T.f_law_drawn_matrix T.fd_law_drawn_matrix ["source", "p", "high", "many"] (sp_law_drawn_matrix T) :=
  T.d_law_drawn_matrix.F.ok sc_law_drawn_matrix (fun vs H Q E h => len_law_drawn_matrix T h) fun cdv A outer s H vs Q E hr h => ⟨t_law_drawn_matrix T, by
    exact (pss_cons (ps_set (i := 4) sc_law_drawn_matrix.nd rfl (Or.inl rfl) (pe_lst pa_nil)) (pss_cons (ps_for PassesOwn.never rfl (pi_range1 (by rfl) T.m_range (pa_cons (pv 2) pa_nil)) (pg_name (i := 5) sc_law_drawn_matrix.nd rfl (Or.inl rfl)) (pss_cons (ps_setLc (i := 6) (own := [("k", 7)]) (g := (gName 7)) (tt := tYes) (te := (tCall (sp_law_one T) [] E0 (tCons (tVar 0) (tCons (tLst (tCons (tC (.int 0)) (tCons (tC (.int 0)) (tCons (tC (.int 1)) (tCons (tOp rSubI (tVar 1) (tC (.int 1))) (tCons (tCall (sp_law_take T) [] E0 (tCons (tVar 0) (tCons (tVar 1) tNil))) (tCons (tCall (sp_law_take T) [] E0 (tCons (tVar 0) (tCons (tVar 1) tNil))) tNil))))))) tNil)))) rfl sc_law_drawn_matrix.nd rfl rfl (sw_true rfl rfl rfl (by decide +kernel)) (pi_range1 (by rfl) T.m_range (pa_cons (pv 3) pa_nil)) (blkOk_by (own := [("k", 7)]) (N := n_law_drawn_matrix) (sc := defScope s_law_drawn_matrix) (by decide +kernel)) (fun _ _ _ _ _ => (pg_name (i := 7) sc_law_drawn_matrix.nd rfl (Or.inl rfl))) (fun _ _ _ _ _ => pts_nil) (fun _ _ _ _ _ => (pe_call (ok_law_one T) (hr.mono (by decide)) (by rfl) T.d_law_one.g T.d_law_one.F.kp T.d_law_one.b .nil pass0 (pa_cons (pv 0) (pa_cons (pe_lst (pa_cons pe_int (pa_cons pe_int (pa_cons pe_int (pa_cons (pe_op op_sub (pv 1) pe_int) (pa_cons (pe_call (ok_law_take T) (hr.mono (by decide)) (by rfl) T.d_law_take.g T.d_law_take.F.kp T.d_law_take.b .nil pass0 (pa_cons (pv 0) (pa_cons (pv 1) pa_nil))) (pa_cons (pe_call (ok_law_take T) (hr.mono (by decide)) (by rfl) T.d_law_take.g T.d_law_take.F.kp T.d_law_take.b .nil pass0 (pa_cons (pv 0) (pa_cons (pv 1) pa_nil))) pa_nil))))))) pa_nil))))) (pss_cons (ps_if (PW.pt (pw_and (pt_cmpR (op_neD hr.units) (pv 4) (pe_lst pa_nil) (nomark _)) (pw_and1 (pt_cmpR op_eq (pe_call (ok_law_take T) (hr.mono (by decide)) (by rfl) T.d_law_take.g T.d_law_take.F.kp T.d_law_take.b .nil pass0 (pa_cons (pv 0) (pa_cons pe_int pa_nil))) pe_int (nomark _))))) (pss_one (ps_set (i := 6) sc_law_drawn_matrix.nd rfl (Or.inl rfl) (pe_call (ok_law_led T) (hr.mono (by decide)) (by rfl) T.d_law_led.g T.d_law_led.F.kp T.d_law_led.b .nil pass0 (pa_cons (pe_call (ok_law_one T) (hr.mono (by decide)) (by rfl) T.d_law_one.g T.d_law_one.F.kp T.d_law_one.b .nil pass0 (pa_cons (pv 0) (pa_cons (pv 4) pa_nil))) (pa_cons (pe_call (ok_law_one T) (hr.mono (by decide)) (by rfl) T.d_law_one.g T.d_law_one.F.kp T.d_law_one.b .nil pass0 (pa_cons (pv 0) (pa_cons (pv 4) pa_nil))) (pa_cons (pe_call (ok_law_take T) (hr.mono (by decide)) (by rfl) T.d_law_take.g T.d_law_take.F.kp T.d_law_take.b .nil pass0 (pa_cons (pv 0) (pa_cons (pv 1) pa_nil))) (pa_cons (pv 1) pa_nil))))))) pss_nil) (pss_one (ps_expr (pe_bm PySem.F.plainAttrs_list PySem.F.slot_list_append PySem.F.type_list_append mt_append (pv 4) (pa_cons (pv 6) pa_nil))))))) (pss_one (ps_ret (pe_callTy call_tuple_of (by rfl) T.m_tuple (by decide +kernel) (pa_cons (pe_lc (own := [("row", 6)]) (g := (gName 6)) (tt := tYes) (te := (tCB (rTupOf K) (tCons (tVar 6) tNil))) rfl sc_law_drawn_matrix.nd (pi_list (pv 4)) (blkOk_by (own := [("row", 6)]) (N := n_law_drawn_matrix) (sc := defScope s_law_drawn_matrix) (by decide +kernel)) (fun _ _ _ _ _ => (pg_name (i := 6) sc_law_drawn_matrix.nd rfl (Or.inl rfl))) (fun _ _ _ _ _ => pts_nil) (fun _ _ _ _ _ => (pe_callTy call_tuple_of (by rfl) T.m_tuple (by decide +kernel) (pa_cons (pv 6) pa_nil)))) pa_nil)))))), pure_law_drawn_matrix T h⟩

end
end My


set_option maxHeartbeats 1000000
namespace My
open PySem PySem.Spec PyProof.Rows L2 Own
open Evl (Ex RetV)
section
variable {P : Program} {w : World} {K : PySem.W.Frag} {mg : Str → Option Value} {base : Heap}

open Evl
/-! ### the checks of matrices -/
def sp_law_matrix_right (T : Txt K mg) : Sp := fun vs H Q _ => ∃ (a : Addr) (p : Int), vs = [.ref a, .int p] ∧ Src H a ∧ Prm p ∧ ∀ H', Up a H H' → Q (.bl true) H'
theorem len_law_matrix_right (T : Txt K mg) {vs H Q E} (h : sp_law_matrix_right T vs H Q E) : vs.length = 2 := by obtain ⟨_, _, rfl, _⟩ := h; rfl
def t_law_matrix_right (T : Txt K mg) : TS := (tSeq (tAsg (tTup (tCons (tCall (sp_law_take T) [] E0 (tCons (tVar 0) (tCons (tC (.int 5)) tNil))) (tCons (tCall (sp_law_take T) [] E0 (tCons (tVar 0) (tCons (tC (.int 5)) tNil))) tNil))) (gTup K 2 (gCons (gName 2) (gCons (gName 3) gNil)))) (tSeq (tAsg (tCall (sp_law_drawn_matrix T) [] E0 (tCons (tVar 0) (tCons (tVar 1) (tCons (tVar 2) (tCons (tVar 3) tNil))))) (gName 4)) (tSeq (tIfS (tTest (tOp rNe (tCB (rShow K) (tCons (tCall (sp_reduced T) [] E0 (tCons (tVar 4) (tCons (tVar 3) (tCons (tVar 1) tNil)))) tNil)) (tCB (rShow K) (tCons (tOp (rIxT K) (tCall (sp_law_own_reduced T) [] E0 (tCons (tVar 4) (tCons (tVar 3) (tCons (tVar 1) tNil)))) (tC (.int 0))) tNil)))) (tRet (tC (.bl false))) tNext) (tSeq (tAsg (tCall (sp_law_own_kernel T) [] E0 (tCons (tVar 4) (tCons (tVar 3) (tCons (tVar 1) tNil)))) (gName 5)) (tSeq (tIfS (tTest (tOp rNe (tCB (rShow K) (tCons (tCall (sp_kernel T) [] E0 (tCons (tVar 4) (tCons (tVar 3) (tCons (tVar 1) tNil)))) tNil)) (tCB (rShow K) (tCons (tVar 5) tNil)))) (tRet (tC (.bl false))) tNext) (tSeq (tIfS (tTest (tOp (rNeD K) (tLc (iTup K (tVar 5)) (gName 10) (tTest (tOp (rNeD K) (tCall (sp_law_times T) [] E0 (tCons (tVar 4) (tCons (tVar 10) (tCons (tVar 1) tNil)))) (tOp (rTimes0 K) (tTup (tCons (tC (.int 0)) tNil)) (tVar 2)))) (tVar 10) [10]) (tLst tNil))) (tRet (tC (.bl false))) tNext) (tSeq (tAsg (tLc (iRng1 (tCons (tVar 3) tNil)) (gName 11) tYes (tCall (sp_law_take T) [] E0 (tCons (tVar 0) (tCons (tVar 1) tNil))) [11]) (gName 6)) (tSeq (tFor (iList K (tLst (tCons (tCall (sp_law_times T) [] E0 (tCons (tVar 4) (tCons (tVar 6) (tCons (tVar 1) tNil)))) (tCons (tCB (rTupOf K) (tCons (tLc (iRng1 (tCons (tVar 2) tNil)) (gName 12) tYes (tCall (sp_law_take T) [] E0 (tCons (tVar 0) (tCons (tVar 1) tNil))) [12]) tNil)) (tCons (tOp (rTimes0 K) (tTup (tCons (tC (.int 0)) tNil)) (tVar 2)) tNil))))) (gName 7) (tSeq (tAsg (tCall (sp_law_own_solved T) [] E0 (tCons (tVar 4) (tCons (tVar 3) (tCons (tVar 7) (tCons (tVar 1) tNil))))) (gName 8)) (tSeq (tAsg (tCall (sp_solved T) [] E0 (tCons (tVar 4) (tCons (tVar 3) (tCons (tVar 7) (tCons (tVar 1) tNil))))) (gName 9)) (tIfS (tTest (tOp rNe (tCB (rShow K) (tCons (tVar 9) tNil)) (tCB (rShow K) (tCons (tIf (tTest (tOp rIsN (tVar 8) (tC .non))) (tC .non) (tTup (tCons (tVar 8) (tCons (tVar 5) tNil)))) tNil)))) (tRet (tC (.bl false))) tNext)))) (tRet (tC (.bl true)))))))))))

theorem timesM_zero {p : Int} {n : Nat} {M : Mx} {v : Ro} (h : ∀ r ∈ M, p ∣ dot n r v) : timesM p n M v = List.replicate M.length 0 := by
  unfold timesM
  rw [List.eq_replicate_iff]
  refine ⟨by simp, fun x hx => ?_⟩
  obtain ⟨r, hr, rfl⟩ := List.mem_map.mp hx
  exact Int.emod_eq_zero_of_dvd (h r hr)
theorem pure_law_matrix_right (T : Txt K mg) {vs H Q} {E : XK} (h : sp_law_matrix_right T vs H Q E) : t_law_matrix_right T { nx := fun _ H' => Q .non H', rt := Q } (L2.start n_law_matrix_right vs) H := by
  obtain ⟨a, p, rfl, s, P, q⟩ := h
  have p5 := P.1
  have p6 := P.2.1
  refine ss_tup2 (D := { nx := _, rt := _, bk := _, ct := _ }) s (es_tup (ea_consS (es_take (lo := 5) (hi := 5) rfl (es_int (by decide) (by decide)) (by decide) (by decide)) (ea_consS (es_take (lo := 5) (hi := 5) rfl (es_int (by decide) (by decide)) (by decide) (by decide)) ea_nilS mono_int) mono_int) (by decide) mono_int) fun x y H1 u1 ⟨hi, ex, h0, h1⟩ ⟨ma, ey, m0, m1⟩ => ?_
  subst ex ey
  obtain ⟨high, rfl⟩ : ∃ n : Nat, hi = (n : Int) := ⟨hi.toNat, by omega⟩
  obtain ⟨n, rfl⟩ : ∃ n : Nat, ma = (n : Int) := ⟨ma.toNat, by omega⟩
  refine ⟨_, rfl, _, rfl, _, rfl, _, rfl, ⟨a, p, high, n, rfl, u1.src, P, by omega, by omega, fun m H2 M u2 mt wf hM => ?_⟩⟩
  have s2 := u2.src
  have hI := P.has
  have hp1 : 1 < p := by omega
  have wr := wf_rr hp1 hI wf
  have lr : (rr p M n).length ≤ 20 := by
    have := len_rr hp1 hI wf
    have := (good_red hp1 hI wf n).dr
    have := len_red (p := p) (M := M) n
    omega
  have wk : WF p n (ker p M n) := wf_ker hp1 hI
  have lk : (ker p M n).length ≤ n := len_ker hp1 hI
  -- reduced
  refine q_when (et_neSame (ev_showN (k := 2) (d := matD (rr p M n)) (en_call (ea_3 (ev_var rfl) (ev_var rfl) (ev_var rfl)) (v_reduced T mt.ms wf (by omega) (by omega) P)) (fun t H' e ht => gd_mat ht wr p6 (by omega) lr) (by decide))
    (ev_showX (k := 2) (d := matD (rr p M n)) (P := fun v H' => ∃ t, v = .ref t ∧ MT K t (rr p M n) H') ?_ (fun v H' e ⟨t, ev, ht⟩ => by rw [ev]; exact gd_mat ht wr p6 (by omega) lr) (by decide))) (fun c => by cases c) (fun _ H3 e3 => ?_)
  · exact fun H1 e Q q => en_call (sp := sp_law_own_reduced T) (ea_3 (ev_var (i := 4) rfl) (ev_var (i := 3) rfl) (ev_var (i := 1) rfl)) (v_law_own_reduced T mt.ms wf (by omega) (by omega) P) H1 e _ fun v H2 _ e2 ⟨a2, b2, hvs, hma, _⟩ => ⟨v, _, 0, .ref a2, rfl, rfl, hvs, rfl, q _ H2 e2 ⟨a2, rfl, hma⟩⟩
  -- own
  refine ⟨_, rfl, _, rfl, _, rfl, ⟨m, M, n, p, rfl, (mt.ex e3).ms, wf, by omega, by omega, P, fun o H4 e4 mo => ?_⟩⟩
  have mt4 := (mt.ex e3).ex e4
  have s4 := (s2.ex e3).ex e4
  refine q_when (et_neSame (ev_showN (k := 2) (d := matD (ker p M n)) (en_call (ea_3 (ev_var rfl) (ev_var rfl) (ev_var rfl)) (v_kernel T mt4.ms wf (by omega) (by omega) P)) (fun t H' e ht => gd_mat ht wk p6 (by omega) (by omega)) (by decide))
    (ev_showV (k := 2) (d := matD (ker p M n)) (ev_var rfl) (gd_mat mo wk p6 (by omega) (by omega)) (by decide))) (fun c => by cases c) (fun _ H5 e5 => ?_)
  -- what the kernel makes
  have mo5 := mo.ex e5
  have mt5 := mt4.ex e5
  have lcK : EvL (tLc (iTup K (tVar 5)) (gName 10) (tTest (tOp (rNeD K) (tCall (sp_law_times T) [] E0 (tCons (tVar 4) (tCons (tVar 10) (tCons (tVar 1) tNil)))) (tOp (rTimes0 K) (tTup (tCons (tC (.int 0)) tNil)) (tVar 2)))) (tVar 10) [10]) [some (.ref a), some (.int p), some (.int (high : Int)), some (.int (n : Int)), some (.ref m), some (.ref o), none, none, none, none, none, none, none] H5 [] := by
    obtain ⟨refs, h1, h2, h3⟩ := id mo5
    have := el_lcTp (K := K) (σ := [some (.ref a), some (.int p), some (.int (high : Int)), some (.int (n : Int)), some (.ref m), some (.ref o), none, none, none, none, none, none, none]) (H := H5) (j := 10) (vs := [10]) (tl := tVar 5) (t := tTest (tOp (rNeD K) (tCall (sp_law_times T) [] E0 (tCons (tVar 4) (tCons (tVar 10) (tCons (tVar 1) tNil)))) (tOp (rTimes0 K) (tTup (tCons (tC (.int 0)) tNil)) (tVar 2)))) (te := tVar 10) (fun _ => false) (fun _ => .non) (ev_var rfl) h1 (by rw [List.length_map]; omega) (fun x => rfl)
      (fun i x H6 e hx => by
        obtain ⟨b, hb, rfl⟩ := ms_at (K := K) (H := H) hx
        have hi : i < (ker p M n).length := by have := (List.getElem?_eq_some_iff.mp hb).1; omega
        have wi := wf_row wk hi
        have z : timesM p n M (row (ker p M n) i) = List.replicate high 0 := by rw [timesM_zero fun r hr => ker_kil hp1 hI wf (row_mem hi) hr, hM]
        refine et_test (ev_neHH (r := List.replicate high 0) (eh_call (ea_3 (ev_var rfl) (ev_var rfl) (ev_var rfl)) ?_) ?_)
        · have := v_law_times T (mt5.ex e) (.inr (ex_t e (h3 i b hb))) wi.1 (by omega) wf (by omega) (by omega) p6
          rw [z] at this
          exact this
        · rw [← rep_ints]
          exact eh_rep0 ev_c (ev_var rfl) (by omega))
      (fun i x H6 e hx hf => by cases hf)
    rw [given_none] at this
    exact this
  refine q_when (b := false) (et_test (ev_neNil (k := 0) (by decide) lcK .nil)) (fun c => by cases c) (fun _ H6 e6 => ?_)
  have mt6 := mt5.ex e6
  have mo6 := mo5.ex e6
  have s6 := (s4.ex e5).ex e6
  -- unknowns
  refine ss_asg s6 (es_lcN (P := PInt 0 (p - 1)) (n := n) rfl (by omega) (fun x => rfl) (fun k H1 u1 hk => es_take (lo := p) (hi := p) rfl (es_vint rfl (by omega) (by omega)) (by omega) (by omega)) monoK_int) fun v H7 u7 ⟨un, xs, ev, _, nua, hux, hxl, hxp⟩ => ?_
  subst ev
  obtain ⟨ur, rfl, hul, hub⟩ := ints_of hxp
  have mt7 := mt6.kp (u7.kp s6)
  have mo7 := mo6.kp (u7.kp s6)
  have s7 := u7.src
  have tb : ∀ v : Ro, ∀ x ∈ timesM p n M v, 0 ≤ x ∧ x < p := fun v x hx => by
    obtain ⟨r, _, rfl⟩ := List.mem_map.mp hx
    exact ⟨Int.emod_nonneg _ (by omega), Int.emod_lt_of_pos _ (by omega)⟩
  -- the right sides
  have U7 : Up a H H7 := ((u1.trans u2).trans (.ex ((e3.trans e4).trans (e5.trans e6)) s2)).trans u7
  refine q_forS s7 (es_lst (n := 3) (P := Rig K p high) (ea_consS (es_ofH (o := .tup ((timesM p n M ur).map V.int)) (fun H1 u => eh_call (ea_3 (ev_var rfl) (ev_var rfl) (ev_var rfl)) (v_law_times T (mt7.kp (u.kp s7)) (.inl (sq_of (u.keep _ _ nua hux))) (n := n) (by rw [← hxl, hul]) (by omega) wf (by omega) (by omega) p6)) (fun c H1 hc => ⟨c, _, rfl, st_of hc, by simp [timesM, hM], tb _⟩))
    (ea_consS (es_tupR (H0 := H7) (es_lcN (P := PInt 0 (p - 1)) (n := high) rfl (by omega) (fun x => rfl) (fun k H1 u1 hk => es_take (lo := p) (hi := p) rfl (es_vint rfl (by omega) (by omega)) (by omega) (by omega)) monoK_int))
      (ea_consS (es_ofH (o := .tup (List.replicate high (V.int 0))) (fun H1 u => eh_rep0 ev_c (ev_var rfl) (by omega)) (fun c H1 hc => ⟨c, List.replicate high 0, rfl, st_of (by rw [← rep_ints]; exact hc), by simp, fun x hx => by rw [(List.mem_replicate.mp hx).2]; omega⟩)) ea_nilS monoK_rig.up) monoK_rig.up) monoK_rig.up) (by decide) monoK_rig.up)
    (fun HL i σ' H' => ∃ z7 z8 z9, σ' = [some (.ref a), some (.int p), some (.int (high : Int)), some (.int (n : Int)), some (.ref m), some (.ref o), some (.ref un), z7, z8, z9, none, none, none] ∧ Ex HL H') (fun HL u => ⟨none, none, none, rfl, .refl HL⟩) (fun HL i σ' H' ⟨_, _, _, _, e⟩ => e) (fun HL i x σ' H' uL hx hi ⟨z7, z8, z9, eσ, e⟩ => ?_) (fun HL σ' H' uL ⟨z7, z8, z9, eσ, e⟩ => ?_)
  · subst eσ
    obtain ⟨c, r, rfl, hc, hrl, hrb⟩ := hx.ex e
    have mtx := (mt7.kp (uL.kp s7)).ex e
    have mox := (mo7.kp (uL.kp s7)).ex e
    refine ⟨_, rfl, _, rfl, _, rfl, _, rfl, ⟨m, c, M, r, n, p, rfl, mtx, hc, by omega, hrb, wf, by omega, by omega, P, fun v8 H8 e8 h8 => ?_⟩⟩
    refine ⟨_, rfl, _, rfl, _, rfl, _, rfl, ⟨m, c, M, r, n, p, rfl, mtx.ex e8, ex_t e8 hc, by omega, hrb, wf, by omega, by omega, P, fun v9 H9 e9 h9 => ?_⟩⟩
    have h8' := h8.ex e9
    have mo9 := mox.ex (e8.trans e9)
    cases hs : sol p M r n with
    | none =>
      rw [hs] at h8' h9
      have e8' : v8 = .non := h8'
      have e9' : v9 = .non := h9
      subst e8' e9'
      refine s_when (et_neSame (ev_showV (k := 0) (d := .none) (ev_var rfl) gd_non (by decide)) (ev_showV (k := 0) (d := .none) (ev_if (b := true) (et_is (et_test (ev_isN (ev_var (v := .non) rfl))) (by simp)) (fun _ => ev_c) (fun c => by cases c)) gd_non (by decide))) (fun c => by cases c) (fun _ H10 e10 => ?_)
      exact ⟨_, _, _, rfl, ((e.trans e8).trans e9).trans e10⟩
    | some t =>
      rw [hs] at h8' h9
      obtain ⟨a8, rfl, ha8⟩ := h8'
      obtain ⟨a9, x9, y9, rfl, ha9, hx9, hy9⟩ := h9
      have bd := sol_bd P hI wf (by omega) hrb hs
      have gt : ∀ {H' : Hp} {c : Addr}, SqT K H' c (t.map V.int) → Gd K H' 2 (.ref c) (intsD t) := fun h => (gd_ints h (by omega) (fun x hx => by have := bd.2 x hx; omega)).up (by decide)
      refine s_when (et_neSame (ev_showV (k := 3) (d := .tuple [intsD t, matD (ker p M n)]) (ev_var rfl) (gd_tup ha9 (.cons (gt hx9) (.cons (gd_mat hy9 wk p6 (by omega) (by omega)) .nil)) (by show 2 ≤ 20; decide)) (by decide))
        (ev_showX (k := 3) (d := .tuple [intsD t, matD (ker p M n)]) (P := fun v H' => Gd K H' 3 v (.tuple [intsD t, matD (ker p M n)])) (fun H1 e1 Q' q' => ?_) (fun v H' e h => h) (by decide))) (fun c => by cases c) (fun _ H10 e10 => ?_)
      · refine et_is (b := false) (et_test (ev_isN (ev_var (i := 8) (v := .ref a8) rfl))) (by simp) H1 e1 _ fun H2 e2 => ?_
        show tTup (tCons (tVar 8) (tCons (tVar 5) tNil)) _ H2 Q'
        refine ⟨_, rfl, _, rfl, by show 2 ≤ sizeLine; decide, fun w nw => q' _ _ (e2.trans (Ex.new nw)) ?_⟩
        have E3 := (e1.trans e2).trans (Ex.new (o := .tup [.ref a8, .ref o]) nw)
        exact gd_tup (st_of upd_same) (.cons (gt (ex_t E3 ha8)) (.cons (gd_mat (mo9.ex E3) wk p6 (by omega) (by omega)) .nil)) (by show 2 ≤ 20; decide)
      · exact ⟨_, _, _, rfl, ((e.trans e8).trans e9).trans e10⟩
  · subst eσ
    exact s_ret ev_c fun H10 e10 => q H10 ((U7.trans uL).trans (.ex (e.trans e10) uL.src))
theorem ok_law_matrix_right (T : Txt K mg) : FnG P w K mg base CX0 6 T.f_law_matrix_right T.fd_law_matrix_right ["source", "p"] (sp_law_matrix_right T) :=
  fnG_ok T.d_law_matrix_right.F sc_law_matrix_right (fun vs H Q E h => len_law_matrix_right T h) fun cdv A outer s H vs Q E hg hr h => ⟨t_law_matrix_right T, by
    exact (pss_cons (ps_asg (pe_tup (pa_cons (pe_call (ok_law_take T) (hr.mono (by decide)) (by rfl) T.d_law_take.g T.d_law_take.F.kp T.d_law_take.b .nil pass0 (pa_cons (pv 0) (pa_cons pe_int pa_nil))) (pa_cons (pe_call (ok_law_take T) (hr.mono (by decide)) (by rfl) T.d_law_take.g T.d_law_take.F.kp T.d_law_take.b .nil pass0 (pa_cons (pv 0) (pa_cons pe_int pa_nil))) pa_nil))) (pg_tup rfl (pgs_cons (pg_name (i := 2) sc_law_matrix_right.nd rfl (Or.inr rfl)) (pgs_cons (pg_name (i := 3) sc_law_matrix_right.nd rfl (Or.inl rfl)) pgs_nil)))) (pss_cons (ps_set (i := 4) sc_law_matrix_right.nd rfl (Or.inr rfl) (pe_call (ok_law_drawn_matrix T) (hr.mono (by decide)) (by rfl) T.d_law_drawn_matrix.g T.d_law_drawn_matrix.F.kp T.d_law_drawn_matrix.b .nil pass0 (pa_cons (pv 0) (pa_cons (pv 1) (pa_cons (pv 2) (pa_cons (pv 3) pa_nil)))))) (pss_cons (ps_if (pt_cmpR op_ne (pe_callB (call_show hg hr.units) (by rfl) T.m_repr (by decide +kernel) (pa_cons (pe_call (ok_reduced T) (hr.mono (by decide)) (by rfl) T.d_reduced.g T.d_reduced.F.kp T.d_reduced.b .nil pass0 (pa_cons (pv 4) (pa_cons (pv 3) (pa_cons (pv 1) pa_nil)))) pa_nil)) (pe_callB (call_show hg hr.units) (by rfl) T.m_repr (by decide +kernel) (pa_cons (pe_ix ix_tup (pe_call (ok_law_own_reduced T) (hr.mono (by decide)) (by rfl) T.d_law_own_reduced.g T.d_law_own_reduced.F.kp T.d_law_own_reduced.b .nil pass0 (pa_cons (pv 4) (pa_cons (pv 3) (pa_cons (pv 1) pa_nil)))) pe_int (fun _ _ => rfl)) pa_nil)) (nomark _)) (pss_one (ps_ret pe_bl)) pss_nil) (pss_cons (ps_set (i := 5) sc_law_matrix_right.nd rfl (Or.inl rfl) (pe_call (ok_law_own_kernel T) (hr.mono (by decide)) (by rfl) T.d_law_own_kernel.g T.d_law_own_kernel.F.kp T.d_law_own_kernel.b .nil pass0 (pa_cons (pv 4) (pa_cons (pv 3) (pa_cons (pv 1) pa_nil))))) (pss_cons (ps_if (pt_cmpR op_ne (pe_callB (call_show hg hr.units) (by rfl) T.m_repr (by decide +kernel) (pa_cons (pe_call (ok_kernel T) (hr.mono (by decide)) (by rfl) T.d_kernel.g T.d_kernel.F.kp T.d_kernel.b .nil pass0 (pa_cons (pv 4) (pa_cons (pv 3) (pa_cons (pv 1) pa_nil)))) pa_nil)) (pe_callB (call_show hg hr.units) (by rfl) T.m_repr (by decide +kernel) (pa_cons (pv 5) pa_nil)) (nomark _)) (pss_one (ps_ret pe_bl)) pss_nil) (pss_cons (ps_if (pt_cmpR (op_neD hr.units) (pe_lc (own := [("row", 10)]) (g := (gName 10)) (tt := (tTest (tOp (rNeD K) (tCall (sp_law_times T) [] E0 (tCons (tVar 4) (tCons (tVar 10) (tCons (tVar 1) tNil)))) (tOp (rTimes0 K) (tTup (tCons (tC (.int 0)) tNil)) (tVar 2))))) (te := (tVar 10)) rfl sc_law_matrix_right.nd (pi_tup (pv 5)) (blkOk_by (own := [("row", 10)]) (N := n_law_matrix_right) (sc := defScope s_law_matrix_right) (by decide +kernel)) (fun _ _ _ _ _ => (pg_name (i := 10) sc_law_matrix_right.nd rfl (Or.inl rfl))) (fun _ _ _ _ _ => pts_one (pt_cmpR (op_neD hr.units) (pe_call (ok_law_times T) (hr.mono (by decide)) (by rfl) T.d_law_times.g T.d_law_times.F.kp T.d_law_times.b .nil pass0 (pa_cons (pv 4) (pa_cons (pv 10) (pa_cons (pv 1) pa_nil)))) (pe_op op_times0 (pe_tup (pa_cons pe_int pa_nil)) (pv 2)) (nomark _))) (fun _ _ _ _ _ => (pv 10))) (pe_lst pa_nil) (nomark _)) (pss_one (ps_ret pe_bl)) pss_nil) (pss_cons (ps_setLc (i := 6) (own := [("k", 11)]) (g := (gName 11)) (tt := tYes) (te := (tCall (sp_law_take T) [] E0 (tCons (tVar 0) (tCons (tVar 1) tNil)))) rfl sc_law_matrix_right.nd rfl rfl (sw_true rfl rfl rfl (by decide +kernel)) (pi_range1 (by rfl) T.m_range (pa_cons (pv 3) pa_nil)) (blkOk_by (own := [("k", 11)]) (N := n_law_matrix_right) (sc := defScope s_law_matrix_right) (by decide +kernel)) (fun _ _ _ _ _ => (pg_name (i := 11) sc_law_matrix_right.nd rfl (Or.inl rfl))) (fun _ _ _ _ _ => pts_nil) (fun _ _ _ _ _ => (pe_call (ok_law_take T) (hr.mono (by decide)) (by rfl) T.d_law_take.g T.d_law_take.F.kp T.d_law_take.b .nil pass0 (pa_cons (pv 0) (pa_cons (pv 1) pa_nil))))) (pss_cons (ps_for PassesOwn.never rfl (pi_list (pe_lst (pa_cons (pe_call (ok_law_times T) (hr.mono (by decide)) (by rfl) T.d_law_times.g T.d_law_times.F.kp T.d_law_times.b .nil pass0 (pa_cons (pv 4) (pa_cons (pv 6) (pa_cons (pv 1) pa_nil)))) (pa_cons (pe_callTy call_tuple_of (by rfl) T.m_tuple (by decide +kernel) (pa_cons (pe_lc (own := [("r", 12)]) (g := (gName 12)) (tt := tYes) (te := (tCall (sp_law_take T) [] E0 (tCons (tVar 0) (tCons (tVar 1) tNil)))) rfl sc_law_matrix_right.nd (pi_range1 (by rfl) T.m_range (pa_cons (pv 2) pa_nil)) (blkOk_by (own := [("r", 12)]) (N := n_law_matrix_right) (sc := defScope s_law_matrix_right) (by decide +kernel)) (fun _ _ _ _ _ => (pg_name (i := 12) sc_law_matrix_right.nd rfl (Or.inl rfl))) (fun _ _ _ _ _ => pts_nil) (fun _ _ _ _ _ => (pe_call (ok_law_take T) (hr.mono (by decide)) (by rfl) T.d_law_take.g T.d_law_take.F.kp T.d_law_take.b .nil pass0 (pa_cons (pv 0) (pa_cons (pv 1) pa_nil))))) pa_nil)) (pa_cons (pe_op op_times0 (pe_tup (pa_cons pe_int pa_nil)) (pv 2)) pa_nil))))) (pg_name (i := 7) sc_law_matrix_right.nd rfl (Or.inl rfl)) (pss_cons (ps_set (i := 8) sc_law_matrix_right.nd rfl (Or.inl rfl) (pe_call (ok_law_own_solved T) (hr.mono (by decide)) (by rfl) T.d_law_own_solved.g T.d_law_own_solved.F.kp T.d_law_own_solved.b .nil pass0 (pa_cons (pv 4) (pa_cons (pv 3) (pa_cons (pv 7) (pa_cons (pv 1) pa_nil)))))) (pss_cons (ps_set (i := 9) sc_law_matrix_right.nd rfl (Or.inl rfl) (pe_call (ok_solved T) (hr.mono (by decide)) (by rfl) T.d_solved.g T.d_solved.F.kp T.d_solved.b .nil pass0 (pa_cons (pv 4) (pa_cons (pv 3) (pa_cons (pv 7) (pa_cons (pv 1) pa_nil)))))) (pss_one (ps_if (pt_cmpR op_ne (pe_callB (call_show hg hr.units) (by rfl) T.m_repr (by decide +kernel) (pa_cons (pv 9) pa_nil)) (pe_callB (call_show hg hr.units) (by rfl) T.m_repr (by decide +kernel) (pa_cons (pe_ifExp (pt_cmpR op_isN (pv 8) pe_non (nomark _)) pe_non (pe_tup (pa_cons (pv 8) (pa_cons (pv 5) pa_nil)))) pa_nil)) (nomark _)) (pss_one (ps_ret pe_bl)) pss_nil))))) (pss_one (ps_ret pe_bl)))))))))), pure_law_matrix_right T h⟩

/-! ### the checks of primes -/
def sp_law_primes_right (T : Txt K mg) : Sp := fun vs H Q _ => ∃ (a : Addr) (p : Int), vs = [.ref a, .int p] ∧ Src H a ∧ Prm p ∧ ∀ H', Up a H H' → Q (.bl true) H'
theorem len_law_primes_right (T : Txt K mg) {vs H Q E} (h : sp_law_primes_right T vs H Q E) : vs.length = 2 := by obtain ⟨_, _, rfl, _⟩ := h; rfl
def t_law_primes_right (T : Txt K mg) : TS := (tSeq (tAsg (tLst (tCons (tC (.int 0)) (tCons (tC (.int 1)) (tCons (tC (.int 2)) (tCons (tC (.int 3)) (tCons (tC (.int 4)) (tCons (tC (.int 5)) (tCons (tC (.int 9)) (tCons (tC (.int 25)) (tCons (tC (.int 1000003)) (tCons (tC (.int 1000001)) (tCons (tC (.int 999983)) (tCons (tC (.int 994009)) (tCons (tVar 1) (tCons (tOp rSubI (tVar 1) (tC (.int 1))) (tCons (tOp rSubI (tVar 1) (tC (.int 2))) tNil)))))))))))))))) (gName 2)) (tSeq (tFor (iRng1 (tCons (tC (.int 4)) tNil)) (gName 3) (tSeq (tPar 4 5 (tCons (tCall (sp_law_take T) [] E0 (tCons (tVar 0) (tCons (tC (.int 1000)) tNil))) (tCons (tCall (sp_law_take T) [] E0 (tCons (tVar 0) (tCons (tC (.int 1000)) tNil))) tNil))) (tAsg (tOp rCat (tVar 2) (tLst (tCons (tOp rMulI (tVar 4) (tVar 4)) (tCons (tOp rMulI (tVar 4) (tVar 5)) (tCons (tCall (sp_law_take T) [] E0 (tCons (tVar 0) (tCons (tC (.int 1000004)) tNil))) tNil))))) (gName 2)))) (tRet (tOp (rEqD K) (tLc (iList K (tVar 2)) (gName 6) (tTest (tOp rNe (tCB (rShow K) (tCons (tCall (sp_is_prime T) [] E0 (tCons (tVar 6) tNil)) tNil)) (tCB (rShow K) (tCons (tCall (sp_law_own_prime T) [] E0 (tCons (tVar 6) tNil)) tNil)))) (tVar 6) [6]) (tLst tNil)))))

theorem pure_law_primes_right (T : Txt K mg) {vs H Q} {E : XK} (h : sp_law_primes_right T vs H Q E) : t_law_primes_right T { nx := fun _ H' => Q .non H', rt := Q } (L2.start n_law_primes_right vs) H := by
  obtain ⟨a, p, rfl, s, P, q⟩ := h
  have p5 := P.1
  have p6 := P.2.1
  have c : ∀ {i : Int} {σ : L2.St}, 0 ≤ i → i ≤ 1000003 → EvS a (tC (.int i)) σ H (PInt 0 1000003) := fun h1 h2 => es_int h1 h2
  have pm : ∀ {i : Int} {σ : L2.St}, σ[1]? = some (some (.int p)) → 0 ≤ i → i ≤ 2 → EvS a (tOp rSubI (tVar 1) (tC (.int i))) σ H (PInt 0 1000003) := fun {i σ} e h1 h2 => es_wide (es_sub (es_vint (lo := p) (hi := p) e (by omega) (by omega)) (es_int (lo := i) (hi := i) (by omega) (by omega))) (by omega) (by omega)
  refine ss_asg s (es_lst (n := 15) (ea_consS (c (by decide) (by decide)) (ea_consS (c (by decide) (by decide)) (ea_consS (c (by decide) (by decide)) (ea_consS (c (by decide) (by decide)) (ea_consS (c (by decide) (by decide)) (ea_consS (c (by decide) (by decide))
    (ea_consS (c (by decide) (by decide)) (ea_consS (c (by decide) (by decide)) (ea_consS (c (by decide) (by decide)) (ea_consS (c (by decide) (by decide)) (ea_consS (c (by decide) (by decide)) (ea_consS (c (by decide) (by decide))
    (ea_consS (es_vint (lo := 0) (hi := 1000003) rfl (by omega) (by omega)) (ea_consS (pm rfl (by decide) (by decide)) (ea_consS (pm rfl (by decide) (by decide)) ea_nilS mono_int) mono_int) mono_int) mono_int) mono_int) mono_int) mono_int) mono_int) mono_int) mono_int) mono_int) mono_int) mono_int) mono_int) mono_int) (by decide) mono_int) fun v H1 u1 p1 => ?_
  refine q_forR1 (ea_1 ev_c) (by decide) (fun i σ' H' => ∃ (v z3 z4 z5 : _), σ' = [some (.ref a), some (.int p), some v, z3, z4, z5, none] ∧ Up a H H' ∧ PLst a (15 + 3 * i) (PInt 0 1000003) v H') (fun H2 e2 => ⟨v, none, none, none, rfl, u1.trans (.ex e2 u1.src), mono_lst mono_int v H1 H2 u1.src (.ex e2 u1.src) p1⟩) ?_ ?_
  · rintro i σ' H2 hi ⟨v, z3, z4, z5, rfl, u2, pv⟩
    refine ss_par (D := { nx := _, rt := _, bk := _, ct := _ }) u2.src (ea_consS (es_take (lo := 1000) (hi := 1000) rfl (es_int (by decide) (by decide)) (by decide) (by decide)) (ea_consS (es_take (lo := 1000) (hi := 1000) rfl (es_int (by decide) (by decide)) (by decide) (by decide)) ea_nilS mono_int) mono_int) fun x y H3 u3 ⟨i1, ex, i10, i11⟩ ⟨i2, ey, i20, i21⟩ => ?_
    subst ex ey
    refine ss_last u3.src (es_catL (n := 15 + 3 * i) (k := 3) (P := PInt 0 1000003) (es_var rfl fun H4 u4 => mono_lst mono_int v H2 H4 u2.src (u3.trans u4) pv) (es_lst (ea_consS (es_wide (es_mulN (h1 := 999) (h2 := 999) (es_vint rfl (by omega) (by omega)) (es_vint rfl (by omega) (by omega)) (by decide) (by decide)) (by decide) (by decide)) (ea_consS (es_wide (es_mulN (h1 := 999) (h2 := 999) (es_vint rfl (by omega) (by omega)) (es_vint rfl (by omega) (by omega)) (by decide) (by decide)) (by decide) (by decide))
      (ea_consS (es_take (lo := 1000004) (hi := 1000004) rfl (es_int (by decide) (by decide)) (by decide) (by decide)) ea_nilS mono_int) mono_int) mono_int) (by decide) mono_int) monoK_int (by omega)) fun w H4 u4 pw => ⟨w, _, _, _, rfl, (u2.trans u3).trans u4, by rw [show 15 + 3 * (i + 1) = 15 + 3 * i + 3 by omega]; exact pw⟩
  · rintro σ' H2 ⟨v, z3, z4, z5, rfl, u2, b, xs, rfl, nb, hb, hl, hp⟩
    have lc := el_lcL (K := K) (σ := [some (.ref a), some (.int p), some (.ref b), z3, z4, z5, none]) (H := H2) (j := 6) (vs := [6]) (tl := tVar 2) (t := tTest (tOp rNe (tCB (rShow K) (tCons (tCall (sp_is_prime T) [] E0 (tCons (tVar 6) tNil)) tNil)) (tCB (rShow K) (tCons (tCall (sp_law_own_prime T) [] E0 (tCons (tVar 6) tNil)) tNil)))) (te := tVar 6) (fun _ => false) (fun _ => .non)
      (ev_var rfl) (sq_of hb) (by have : xs.length = 15 + 3 * 4 := hl; omega) (fun x => rfl) (fun i x H3 e3 hx => by
        obtain ⟨k, rfl, k0, k1⟩ := hp x (List.mem_of_getElem? hx)
        exact et_neSame (ev_showV (k := 0) (ev_call (ea_1 (ev_var rfl)) (v_is_prime T (gd_int (by omega)))) gd_bl (by decide)) (ev_showV (k := 0) (ev_call (ea_1 (ev_var rfl)) (v_law_own_prime T k0 k1)) gd_bl (by decide))) (fun i x H3 e3 hx hf => by cases hf)
    rw [given_none] at lc
    exact s_ret (ev_eqNil (k := 0) (by decide) lc .nil) fun H3 e3 => q H3 (u2.trans (.ex e3 u2.src))
theorem ok_law_primes_right (T : Txt K mg) : FnG P w K mg base CX0 3 T.f_law_primes_right T.fd_law_primes_right ["source", "p"] (sp_law_primes_right T) :=
  fnG_ok T.d_law_primes_right.F sc_law_primes_right (fun vs H Q E h => len_law_primes_right T h) fun cdv A outer s H vs Q E hg hr h => ⟨t_law_primes_right T, by
    exact (pss_cons (ps_set (i := 2) sc_law_primes_right.nd rfl (Or.inl rfl) (pe_lst (pa_cons pe_int (pa_cons pe_int (pa_cons pe_int (pa_cons pe_int (pa_cons pe_int (pa_cons pe_int (pa_cons pe_int (pa_cons pe_int (pa_cons pe_int (pa_cons pe_int (pa_cons pe_int (pa_cons pe_int (pa_cons (pv 1) (pa_cons (pe_op op_sub (pv 1) pe_int) (pa_cons (pe_op op_sub (pv 1) pe_int) pa_nil))))))))))))))))) (pss_cons (ps_for PassesOwn.never rfl (pi_range1 (by rfl) T.m_range (pa_cons pe_int pa_nil)) (pg_name (i := 3) sc_law_primes_right.nd rfl (Or.inl rfl)) (pss_cons (ps_par (i := 4) (j := 5) rfl sc_law_primes_right.nd rfl rfl (by decide) rfl rfl (pa_cons (pe_call (ok_law_take T) (hr.mono (by decide)) (by rfl) T.d_law_take.g T.d_law_take.F.kp T.d_law_take.b .nil pass0 (pa_cons (pv 0) (pa_cons pe_int pa_nil))) (pa_cons (pe_call (ok_law_take T) (hr.mono (by decide)) (by rfl) T.d_law_take.g T.d_law_take.F.kp T.d_law_take.b .nil pass0 (pa_cons (pv 0) (pa_cons pe_int pa_nil))) pa_nil)) (by rfl)) (pss_one (ps_set (i := 2) sc_law_primes_right.nd rfl (Or.inl rfl) (pe_op op_cat (pv 2) (pe_lst (pa_cons (pe_op op_mul (pv 4) (pv 4)) (pa_cons (pe_op op_mul (pv 4) (pv 5)) (pa_cons (pe_call (ok_law_take T) (hr.mono (by decide)) (by rfl) T.d_law_take.g T.d_law_take.F.kp T.d_law_take.b .nil pass0 (pa_cons (pv 0) (pa_cons pe_int pa_nil))) pa_nil))))))))) (pss_one (ps_ret (pe_cmpR (op_eqD hr.units) (pe_lc (own := [("number", 6)]) (g := (gName 6)) (tt := (tTest (tOp rNe (tCB (rShow K) (tCons (tCall (sp_is_prime T) [] E0 (tCons (tVar 6) tNil)) tNil)) (tCB (rShow K) (tCons (tCall (sp_law_own_prime T) [] E0 (tCons (tVar 6) tNil)) tNil))))) (te := (tVar 6)) rfl sc_law_primes_right.nd (pi_list (pv 2)) (blkOk_by (own := [("number", 6)]) (N := n_law_primes_right) (sc := defScope s_law_primes_right) (by decide +kernel)) (fun _ _ _ _ _ => (pg_name (i := 6) sc_law_primes_right.nd rfl (Or.inl rfl))) (fun _ _ _ _ _ => pts_one (pt_cmpR op_ne (pe_callB (call_show hg hr.units) (by rfl) T.m_repr (by decide +kernel) (pa_cons (pe_call (ok_is_prime T) (hr.mono (by decide)) (by rfl) T.d_is_prime.g T.d_is_prime.F.kp T.d_is_prime.b .nil pass0 (pa_cons (pv 6) pa_nil)) pa_nil)) (pe_callB (call_show hg hr.units) (by rfl) T.m_repr (by decide +kernel) (pa_cons (pe_call (ok_law_own_prime T) (hr.mono (by decide)) (by rfl) T.d_law_own_prime.g T.d_law_own_prime.F.kp T.d_law_own_prime.b .nil pass0 (pa_cons (pv 6) pa_nil)) pa_nil)) (nomark _))) (fun _ _ _ _ _ => (pv 6))) (pe_lst pa_nil) (nomark _)))))), pure_law_primes_right T h⟩

/-! ### the law -/
def t_law (T : Txt K mg) : TS := (tSeq (tAsg (tCall (sp_law_pool T) [] E0 (tCons (tVar 0) (tCons (tC (.int 0)) tNil))) (gName 1)) (tSeq (tAsg (tCall (sp_law_drawn_prime T) [] E0 (tCons (tVar 1) tNil)) (gName 2)) (tSeq (tIfS (tNot (tB (tGo (sp_law_primes_right T) (tCons (tVar 1) (tCons (tVar 2) tNil))))) (tRet (tC (.bl false))) tNext) (tSeq (tFor (iRng1 (tCons (tC (.int 4)) tNil)) (gName 3) (tSeq (tAsg (tCall (sp_law_one T) [] E0 (tCons (tVar 1) (tCons (tLst (tCons (tC (.int 1)) (tCons (tOp rSubI (tVar 2) (tC (.int 1))) (tCons (tOp rAddI (tC (.int 1)) (tCall (sp_law_take T) [] E0 (tCons (tVar 1) (tCons (tOp rSubI (tVar 2) (tC (.int 1))) tNil)))) tNil)))) tNil))) (gName 4)) (tSeq (tAsg (tCall (sp_inverse T) [] E0 (tCons (tVar 4) (tCons (tVar 2) tNil))) (gName 5)) (tIfS (tOr (tNot (tB (tCB (rIsi K) (tCons (tVar 5) (tCons (tC (.ty "int")) tNil))))) (tOr (tB (tCB (rIsi K) (tCons (tVar 5) (tCons (tC (.ty "bool")) tNil)))) (tOr (tNot (tTest (tChain rLtI rLtI (tC (.int 0)) (tVar 5) (tVar 2)))) (tTest (tOp rNe (tOp rModI (tCB rInt1 (tCons (tOp rMulI (tVar 4) (tVar 5)) tNil)) (tVar 2)) (tC (.int 1))))))) (tRet (tC (.bl false))) tNext)))) (tSeq (tFor (iRng1 (tCons (tC (.int 4)) tNil)) (gName 3) (tIfS (tNot (tB (tGo (sp_law_matrix_right T) (tCons (tVar 1) (tCons (tVar 2) tNil))))) (tRet (tC (.bl false))) tNext)) (tRet (tC (.bl true))))))))

theorem len_law (T : Txt K mg) {vs H Q E} (h : sp_law K vs H Q E) : vs.length = 1 := by obtain ⟨_, _, rfl, _⟩ := h; rfl
theorem pure_law (T : Txt K mg) {vs H Q} {E : XK} (h : sp_law K vs H Q E) : t_law T { nx := fun _ H' => Q .non H', rt := Q } (L2.start n_law vs) H := by
  obtain ⟨b, ns, rfl, hs, hl63, nolst, q⟩ := h
  refine ⟨_, rfl, b, ns, 0, rfl, hs, hl63, by decide, by decide, fun a H1 n1 e1 s1 => ⟨_, rfl, a, rfl, s1, fun p H2 u2 P => ?_⟩⟩
  have p5 := P.1
  have p6 := P.2.1
  refine ⟨_, rfl, _, rfl, a, p, rfl, u2.src, P, fun H3 u3 => ⟨true, rfl, ?_⟩⟩
  refine q_forR1 (ea_1 ev_c) (by decide) (fun i σ' H' => ∃ z3 z4 z5, σ' = [some (.ref b), some (.ref a), some (.int p), z3, z4, z5] ∧ Src H' a) (fun H4 e4 => ⟨none, none, none, rfl, u3.src.ex e4⟩) ?_ ?_
  · rintro i σ' H4 hi ⟨z3, z4, z5, rfl, s4⟩
    refine ss_asg s4 (es_one rfl (es_lst (ea_consS (es_int (lo := 1) (hi := p - 1) (by omega) (by omega)) (ea_consS (es_wide (es_sub (es_vint (lo := p) (hi := p) rfl (by omega) (by omega)) (es_int (lo := 1) (hi := 1) (by omega) (by omega))) (by omega) (by omega)) (ea_consS (es_wide (es_add (es_int (lo := 1) (hi := 1) (by decide) (by decide)) (es_take (lo := p - 1) (hi := p - 1) rfl (es_wide (es_sub (es_vint (lo := p) (hi := p) rfl (by omega) (by omega)) (es_int (lo := 1) (hi := 1) (by omega) (by omega))) (by omega) (by omega)) (by omega) (by omega))) (by omega) (by omega)) ea_nilS mono_int) mono_int) mono_int) (by decide) mono_int) (by decide) (by decide) mono_int) fun v H5 u5 ⟨x, ev, x0, x1⟩ => ?_
    subst ev
    refine q_asg (ev_call (ea_2 (ev_var rfl) (ev_var rfl)) (v_inverse T P (by omega) (by omega))) fun H6 e6 => ?_
    have I := inv_is (Classical.choose_spec (P.has x (by omega) (by omega)))
    generalize inv p x = y at I
    obtain ⟨y0, y1, hy⟩ := I
    have yp : 0 < y := by
      refine Classical.byContradiction fun c => ?_
      have z : y = 0 := by omega
      subst z
      rw [Int.mul_zero] at hy
      have := Int.le_of_dvd (a := p) (b := 1) (by decide) (by have := Int.dvd_neg.mpr hy; simpa using this)
      omega
    have one : x * y % p = 1 := by
      have : x * y % p = 1 % p := Int.emod_eq_emod_iff_emod_sub_eq_zero.mpr (Int.emod_eq_zero_of_dvd hy)
      rw [this]; exact Int.emod_eq_of_lt (by omega) (by omega)
    have gy : Gd K H6 0 (.int y) (.int y) := gd_int (by omega)
    refine s_when (b := false) (et_is (et_or (et_not (et_B (ev_isI (ev_var rfl) gy))) fun _ => et_or (et_B (ev_isB (ev_var rfl) gy)) fun _ => et_or (et_not (et_test (ev_chainLt ev_c (ev_var rfl) (ev_var rfl)))) fun _ => et_neI (ev_modI (ev_int1 (ev_mulI (ev_var rfl) (ev_var rfl) (.inl ⟨by omega, by omega⟩))) (ev_var rfl) (by omega)) ev_c) (by simp [isI, isB, yp, y1, one])) (fun c => by cases c) (fun _ H7 e7 => ?_)
    exact ⟨_, _, _, rfl, (u5.src.ex e6).ex e7⟩
  · rintro σ' H4 ⟨z3, z4, z5, rfl, s4⟩
    refine q_forR1 (ea_1 ev_c) (by decide) (fun i σ' H' => ∃ z3 z4 z5, σ' = [some (.ref b), some (.ref a), some (.int p), z3, z4, z5] ∧ Src H' a) (fun H5 e5 => ⟨z3, z4, z5, rfl, s4.ex e5⟩) ?_ ?_
    · rintro i σ' H5 hi ⟨z3, z4, z5, rfl, s5⟩
      exact ⟨_, rfl, _, rfl, a, p, rfl, s5, P, fun H6 u6 => ⟨true, rfl, ⟨_, _, _, rfl, u6.src⟩⟩⟩
    · rintro σ' H5 ⟨z3, z4, z5, rfl, s5⟩
      exact s_ret ev_c fun H6 e6 => q H6
theorem ok_law (T : Txt K mg) : FnG P w K mg base CX0 7 T.f_law T.fd_law ["script"] (sp_law K) :=
  fnG_ok T.d_law.F sc_law (fun vs H Q E h => len_law T h) fun cdv A outer s H vs Q E hg hr h => ⟨t_law T, by
    exact (pss_cons (ps_set (i := 1) sc_law.nd rfl (Or.inl rfl) (pe_call (ok_law_pool T) (hr.mono (by decide)) (by rfl) T.d_law_pool.g T.d_law_pool.F.kp T.d_law_pool.b .nil pass0 (pa_cons (pv 0) (pa_cons pe_int pa_nil)))) (pss_cons (ps_set (i := 2) sc_law.nd rfl (Or.inl rfl) (pe_call (ok_law_drawn_prime T) (hr.mono (by decide)) (by rfl) T.d_law_drawn_prime.g T.d_law_drawn_prime.F.kp T.d_law_drawn_prime.b .nil pass0 (pa_cons (pv 1) pa_nil))) (pss_cons (ps_if (pt_not (pt_val (pe_callG (ok_law_primes_right T) hg (hr.mono (by decide)) (by rfl) T.d_law_primes_right.g T.d_law_primes_right.F.kp T.d_law_primes_right.b pass0 (pa_cons (pv 1) (pa_cons (pv 2) pa_nil))))) (pss_one (ps_ret pe_bl)) pss_nil) (pss_cons (ps_for PassesOwn.never rfl (pi_range1 (by rfl) T.m_range (pa_cons pe_int pa_nil)) (pg_name (i := 3) sc_law.nd rfl (Or.inl rfl)) (pss_cons (ps_set (i := 4) sc_law.nd rfl (Or.inl rfl) (pe_call (ok_law_one T) (hr.mono (by decide)) (by rfl) T.d_law_one.g T.d_law_one.F.kp T.d_law_one.b .nil pass0 (pa_cons (pv 1) (pa_cons (pe_lst (pa_cons pe_int (pa_cons (pe_op op_sub (pv 2) pe_int) (pa_cons (pe_op op_add pe_int (pe_call (ok_law_take T) (hr.mono (by decide)) (by rfl) T.d_law_take.g T.d_law_take.F.kp T.d_law_take.b .nil pass0 (pa_cons (pv 1) (pa_cons (pe_op op_sub (pv 2) pe_int) pa_nil)))) pa_nil)))) pa_nil)))) (pss_cons (ps_set (i := 5) sc_law.nd rfl (Or.inl rfl) (pe_call (ok_inverse T) (hr.mono (by decide)) (by rfl) T.d_inverse.g T.d_inverse.F.kp T.d_inverse.b .nil pass0 (pa_cons (pv 4) (pa_cons (pv 2) pa_nil)))) (pss_one (ps_if (PW.pt (pw_or (pt_not (pt_val (pe_callB call_isi (by rfl) T.m_isinstance (by decide +kernel) (pa_cons (pv 5) (pa_cons (pe_bltn (v := .ty "int") (by rfl) T.m_int (by decide +kernel) rfl) pa_nil))))) (pw_or (pt_val (pe_callB call_isi (by rfl) T.m_isinstance (by decide +kernel) (pa_cons (pv 5) (pa_cons (pe_bltn (v := .ty "bool") (by rfl) T.m_bool (by decide +kernel) rfl) pa_nil)))) (pw_or (pt_not (pt_chain op_lt op_lt pe_int (pv 5) (pv 2))) (pw_or1 (pt_cmpR op_ne (pe_op op_mod (pe_callTy call_int1 (by rfl) T.m_int (by decide +kernel) (pa_cons (pe_op op_mul (pv 4) (pv 5)) pa_nil)) (pv 2)) pe_int (nomark _))))))) (pss_one (ps_ret pe_bl)) pss_nil))))) (pss_cons (ps_for PassesOwn.never rfl (pi_range1 (by rfl) T.m_range (pa_cons pe_int pa_nil)) (pg_name (i := 3) sc_law.nd rfl (Or.inl rfl)) (pss_one (ps_if (pt_not (pt_val (pe_callG (ok_law_matrix_right T) hg (hr.mono (by decide)) (by rfl) T.d_law_matrix_right.g T.d_law_matrix_right.F.kp T.d_law_matrix_right.b pass0 (pa_cons (pv 1) (pa_cons (pv 2) pa_nil))))) (pss_one (ps_ret pe_bl)) pss_nil))) (pss_one (ps_ret pe_bl))))))), pure_law T h⟩

end
end My


namespace My
open PySem PySem.Spec PyProof.Rows L2 Own
theorem all_mk {P : Program} {w : World} {K : PySem.W.Frag} {h : Heap} {mg : Str → Option Value} {fa : Addr} (X : K.In h) (G : h.Ns mainGlobals mg) (hfa : mg "law" = some (.ref fa))
    {f0 : Addr} {od0 an0 : Option Addr} {sl0 : Array (Option Value)} {oc0 kV0 dc0 pm0 cd0 ct0 : Value}
    (a0 : PySem.W.nsIn K mainGlobals "number_within" = some (some (.ref f0))) (l0 : K.lookup f0 = some ⟨oc0, od0, .func (PySem.W.fnOf "number_within" "number_within" (defArgs s_number_within) (defBody s_number_within) (defScope s_number_within) .none kV0 dc0 pm0 an0 cd0 ct0), sl0⟩) (c0 : PySem.W.codeIn K cd0 "number_within" = true) (k0 : PySem.W.keepIn K (.ref f0) = true)
    {f1 : Addr} {od1 an1 : Option Addr} {sl1 : Array (Option Value)} {oc1 kV1 dc1 pm1 cd1 ct1 : Value}
    (a1 : PySem.W.nsIn K mainGlobals "is_prime" = some (some (.ref f1))) (l1 : K.lookup f1 = some ⟨oc1, od1, .func (PySem.W.fnOf "is_prime" "is_prime" (defArgs s_is_prime) (defBody s_is_prime) (defScope s_is_prime) .none kV1 dc1 pm1 an1 cd1 ct1), sl1⟩) (c1 : PySem.W.codeIn K cd1 "is_prime" = true) (k1 : PySem.W.keepIn K (.ref f1) = true)
    {f2 : Addr} {od2 an2 : Option Addr} {sl2 : Array (Option Value)} {oc2 kV2 dc2 pm2 cd2 ct2 : Value}
    (a2 : PySem.W.nsIn K mainGlobals "inverse" = some (some (.ref f2))) (l2 : K.lookup f2 = some ⟨oc2, od2, .func (PySem.W.fnOf "inverse" "inverse" (defArgs s_inverse) (defBody s_inverse) (defScope s_inverse) .none kV2 dc2 pm2 an2 cd2 ct2), sl2⟩) (c2 : PySem.W.codeIn K cd2 "inverse" = true) (k2 : PySem.W.keepIn K (.ref f2) = true)
    {f3 : Addr} {od3 an3 : Option Addr} {sl3 : Array (Option Value)} {oc3 kV3 dc3 pm3 cd3 ct3 : Value}
    (a3 : PySem.W.nsIn K mainGlobals "reduced" = some (some (.ref f3))) (l3 : K.lookup f3 = some ⟨oc3, od3, .func (PySem.W.fnOf "reduced" "reduced" (defArgs s_reduced) (defBody s_reduced) (defScope s_reduced) .none kV3 dc3 pm3 an3 cd3 ct3), sl3⟩) (c3 : PySem.W.codeIn K cd3 "reduced" = true) (k3 : PySem.W.keepIn K (.ref f3) = true)
    {f4 : Addr} {od4 an4 : Option Addr} {sl4 : Array (Option Value)} {oc4 kV4 dc4 pm4 cd4 ct4 : Value}
    (a4 : PySem.W.nsIn K mainGlobals "first_with" = some (some (.ref f4))) (l4 : K.lookup f4 = some ⟨oc4, od4, .func (PySem.W.fnOf "first_with" "first_with" (defArgs s_first_with) (defBody s_first_with) (defScope s_first_with) .none kV4 dc4 pm4 an4 cd4 ct4), sl4⟩) (c4 : PySem.W.codeIn K cd4 "first_with" = true) (k4 : PySem.W.keepIn K (.ref f4) = true)
    {f5 : Addr} {od5 an5 : Option Addr} {sl5 : Array (Option Value)} {oc5 kV5 dc5 pm5 cd5 ct5 : Value}
    (a5 : PySem.W.nsIn K mainGlobals "clear_column" = some (some (.ref f5))) (l5 : K.lookup f5 = some ⟨oc5, od5, .func (PySem.W.fnOf "clear_column" "clear_column" (defArgs s_clear_column) (defBody s_clear_column) (defScope s_clear_column) .none kV5 dc5 pm5 an5 cd5 ct5), sl5⟩) (c5 : PySem.W.codeIn K cd5 "clear_column" = true) (k5 : PySem.W.keepIn K (.ref f5) = true)
    {f6 : Addr} {od6 an6 : Option Addr} {sl6 : Array (Option Value)} {oc6 kV6 dc6 pm6 cd6 ct6 : Value}
    (a6 : PySem.W.nsIn K mainGlobals "pivots_of" = some (some (.ref f6))) (l6 : K.lookup f6 = some ⟨oc6, od6, .func (PySem.W.fnOf "pivots_of" "pivots_of" (defArgs s_pivots_of) (defBody s_pivots_of) (defScope s_pivots_of) .none kV6 dc6 pm6 an6 cd6 ct6), sl6⟩) (c6 : PySem.W.codeIn K cd6 "pivots_of" = true) (k6 : PySem.W.keepIn K (.ref f6) = true)
    {f7 : Addr} {od7 an7 : Option Addr} {sl7 : Array (Option Value)} {oc7 kV7 dc7 pm7 cd7 ct7 : Value}
    (a7 : PySem.W.nsIn K mainGlobals "first_place" = some (some (.ref f7))) (l7 : K.lookup f7 = some ⟨oc7, od7, .func (PySem.W.fnOf "first_place" "first_place" (defArgs s_first_place) (defBody s_first_place) (defScope s_first_place) .none kV7 dc7 pm7 an7 cd7 ct7), sl7⟩) (c7 : PySem.W.codeIn K cd7 "first_place" = true) (k7 : PySem.W.keepIn K (.ref f7) = true)
    {f8 : Addr} {od8 an8 : Option Addr} {sl8 : Array (Option Value)} {oc8 kV8 dc8 pm8 cd8 ct8 : Value}
    (a8 : PySem.W.nsIn K mainGlobals "kernel" = some (some (.ref f8))) (l8 : K.lookup f8 = some ⟨oc8, od8, .func (PySem.W.fnOf "kernel" "kernel" (defArgs s_kernel) (defBody s_kernel) (defScope s_kernel) .none kV8 dc8 pm8 an8 cd8 ct8), sl8⟩) (c8 : PySem.W.codeIn K cd8 "kernel" = true) (k8 : PySem.W.keepIn K (.ref f8) = true)
    {f9 : Addr} {od9 an9 : Option Addr} {sl9 : Array (Option Value)} {oc9 kV9 dc9 pm9 cd9 ct9 : Value}
    (a9 : PySem.W.nsIn K mainGlobals "solved" = some (some (.ref f9))) (l9 : K.lookup f9 = some ⟨oc9, od9, .func (PySem.W.fnOf "solved" "solved" (defArgs s_solved) (defBody s_solved) (defScope s_solved) .none kV9 dc9 pm9 an9 cd9 ct9), sl9⟩) (c9 : PySem.W.codeIn K cd9 "solved" = true) (k9 : PySem.W.keepIn K (.ref f9) = true)
    {f10 : Addr} {od10 an10 : Option Addr} {sl10 : Array (Option Value)} {oc10 kV10 dc10 pm10 cd10 ct10 : Value}
    (a10 : PySem.W.nsIn K mainGlobals "_law_pool" = some (some (.ref f10))) (l10 : K.lookup f10 = some ⟨oc10, od10, .func (PySem.W.fnOf "_law_pool" "_law_pool" (defArgs s_law_pool) (defBody s_law_pool) (defScope s_law_pool) .none kV10 dc10 pm10 an10 cd10 ct10), sl10⟩) (c10 : PySem.W.codeIn K cd10 "_law_pool" = true) (k10 : PySem.W.keepIn K (.ref f10) = true)
    {f11 : Addr} {od11 an11 : Option Addr} {sl11 : Array (Option Value)} {oc11 kV11 dc11 pm11 cd11 ct11 : Value}
    (a11 : PySem.W.nsIn K mainGlobals "_law_take" = some (some (.ref f11))) (l11 : K.lookup f11 = some ⟨oc11, od11, .func (PySem.W.fnOf "_law_take" "_law_take" (defArgs s_law_take) (defBody s_law_take) (defScope s_law_take) .none kV11 dc11 pm11 an11 cd11 ct11), sl11⟩) (c11 : PySem.W.codeIn K cd11 "_law_take" = true) (k11 : PySem.W.keepIn K (.ref f11) = true)
    {f12 : Addr} {od12 an12 : Option Addr} {sl12 : Array (Option Value)} {oc12 kV12 dc12 pm12 cd12 ct12 : Value}
    (a12 : PySem.W.nsIn K mainGlobals "_law_one" = some (some (.ref f12))) (l12 : K.lookup f12 = some ⟨oc12, od12, .func (PySem.W.fnOf "_law_one" "_law_one" (defArgs s_law_one) (defBody s_law_one) (defScope s_law_one) .none kV12 dc12 pm12 an12 cd12 ct12), sl12⟩) (c12 : PySem.W.codeIn K cd12 "_law_one" = true) (k12 : PySem.W.keepIn K (.ref f12) = true)
    {f13 : Addr} {od13 an13 : Option Addr} {sl13 : Array (Option Value)} {oc13 kV13 dc13 pm13 cd13 ct13 : Value}
    (a13 : PySem.W.nsIn K mainGlobals "_law_own_prime" = some (some (.ref f13))) (l13 : K.lookup f13 = some ⟨oc13, od13, .func (PySem.W.fnOf "_law_own_prime" "_law_own_prime" (defArgs s_law_own_prime) (defBody s_law_own_prime) (defScope s_law_own_prime) .none kV13 dc13 pm13 an13 cd13 ct13), sl13⟩) (c13 : PySem.W.codeIn K cd13 "_law_own_prime" = true) (k13 : PySem.W.keepIn K (.ref f13) = true)
    {f14 : Addr} {od14 an14 : Option Addr} {sl14 : Array (Option Value)} {oc14 kV14 dc14 pm14 cd14 ct14 : Value}
    (a14 : PySem.W.nsIn K mainGlobals "_law_own_inverse" = some (some (.ref f14))) (l14 : K.lookup f14 = some ⟨oc14, od14, .func (PySem.W.fnOf "_law_own_inverse" "_law_own_inverse" (defArgs s_law_own_inverse) (defBody s_law_own_inverse) (defScope s_law_own_inverse) .none kV14 dc14 pm14 an14 cd14 ct14), sl14⟩) (c14 : PySem.W.codeIn K cd14 "_law_own_inverse" = true) (k14 : PySem.W.keepIn K (.ref f14) = true)
    {f15 : Addr} {od15 an15 : Option Addr} {sl15 : Array (Option Value)} {oc15 kV15 dc15 pm15 cd15 ct15 : Value}
    (a15 : PySem.W.nsIn K mainGlobals "_law_drawn_prime" = some (some (.ref f15))) (l15 : K.lookup f15 = some ⟨oc15, od15, .func (PySem.W.fnOf "_law_drawn_prime" "_law_drawn_prime" (defArgs s_law_drawn_prime) (defBody s_law_drawn_prime) (defScope s_law_drawn_prime) .none kV15 dc15 pm15 an15 cd15 ct15), sl15⟩) (c15 : PySem.W.codeIn K cd15 "_law_drawn_prime" = true) (k15 : PySem.W.keepIn K (.ref f15) = true)
    {f16 : Addr} {od16 an16 : Option Addr} {sl16 : Array (Option Value)} {oc16 kV16 dc16 pm16 cd16 ct16 : Value}
    (a16 : PySem.W.nsIn K mainGlobals "_law_led" = some (some (.ref f16))) (l16 : K.lookup f16 = some ⟨oc16, od16, .func (PySem.W.fnOf "_law_led" "_law_led" (defArgs s_law_led) (defBody s_law_led) (defScope s_law_led) .none kV16 dc16 pm16 an16 cd16 ct16), sl16⟩) (c16 : PySem.W.codeIn K cd16 "_law_led" = true) (k16 : PySem.W.keepIn K (.ref f16) = true)
    {f17 : Addr} {od17 an17 : Option Addr} {sl17 : Array (Option Value)} {oc17 kV17 dc17 pm17 cd17 ct17 : Value}
    (a17 : PySem.W.nsIn K mainGlobals "_law_own_reduced" = some (some (.ref f17))) (l17 : K.lookup f17 = some ⟨oc17, od17, .func (PySem.W.fnOf "_law_own_reduced" "_law_own_reduced" (defArgs s_law_own_reduced) (defBody s_law_own_reduced) (defScope s_law_own_reduced) .none kV17 dc17 pm17 an17 cd17 ct17), sl17⟩) (c17 : PySem.W.codeIn K cd17 "_law_own_reduced" = true) (k17 : PySem.W.keepIn K (.ref f17) = true)
    {f18 : Addr} {od18 an18 : Option Addr} {sl18 : Array (Option Value)} {oc18 kV18 dc18 pm18 cd18 ct18 : Value}
    (a18 : PySem.W.nsIn K mainGlobals "_law_times" = some (some (.ref f18))) (l18 : K.lookup f18 = some ⟨oc18, od18, .func (PySem.W.fnOf "_law_times" "_law_times" (defArgs s_law_times) (defBody s_law_times) (defScope s_law_times) .none kV18 dc18 pm18 an18 cd18 ct18), sl18⟩) (c18 : PySem.W.codeIn K cd18 "_law_times" = true) (k18 : PySem.W.keepIn K (.ref f18) = true)
    {f19 : Addr} {od19 an19 : Option Addr} {sl19 : Array (Option Value)} {oc19 kV19 dc19 pm19 cd19 ct19 : Value}
    (a19 : PySem.W.nsIn K mainGlobals "_law_own_kernel" = some (some (.ref f19))) (l19 : K.lookup f19 = some ⟨oc19, od19, .func (PySem.W.fnOf "_law_own_kernel" "_law_own_kernel" (defArgs s_law_own_kernel) (defBody s_law_own_kernel) (defScope s_law_own_kernel) .none kV19 dc19 pm19 an19 cd19 ct19), sl19⟩) (c19 : PySem.W.codeIn K cd19 "_law_own_kernel" = true) (k19 : PySem.W.keepIn K (.ref f19) = true)
    {f20 : Addr} {od20 an20 : Option Addr} {sl20 : Array (Option Value)} {oc20 kV20 dc20 pm20 cd20 ct20 : Value}
    (a20 : PySem.W.nsIn K mainGlobals "_law_own_solved" = some (some (.ref f20))) (l20 : K.lookup f20 = some ⟨oc20, od20, .func (PySem.W.fnOf "_law_own_solved" "_law_own_solved" (defArgs s_law_own_solved) (defBody s_law_own_solved) (defScope s_law_own_solved) .none kV20 dc20 pm20 an20 cd20 ct20), sl20⟩) (c20 : PySem.W.codeIn K cd20 "_law_own_solved" = true) (k20 : PySem.W.keepIn K (.ref f20) = true)
    {f21 : Addr} {od21 an21 : Option Addr} {sl21 : Array (Option Value)} {oc21 kV21 dc21 pm21 cd21 ct21 : Value}
    (a21 : PySem.W.nsIn K mainGlobals "_law_drawn_matrix" = some (some (.ref f21))) (l21 : K.lookup f21 = some ⟨oc21, od21, .func (PySem.W.fnOf "_law_drawn_matrix" "_law_drawn_matrix" (defArgs s_law_drawn_matrix) (defBody s_law_drawn_matrix) (defScope s_law_drawn_matrix) .none kV21 dc21 pm21 an21 cd21 ct21), sl21⟩) (c21 : PySem.W.codeIn K cd21 "_law_drawn_matrix" = true) (k21 : PySem.W.keepIn K (.ref f21) = true)
    {f22 : Addr} {od22 an22 : Option Addr} {sl22 : Array (Option Value)} {oc22 kV22 dc22 pm22 cd22 ct22 : Value}
    (a22 : PySem.W.nsIn K mainGlobals "_law_matrix_right" = some (some (.ref f22))) (l22 : K.lookup f22 = some ⟨oc22, od22, .func (PySem.W.fnOf "_law_matrix_right" "_law_matrix_right" (defArgs s_law_matrix_right) (defBody s_law_matrix_right) (defScope s_law_matrix_right) .none kV22 dc22 pm22 an22 cd22 ct22), sl22⟩) (c22 : PySem.W.codeIn K cd22 "_law_matrix_right" = true) (k22 : PySem.W.keepIn K (.ref f22) = true)
    {f23 : Addr} {od23 an23 : Option Addr} {sl23 : Array (Option Value)} {oc23 kV23 dc23 pm23 cd23 ct23 : Value}
    (a23 : PySem.W.nsIn K mainGlobals "_law_primes_right" = some (some (.ref f23))) (l23 : K.lookup f23 = some ⟨oc23, od23, .func (PySem.W.fnOf "_law_primes_right" "_law_primes_right" (defArgs s_law_primes_right) (defBody s_law_primes_right) (defScope s_law_primes_right) .none kV23 dc23 pm23 an23 cd23 ct23), sl23⟩) (c23 : PySem.W.codeIn K cd23 "_law_primes_right" = true) (k23 : PySem.W.keepIn K (.ref f23) = true)
    {f24 : Addr} {od24 an24 : Option Addr} {sl24 : Array (Option Value)} {oc24 kV24 dc24 pm24 cd24 ct24 : Value}
    (a24 : PySem.W.nsIn K mainGlobals "law" = some (some (.ref f24))) (l24 : K.lookup f24 = some ⟨oc24, od24, .func (PySem.W.fnOf "law" "law" (defArgs s_law) (defBody s_law) (defScope s_law) .none kV24 dc24 pm24 an24 cd24 ct24), sl24⟩) (c24 : PySem.W.codeIn K cd24 "law" = true) (k24 : PySem.W.keepIn K (.ref f24) = true)
    (z_bool : PySem.W.nsIn K mainGlobals "bool" = some none)
    (z_enumerate : PySem.W.nsIn K mainGlobals "enumerate" = some none)
    (z_int : PySem.W.nsIn K mainGlobals "int" = some none)
    (z_isinstance : PySem.W.nsIn K mainGlobals "isinstance" = some none)
    (z_len : PySem.W.nsIn K mainGlobals "len" = some none)
    (z_list : PySem.W.nsIn K mainGlobals "list" = some none)
    (z_max : PySem.W.nsIn K mainGlobals "max" = some none)
    (z_range : PySem.W.nsIn K mainGlobals "range" = some none)
    (z_repr : PySem.W.nsIn K mainGlobals "repr" = some none)
    (z_sum : PySem.W.nsIn K mainGlobals "sum" = some none)
    (z_tuple : PySem.W.nsIn K mainGlobals "tuple" = some none)
    (z_zip : PySem.W.nsIn K mainGlobals "zip" = some none)
    {tk_GREATEST_PRIME : Tok} (v_GREATEST_PRIME : PySem.W.nsIn K mainGlobals "GREATEST_PRIME" = some (some (.int 1000003 tk_GREATEST_PRIME))) :
    ∃ fd : FuncData, (∀ (s : Shared) (v : Value), BindsTo s fd ⟨[v], []⟩ [("script", v)]) ∧ ∀ base : Heap, K.In base → base.Ns mainGlobals mg → FnG P w K mg base CX0 7 fa fd ["script"] (sp_law K) := by
  have e : f24 = fa := Value.ref.inj (Option.some.inj ((PySem.W.mg_of X G a24).symm.trans hfa))
  subst e
  let T : Txt K mg := {
    f_number_within := f0, fd_number_within := _, d_number_within := ⟨fun_mk (st := s_number_within) l0 c0 k0, PySem.W.mg_of X G a0, (fun_mk (st := s_number_within) l0 c0 k0).binds (ps := ["thing", "low", "high"]) fun _ _ _ _ _ _ us hl => match us, hl with | [_, _, _], _ => rfl⟩,
    f_is_prime := f1, fd_is_prime := _, d_is_prime := ⟨fun_mk (st := s_is_prime) l1 c1 k1, PySem.W.mg_of X G a1, (fun_mk (st := s_is_prime) l1 c1 k1).binds (ps := ["p"]) fun _ _ _ _ _ _ us hl => match us, hl with | [_], _ => rfl⟩,
    f_inverse := f2, fd_inverse := _, d_inverse := ⟨fun_mk (st := s_inverse) l2 c2 k2, PySem.W.mg_of X G a2, (fun_mk (st := s_inverse) l2 c2 k2).binds (ps := ["a", "p"]) fun _ _ _ _ _ _ us hl => match us, hl with | [_, _], _ => rfl⟩,
    f_reduced := f3, fd_reduced := _, d_reduced := ⟨fun_mk (st := s_reduced) l3 c3 k3, PySem.W.mg_of X G a3, (fun_mk (st := s_reduced) l3 c3 k3).binds (ps := ["matrix", "many", "p"]) fun _ _ _ _ _ _ us hl => match us, hl with | [_, _, _], _ => rfl⟩,
    f_first_with := f4, fd_first_with := _, d_first_with := ⟨fun_mk (st := s_first_with) l4 c4 k4, PySem.W.mg_of X G a4, (fun_mk (st := s_first_with) l4 c4 k4).binds (ps := ["rows", "start", "column"]) fun _ _ _ _ _ _ us hl => match us, hl with | [_, _, _], _ => rfl⟩,
    f_clear_column := f5, fd_clear_column := _, d_clear_column := ⟨fun_mk (st := s_clear_column) l5 c5 k5, PySem.W.mg_of X G a5, (fun_mk (st := s_clear_column) l5 c5 k5).binds (ps := ["rows", "pivot", "column", "p"]) fun _ _ _ _ _ _ us hl => match us, hl with | [_, _, _, _], _ => rfl⟩,
    f_pivots_of := f6, fd_pivots_of := _, d_pivots_of := ⟨fun_mk (st := s_pivots_of) l6 c6 k6, PySem.W.mg_of X G a6, (fun_mk (st := s_pivots_of) l6 c6 k6).binds (ps := ["rows"]) fun _ _ _ _ _ _ us hl => match us, hl with | [_], _ => rfl⟩,
    f_first_place := f7, fd_first_place := _, d_first_place := ⟨fun_mk (st := s_first_place) l7 c7 k7, PySem.W.mg_of X G a7, (fun_mk (st := s_first_place) l7 c7 k7).binds (ps := ["numbers"]) fun _ _ _ _ _ _ us hl => match us, hl with | [_], _ => rfl⟩,
    f_kernel := f8, fd_kernel := _, d_kernel := ⟨fun_mk (st := s_kernel) l8 c8 k8, PySem.W.mg_of X G a8, (fun_mk (st := s_kernel) l8 c8 k8).binds (ps := ["matrix", "many", "p"]) fun _ _ _ _ _ _ us hl => match us, hl with | [_, _, _], _ => rfl⟩,
    f_solved := f9, fd_solved := _, d_solved := ⟨fun_mk (st := s_solved) l9 c9 k9, PySem.W.mg_of X G a9, (fun_mk (st := s_solved) l9 c9 k9).binds (ps := ["matrix", "many", "right", "p"]) fun _ _ _ _ _ _ us hl => match us, hl with | [_, _, _, _], _ => rfl⟩,
    f_law_pool := f10, fd_law_pool := _, d_law_pool := ⟨fun_mk (st := s_law_pool) l10 c10 k10, PySem.W.mg_of X G a10, (fun_mk (st := s_law_pool) l10 c10 k10).binds (ps := ["script", "k"]) fun _ _ _ _ _ _ us hl => match us, hl with | [_, _], _ => rfl⟩,
    f_law_take := f11, fd_law_take := _, d_law_take := ⟨fun_mk (st := s_law_take) l11 c11 k11, PySem.W.mg_of X G a11, (fun_mk (st := s_law_take) l11 c11 k11).binds (ps := ["source", "top"]) fun _ _ _ _ _ _ us hl => match us, hl with | [_, _], _ => rfl⟩,
    f_law_one := f12, fd_law_one := _, d_law_one := ⟨fun_mk (st := s_law_one) l12 c12 k12, PySem.W.mg_of X G a12, (fun_mk (st := s_law_one) l12 c12 k12).binds (ps := ["source", "things"]) fun _ _ _ _ _ _ us hl => match us, hl with | [_, _], _ => rfl⟩,
    f_law_own_prime := f13, fd_law_own_prime := _, d_law_own_prime := ⟨fun_mk (st := s_law_own_prime) l13 c13 k13, PySem.W.mg_of X G a13, (fun_mk (st := s_law_own_prime) l13 c13 k13).binds (ps := ["number"]) fun _ _ _ _ _ _ us hl => match us, hl with | [_], _ => rfl⟩,
    f_law_own_inverse := f14, fd_law_own_inverse := _, d_law_own_inverse := ⟨fun_mk (st := s_law_own_inverse) l14 c14 k14, PySem.W.mg_of X G a14, (fun_mk (st := s_law_own_inverse) l14 c14 k14).binds (ps := ["a", "p"]) fun _ _ _ _ _ _ us hl => match us, hl with | [_, _], _ => rfl⟩,
    f_law_drawn_prime := f15, fd_law_drawn_prime := _, d_law_drawn_prime := ⟨fun_mk (st := s_law_drawn_prime) l15 c15 k15, PySem.W.mg_of X G a15, (fun_mk (st := s_law_drawn_prime) l15 c15 k15).binds (ps := ["source"]) fun _ _ _ _ _ _ us hl => match us, hl with | [_], _ => rfl⟩,
    f_law_led := f16, fd_law_led := _, d_law_led := ⟨fun_mk (st := s_law_led) l16 c16 k16, PySem.W.mg_of X G a16, (fun_mk (st := s_law_led) l16 c16 k16).binds (ps := ["row", "other", "factor", "p"]) fun _ _ _ _ _ _ us hl => match us, hl with | [_, _, _, _], _ => rfl⟩,
    f_law_own_reduced := f17, fd_law_own_reduced := _, d_law_own_reduced := ⟨fun_mk (st := s_law_own_reduced) l17 c17 k17, PySem.W.mg_of X G a17, (fun_mk (st := s_law_own_reduced) l17 c17 k17).binds (ps := ["matrix", "many", "p"]) fun _ _ _ _ _ _ us hl => match us, hl with | [_, _, _], _ => rfl⟩,
    f_law_times := f18, fd_law_times := _, d_law_times := ⟨fun_mk (st := s_law_times) l18 c18 k18, PySem.W.mg_of X G a18, (fun_mk (st := s_law_times) l18 c18 k18).binds (ps := ["matrix", "row", "p"]) fun _ _ _ _ _ _ us hl => match us, hl with | [_, _, _], _ => rfl⟩,
    f_law_own_kernel := f19, fd_law_own_kernel := _, d_law_own_kernel := ⟨fun_mk (st := s_law_own_kernel) l19 c19 k19, PySem.W.mg_of X G a19, (fun_mk (st := s_law_own_kernel) l19 c19 k19).binds (ps := ["matrix", "many", "p"]) fun _ _ _ _ _ _ us hl => match us, hl with | [_, _, _], _ => rfl⟩,
    f_law_own_solved := f20, fd_law_own_solved := _, d_law_own_solved := ⟨fun_mk (st := s_law_own_solved) l20 c20 k20, PySem.W.mg_of X G a20, (fun_mk (st := s_law_own_solved) l20 c20 k20).binds (ps := ["matrix", "many", "right", "p"]) fun _ _ _ _ _ _ us hl => match us, hl with | [_, _, _, _], _ => rfl⟩,
    f_law_drawn_matrix := f21, fd_law_drawn_matrix := _, d_law_drawn_matrix := ⟨fun_mk (st := s_law_drawn_matrix) l21 c21 k21, PySem.W.mg_of X G a21, (fun_mk (st := s_law_drawn_matrix) l21 c21 k21).binds (ps := ["source", "p", "high", "many"]) fun _ _ _ _ _ _ us hl => match us, hl with | [_, _, _, _], _ => rfl⟩,
    f_law_matrix_right := f22, fd_law_matrix_right := _, d_law_matrix_right := ⟨fun_mk (st := s_law_matrix_right) l22 c22 k22, PySem.W.mg_of X G a22, (fun_mk (st := s_law_matrix_right) l22 c22 k22).binds (ps := ["source", "p"]) fun _ _ _ _ _ _ us hl => match us, hl with | [_, _], _ => rfl⟩,
    f_law_primes_right := f23, fd_law_primes_right := _, d_law_primes_right := ⟨fun_mk (st := s_law_primes_right) l23 c23 k23, PySem.W.mg_of X G a23, (fun_mk (st := s_law_primes_right) l23 c23 k23).binds (ps := ["source", "p"]) fun _ _ _ _ _ _ us hl => match us, hl with | [_, _], _ => rfl⟩,
    f_law := f24, fd_law := _, d_law := ⟨fun_mk (st := s_law) l24 c24 k24, PySem.W.mg_of X G a24, (fun_mk (st := s_law) l24 c24 k24).binds (ps := ["script"]) fun _ _ _ _ _ _ us hl => match us, hl with | [_], _ => rfl⟩,
    m_bool := PySem.W.mg_none_of X G z_bool,
    m_enumerate := PySem.W.mg_none_of X G z_enumerate,
    m_int := PySem.W.mg_none_of X G z_int,
    m_isinstance := PySem.W.mg_none_of X G z_isinstance,
    m_len := PySem.W.mg_none_of X G z_len,
    m_list := PySem.W.mg_none_of X G z_list,
    m_max := PySem.W.mg_none_of X G z_max,
    m_range := PySem.W.mg_none_of X G z_range,
    m_repr := PySem.W.mg_none_of X G z_repr,
    m_sum := PySem.W.mg_none_of X G z_sum,
    m_tuple := PySem.W.mg_none_of X G z_tuple,
    m_zip := PySem.W.mg_none_of X G z_zip,
    tk_GREATEST_PRIME := tk_GREATEST_PRIME, v_GREATEST_PRIME := PySem.W.mg_of X G v_GREATEST_PRIME }
  exact ⟨T.fd_law, fun s v => .of_eq rfl, fun base _ _ => ok_law T⟩
end My
open PySem PySem.W PyProof.Rows
set_option maxHeartbeats 0 in
theorem PySem.Challenge.cw_twicemany_k00_numbers_below_a_prime_holds : PySem.Challenge.rw_twicemany_k00_numbers_below_a_prime.Holds := by
  w_on; o_law; k_head; (case hw => w_witness2)
  k_fill
  refine Own.walkG (l := PySem.Challenge.rw_twicemany_k00_numbers_below_a_prime) (n := 63) (k := 7) (x := "script") (sp := fun K => My.sp_law K) rfl (by decide) rfl ⟨rfl, by decide, by decide⟩ (fun w h Y => PySem.W.kIn_of Y) ?F (fun K H a ns h1 h2 h3 => My.law_sp h1 h2 h3)
  case F =>
    intro w mg fa h KX G hmg
    refine' My.all_mk KX G hmg ?a0 ?l0 ?c0 ?k0 ?a1 ?l1 ?c1 ?k1 ?a2 ?l2 ?c2 ?k2 ?a3 ?l3 ?c3 ?k3 ?a4 ?l4 ?c4 ?k4 ?a5 ?l5 ?c5 ?k5 ?a6 ?l6 ?c6 ?k6 ?a7 ?l7 ?c7 ?k7 ?a8 ?l8 ?c8 ?k8 ?a9 ?l9 ?c9 ?k9 ?a10 ?l10 ?c10 ?k10 ?a11 ?l11 ?c11 ?k11 ?a12 ?l12 ?c12 ?k12 ?a13 ?l13 ?c13 ?k13 ?a14 ?l14 ?c14 ?k14 ?a15 ?l15 ?c15 ?k15 ?a16 ?l16 ?c16 ?k16 ?a17 ?l17 ?c17 ?k17 ?a18 ?l18 ?c18 ?k18 ?a19 ?l19 ?c19 ?k19 ?a20 ?l20 ?c20 ?k20 ?a21 ?l21 ?c21 ?k21 ?a22 ?l22 ?c22 ?k22 ?a23 ?l23 ?c23 ?k23 ?a24 ?l24 ?c24 ?k24 ?z_bool ?z_enumerate ?z_int ?z_isinstance ?z_len ?z_list ?z_max ?z_range ?z_repr ?z_sum ?z_tuple ?z_zip ?v_GREATEST_PRIME
    (case a0 => k_is); (case l0 => k_is); (case c0 => k_is); (case k0 => k_is); (case a1 => k_is); (case l1 => k_is); (case c1 => k_is); (case k1 => k_is); (case a2 => k_is); (case l2 => k_is); (case c2 => k_is); (case k2 => k_is); (case a3 => k_is); (case l3 => k_is); (case c3 => k_is); (case k3 => k_is); (case a4 => k_is); (case l4 => k_is); (case c4 => k_is); (case k4 => k_is); (case a5 => k_is); (case l5 => k_is); (case c5 => k_is); (case k5 => k_is); (case a6 => k_is); (case l6 => k_is); (case c6 => k_is); (case k6 => k_is); (case a7 => k_is); (case l7 => k_is); (case c7 => k_is); (case k7 => k_is); (case a8 => k_is); (case l8 => k_is); (case c8 => k_is); (case k8 => k_is); (case a9 => k_is); (case l9 => k_is); (case c9 => k_is); (case k9 => k_is); (case a10 => k_is); (case l10 => k_is); (case c10 => k_is); (case k10 => k_is); (case a11 => k_is); (case l11 => k_is); (case c11 => k_is); (case k11 => k_is); (case a12 => k_is); (case l12 => k_is); (case c12 => k_is); (case k12 => k_is); (case a13 => k_is); (case l13 => k_is); (case c13 => k_is); (case k13 => k_is); (case a14 => k_is); (case l14 => k_is); (case c14 => k_is); (case k14 => k_is); (case a15 => k_is); (case l15 => k_is); (case c15 => k_is); (case k15 => k_is); (case a16 => k_is); (case l16 => k_is); (case c16 => k_is); (case k16 => k_is); (case a17 => k_is); (case l17 => k_is); (case c17 => k_is); (case k17 => k_is); (case a18 => k_is); (case l18 => k_is); (case c18 => k_is); (case k18 => k_is); (case a19 => k_is); (case l19 => k_is); (case c19 => k_is); (case k19 => k_is); (case a20 => k_is); (case l20 => k_is); (case c20 => k_is); (case k20 => k_is); (case a21 => k_is); (case l21 => k_is); (case c21 => k_is); (case k21 => k_is); (case a22 => k_is); (case l22 => k_is); (case c22 => k_is); (case k22 => k_is); (case a23 => k_is); (case l23 => k_is); (case c23 => k_is); (case k23 => k_is); (case a24 => k_is); (case l24 => k_is); (case c24 => k_is); (case k24 => k_is); (case z_bool => k_is); (case z_enumerate => k_is); (case z_int => k_is); (case z_isinstance => k_is); (case z_len => k_is); (case z_list => k_is); (case z_max => k_is); (case z_range => k_is); (case z_repr => k_is); (case z_sum => k_is); (case z_tuple => k_is); (case z_zip => k_is); (case v_GREATEST_PRIME => k_is)

