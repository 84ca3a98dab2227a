import PyProof.Rows.All
import Wide.All
import OpenK.AllK
import Wide.FinOn
import HandS.ForMost
import HandS.Exc
import HandS.TryOnly
import HandS.ExcOwn
import HandS.WordsExc
import PyProof.ReprRoads
import HandS.Ends
import HandS.ExcInit
import HandS.ExcIs
import HandS.ExcField
import HandS.IsInst
import HandS.TupMul
import HandS.TupAny
import HandS.Wide
import HandS.Evl
import KE.KTypeName
import HandS.FStrTup
import HandS.Style
import HandS.Iter
import HandS.Zip
import HandS.Walk
import KE.GoesEnum
import KE.GoesNew
import HandS.SortInts
import KE.KNestM
import KE.KLam
import HandS.Lambda
import HandS.CallLocal
import HandS.EndBits
import HandS.Conv
import HandS.ClsMeth
import KE.SortKeyHeap
import HandS.SortKw
import PySem.Challenge.RW_twicemany_k05_kinds_of_a_loss_in_order
set_option Elab.async false
set_option linter.all false
set_option maxRecDepth 100000
set_option maxHeartbeats 4000000
namespace Own
open PySem PySem.Spec PyProof.Rows L2
/-! ### the text of data -/
def rShow (K : PySem.W.Frag) : List V → Hp → VK → Prop := fun xs H Q => ∃ (x : V) (d : PyData), xs = [x] ∧ Dp K H x d ∧
  (d.showable = true ∧ d.hasDict = false ∧ d.depth ≤ 60 ∧ d.shown.length ≤ sizeLine) ∧ Q (.str d.shown) H
theorem call_show {X : Cx} (hg : X.A.guards = some []) (hu : X.A.units + 64 < cLine) : CallR X (.builtin "repr") (rShow X.K) := by
  intro pins s σ H xs us Q I rv hh
  obtain ⟨x, d, rfl, hd, ⟨h1, h2, h3, h4⟩, q⟩ := hh
  obtain ⟨u, rfl, ru⟩ := vals1 rv
  cases hd with
  | non => cases ru; exact PySem.P.repr_of_none ⟨.str _, H, I.tok _, ⟨_, rfl⟩, q⟩
  | bl b => cases ru; exact PySem.P.repr_of_bool ⟨.str _, H, I.tok _, ⟨_, rfl⟩, by simpa only [PyData.shown] using q⟩
  | int i =>
    obtain ⟨t, rfl⟩ := ru
    exact PySem.P.repr_of_int (by simpa [PyData.showable] using h1) ⟨.str _, H, I.tok _, ⟨_, rfl⟩, by simpa only [PyData.shown] using q⟩
  | str z =>
    obtain ⟨t, rfl⟩ := ru
    exact PySem.P.repr_of_str ⟨.str _, H, I.tok _, ⟨_, rfl⟩, by simpa only [PyData.shown] using q⟩ (by simpa only [PyData.shown] using h4)
  | lst hs ha =>
    cases ru
    obtain ⟨as, rd⟩ := Dp.reads I _ _ _ (Dp.lst hs ha) rfl
    exact repr_of_reads' rd h1 (PyData.noDict_hsm h2) hg (by omega) (fun _ _ e => e) (fun h' u tk hk => ⟨.str _, H, I.kept hk, ⟨_, rfl⟩, q⟩) h4
  | tup hs ha =>
    cases ru
    obtain ⟨as, rd⟩ := Dp.reads I _ _ _ (Dp.tup hs ha) rfl
    exact repr_of_reads' rd h1 (PyData.noDict_hsm h2) hg (by omega) (fun _ _ e => e) (fun h' u tk hk => ⟨.str _, H, I.kept hk, ⟨_, rfl⟩, q⟩) h4
theorem guards_deeper {A : Around} {env : Env} : (A.deeper env).guards = A.guards := by
  unfold Around.deeper
  rfl
end Own


namespace Own
open PySem PySem.Spec PyProof.Rows L2
/-! ### a def's promise where no text of data is being made around the call -/
structure FnG (P : Program) (w : World) (K : PySem.W.Frag) (mg : Str → Option Value) (base : Heap) (C : CXT) (k : Nat) (f : Addr) (fd : FuncData) (ps : List Str) (sp : Sp) : Prop where
  size : ∀ vs H Q E, sp vs H Q E → vs.length = ps.length
  goes : ∀ (A : Around) (outer : List Env) (s : Shared) (H : Hp) (args : Args) (us : List Value) (vs : List V) (Q : VK) (E : XK),
    A.guards = some [] → Room k A → Env0 P w K mg base A outer s H → BindsTo s fd args (ps.zip us) → Vals vs us → sp vs H Q E →
      codeAny (model P w) A (.call (.ref f) args) (CR C outer P w H s Q E) s
theorem FnG.of {P : Program} {w : World} {K : PySem.W.Frag} {mg : Str → Option Value} {base : Heap} {C : CXT} {k : Nat} {f : Addr} {fd : FuncData} {ps : List Str} {sp : Sp}
    (F : FnOk P w K mg base C k f fd ps sp) : FnG P w K mg base C k f fd ps sp := ⟨F.len, fun A o s H args us vs Q E _ => F.run A o s H args us vs Q E⟩
section
variable {P : Program} {w : World} {K : PySem.W.Frag} {mg : Str → Option Value} {base : Heap}
theorem fnG_mk {C : CXT} {x qual : Str} {st : Stmt} {f : Addr} {fd : FuncData} {N ps : List Str} {k : Nat} {sp : Sp} (F : Fun K x qual st f fd) (S : FnScope N ps (defScope st)) (sz : ∀ vs H Q E, sp vs H Q E → vs.length = ps.length)
    (hb : ∀ (cdv : Value) (A : Around) (outer : List Env) (s : Shared) (H : Hp) (vs : List V) (Q : VK) (E : XK),
      (A.deeper (envOfC qual (defScope st) s.heap.objs.size f cdv)).guards = some [] → Room k (A.deeper (envOfC qual (defScope st) s.heap.objs.size f cdv)) → sp vs H Q E →
        ∃ t, PSs (cxOf C P w K mg base N qual (defScope st) f cdv A outer s H E) (defBody st) t ∧ t { nx := fun _ H' => Q .non H', rt := Q } (start N vs) H) :
    FnG P w K mg base C (k + 1) f fd ps sp := by
  obtain ⟨oc, od, kV, doc, pm, an, cdv, ct, osl, efd, look, code⟩ := F.ex
  subst efd
  refine ⟨sz, fun A o s H args us vs Q E gA room e0 bind rv pre => ?_⟩
  have inside : K.In s.heap := e0.mod.kin.keeps fun b u q => (e0.bs b u q).1
  have free : s.heap.NoLimit := e0.mod.nolimit.keeps fun b u q => (e0.bs b u q).1
  refine codeAny_call_function room.depth (inside _ _ look) rfl S.co S.gen rfl (PySem.W.codeRec_of inside code) (bind _ _ _ _ ?_)
  refine wpAny_newFunctionEnv_cells S.kind (fun y hy => ?_) fun env he s1 x => ?_
  · have m := (List.of_mem_zip (show (y.1, y.2) ∈ ps.zip us from hy)).1
    exact (S.par y.1 m).elim Or.inl fun q => Or.inr ⟨q, PySem.W.cellsFrom_some _ _ _ (.inl q)⟩
  · subst he
    refine ⟨free.keeps x.toInCall.keep, codeAny_func ?_⟩
    obtain ⟨t, ht, rd⟩ := hb cdv A o s H vs Q E (guards_deeper.trans gA) (room.deeper _) pre
    have I := inv_start (CX := C) (P := P) (w := w) (mg := mg) (E := E) (N := N) S room.hd e0 (sz _ _ _ _ pre) rv x
    refine wpAny_mono (ht.run [] s1 (start N vs) H _ I rd) (fun fl s' hs => ?_) fun _ _ z => z
    match fl, hs with
    | .ret u, hs => exact (let ⟨v, _, H', J, r2, q⟩ := hs; ⟨v, H', J.os, J.bare, J.base, J.hok, r2, q⟩)
    | .next, hs => exact (let ⟨_, H', J, q⟩ := hs; ⟨V.non, H', J.os, J.bare, J.base, J.hok, rfl, q⟩)
    | .brk, hs => exact (let ⟨_, _, _, z⟩ := hs; z.elim)
    | .cont, hs => exact (let ⟨_, _, _, z⟩ := hs; z.elim)
/-- nothing is let out -/
theorem fnG_ok {x qual : Str} {st : Stmt} {f : Addr} {fd : FuncData} {N ps : List Str} {k : Nat} {sp : Sp} (F : Fun K x qual st f fd) (S : FnScope N ps (defScope st)) (sz : ∀ vs H Q E, sp vs H Q E → vs.length = ps.length)
    (hb : ∀ (cdv : Value) (A : Around) (outer : List Env) (s : Shared) (H : Hp) (vs : List V) (Q : VK) (E : XK),
      (A.deeper (envOfC qual (defScope st) s.heap.objs.size f cdv)).guards = some [] → Room k (A.deeper (envOfC qual (defScope st) s.heap.objs.size f cdv)) → sp vs H Q E →
        ∃ t, PSs (cxOf CX0 P w K mg base N qual (defScope st) f cdv A outer s H E).nox (defBody st) t ∧ t { nx := fun _ H' => Q .non H', rt := Q } (start N vs) H) :
    FnG P w K mg base CX0 (k + 1) f fd ps sp :=
  fnG_mk F S sz fun cdv A o s H vs Q E g r h => let ⟨t, p, q⟩ := hb cdv A o s H vs Q E g r h; ⟨t, p.nox, q⟩
end
section
variable {X : Cx} {C : CXT} {k : Nat} {f : Addr} {fd : FuncData} {ps : List Str} {sp : Sp} {dvs : List V} {ds : List Value} {E : XK} {x : Str} {p pos : Pos} {e : Expr} {es : List Expr} {t : TA}
theorem goesG {pins : List (Addr × Obj)} {σ : L2.St} {H : Hp} {s : Shared} {Q : VK} {us : List Value} {vs : List V} (F : FnG X.prog X.w X.K X.mg X.base C k f fd ps sp) (hg : X.A.guards = some []) (hr : Room k X.A) (hb : Binds X.K fd ps []) (hx : Passes C X E)
    (I : Inv X pins σ H s) (rv : Vals vs us) (h : sp vs H Q E) : wpAny (model X.prog X.w) X.A (call (.ref f) us) (EP X pins σ Q) X.xe s := by
  have n : (us ++ []).length = ps.length := by rw [List.append_nil, ← rv.length, F.size _ _ _ _ h]
  have bt := hb s us I.kIn n
  rw [List.append_nil] at bt
  refine wpAny_call (codeAny_mono (F.goes X.A X.stack s H ⟨us, []⟩ us vs Q E hg hr I.env0 bt rv h) fun r s' z => ?_)
  match r, z with
  | .error e, z => exact hx pins σ H s e s' I z
  | .ok (.ret u), z => exact I.after z
  | .ok .next, z => exact z.elim
  | .ok .brk, z => exact z.elim
  | .ok .cont, z => exact z.elim
/-- f(e, ..), by such a promise -/
theorem pe_callG (F : FnG X.prog X.w X.K X.mg X.base C k f fd ps sp) (hg : X.A.guards = some []) (hr : Room k X.A) (gl : Gl X x) (hm : X.mg x = some (.ref f)) (hk : PySem.W.keepIn X.K (.ref f) = true) (hb : Binds X.K fd ps []) (hx : Passes C X E)
    (ha : PA X (e :: es) t) (hdb : (x == ("__debug__" : Str)) = false := by decide) (hst : starEach (e :: es) X.env = (false, eval e X.env) :: starEach es X.env := by rfl) (hpl : (backTo pos (starEach es X.env)).any (·.1) = false := by rfl) :
    PE X (.Call (.Name x p) (e :: es) [] pos) (fun σ H Q => t σ H fun vs H1 => sp vs H1 Q E) :=
  ⟨fun pins s σ H Q I h => wpAny_Call_Name_kw (ld_glob I gl hm
    (PySem.W.callWith_K (h₀ := X.base) I.ok.mod.kin hk (thn (ha.run pos pins s σ H _ I h) fun us s1 ⟨vs, H1, J, rv, q⟩ => ⟨J.kIn, goesG F hg hr hb hx J rv q⟩) hst hpl) hdb)⟩
end
end Own


namespace Own
open PySem PySem.Spec PyProof.Rows L2
/-! ### the law's own call -/
/-- what stands at the law's entry, seen with nothing but the script tracked -/
structure Entry (K : PySem.W.Frag) (s : Shared) (a : Addr) (vs : List Value) (ns : List Int) (H : Hp) : Prop where
  only : Only H
  seq : SqL K H a (ns.map V.int)
  none_ : ∀ b, b ≠ a → H b = none
  own : H a ≠ none → K.lookup a = none
theorem entry_ok {P : Program} {w : World} {K : PySem.W.Frag} {s : Shared} {a : Addr} {vs : List Value} {ns : List Int} (KX : K.In s.heap)
    (ha : s.heap.get? a = some { cls := .type "list", data := .seq vs.toArray }) (hi : IntsAre vs ns) (hl : ns.length ≤ sizeLine) : ∃ H, Entry K s a vs ns H ∧ HOk P w H s.heap := by
  have rv := vals_ints hi
  have ln : vs.length = ns.length := hi.length
  by_cases hk : K.lookup a = none
  · refine ⟨fun b => if b = a then some (.frz { cls := .type "list", data := .seq vs.toArray } (.lst (ns.map V.int))) else none, ⟨fun b => ?_, .inl (.inr ⟨_, if_pos rfl⟩), fun b nb => if_neg nb, fun _ => hk⟩, fun b u e => ?_⟩
    · by_cases q : b = a
      · exact .inr ⟨_, _, if_pos q⟩
      · exact .inl (if_neg q)
    · by_cases q : b = a
      · have e' := (if_pos q).symm.trans e
        injection e' with e'
        subst e' q
        exact ⟨ha, by rw [List.length_map]; exact hl, vs, _, rv, ha⟩
      · exact absurd ((if_neg q).symm.trans e) (by intro z; cases z)
  · obtain ⟨o, ho⟩ := Option.ne_none_iff_exists'.mp hk
    have e := (KX a o ho).symm.trans ha
    injection e with e
    subst e
    exact ⟨fun _ => none, ⟨fun _ => .inl rfl, .inr ⟨_, vs.toArray, _, ho, rfl, rfl, rfl, by rw [List.size_toArray, ln]; exact hl, by simpa using rv⟩, fun _ _ => rfl, fun z => absurd rfl z⟩,
      fun b u z => by cases z⟩
theorem lawG {P : Program} {w : World} {K : PySem.W.Frag} {mg mb : Str → Option Value} {k : Nat} {fa a : Addr} {fd : FuncData} {x : Str} {sp : Sp} {s : Shared} {vs : List Value} {ns : List Int}
    (KX : K.In s.heap) (g1 : s.heap.Ns mainGlobals mg) (g2 : s.heap.Ns builtinsNs mb) (g3 : ∀ x : Str, x ≠ "__name__" → mb x = bootBuiltins x) (g4 : s.heap.NoLimit) (hg : s.gens = #[])
    (ha : s.heap.get? a = some { cls := .type "list", data := .seq vs.toArray }) (hi : IntsAre vs ns) (hl : ns.length ≤ sizeLine) (hr : Room k callerA)
    (F : ∀ base : Heap, K.In base → base.Ns mainGlobals mg → FnG P w K mg base CX0 k fa fd [x] sp) (hb : ∀ (s : Shared) (u : Value), BindsTo s fd ⟨[u], []⟩ [(x, u)])
    (hsp : ∀ H : Hp, Only H → SqL K H a (ns.map V.int) → sp [.ref a] H (fun v _ => v = .bl true) E0) :
    codeAny (model P w) callerA (.call (.ref fa) ⟨[.ref a], []⟩) (fun r s' => r = .ok (.ret (.bool true)) ∧ OldK s.heap s'.heap ∧ s'.os = s.os ∧ AllBare s'.gens) s := by
  obtain ⟨H, e, hok⟩ := entry_ok (P := P) (w := w) KX ha hi hl
  -- the base: what isn't tracked
  have un : ∀ {b : Addr} {m : Str → Option Value}, s.heap.Ns b m → H b = none := fun {b m} ⟨o, es, ep, q, d, _⟩ => by
    by_cases z : b = a
    · subst z
      rw [ha] at q
      injection q with q
      subst q
      exact absurd d (by intro z; cases z)
    · exact e.none_ b z
  have nsB : ∀ {b : Addr} {m : Str → Option Value}, s.heap.Ns b m → (hidT s.heap H).Ns b m := fun {b m} n => by
    have hn := un n
    obtain ⟨o, es, ep, q, d, r⟩ := n
    exact ⟨o, es, ep, hidT_get q hn, d, r⟩
  have KB : K.In (hidT s.heap H) := fun b o q => hidT_get (KX b o q) (by
    by_cases z : b = a
    · subst z
      by_cases y : H b = none
      · exact y
      · have n := e.own y
        rw [q] at n
        cases n
    · exact e.none_ b z)
  have e0 : Env0 P w K mg (hidT s.heap H) callerA [] s H :=
    ⟨rfl, ⟨KB, nsB g1, ⟨mb, nsB g2, g3⟩, (let ⟨mc, h1, h2⟩ := g4; ⟨mc, nsB h1, h2⟩)⟩, fun b o q => of_hidT q, Nat.le_of_eq (hidT_size _ _), trivial, fun b z => absurd z (List.not_mem_nil), hok, .of_eq hg⟩
  refine codeAny_mono ((F _ KB (nsB g1)).goes callerA [] s H ⟨[.ref a], []⟩ [.ref a] [.ref a] _ _ rfl hr e0 (hb s (.ref a)) (.cons rfl .nil) (hsp H e.only e.seq)) fun r s' z => ?_
  match r, z with
  | .error _, z => exact z.elim
  | .ok .next, z => exact z.elim
  | .ok .brk, z => exact z.elim
  | .ok .cont, z => exact z.elim
  | .ok (.ret u), z =>
    obtain ⟨v, H', os, bare, ch, hok', ru, q⟩ := z
    have q : v = .bl true := q
    subst q
    have eu : u = Value.bool true := ru
    refine ⟨by rw [eu], OldK.of_keep fun b o q => ?_, os, bare⟩
    cases y : H b with
    | none => exact ch.keep b o q y (fun z => by cases z) (fun z => by cases z)
    | some u' =>
      rcases e.only b with z | ⟨ob, xs, z⟩
      · rw [y] at z
        cases z
      · have o1 := (hok b _ z).1
        have o2 := (hok' b _ (ch.frzs b ob _ z)).1
        rw [q] at o1
        injection o1 with o1
        rw [o1]
        exact o2
theorem walkG {l : PySem.W.OpenLaw} {n k : Nat} {q : Program} {loose : List Str} {XP : (Str → Option Value) → Heap → Prop} {YP : World → Heap → Prop} {d : DefRec} {K : Params → PySem.W.Frag} {sp : PySem.W.Frag → Sp} {x : Str}
    (h1 : l.most = some n) (h2 : n ≤ sizeLine) (h3 : d.params.defaults = []) (hr : Room k callerA) (hY : ∀ (w : World) (h : Heap), YP w h → (K w.params).In h)
    (F : ∀ (w : World) (mg : Str → Option Value) (fa : Addr) (h : Heap), (K w.params).In h → h.Ns mainGlobals mg → mg d.name = some (.ref fa) →
      ∃ fd : FuncData, (∀ (s : Shared) (u : Value), BindsTo s fd ⟨[u], []⟩ [(x, u)]) ∧
        ∀ base : Heap, (K w.params).In base → base.Ns mainGlobals mg → FnG l.prog w (K w.params) mg base CX0 k fa fd [x] (sp (K w.params)))
    (hsp : ∀ (K : PySem.W.Frag) (H : Hp) (a : Addr) (ns : List Int), ns.length ≤ n → Only H → SqL K H a (ns.map V.int) → sp K [.ref a] H (fun v _ => v = .bl true) E0) :
    PySem.W.WalkO q loose XP YP l.row.toRowW d [] (fun f vs => PySem.call f vs) :=
  Att.attach_call h1 h3 fun w s₀ s₁ mg mb fa o pm cd doc a vs ns G Y ho hd hcd hmg hobj hints hlen hg =>
    let ⟨fd, hb, hF⟩ := F w mg fa _ (hY w _ Y) G.T.g hmg
    lawG (hY w _ Y) G.T.g G.T.b G.T.builtins G.T.nolimit hg hobj hints (Nat.le_trans hlen h2) hr hF hb fun H hO hS => hsp _ H a ns hlen hO hS
end Own


namespace Own
open PySem PySem.Spec PyProof.Rows L2
/-! ### isinstance of a caught error that has a dict of its own -/
section
open PySem.W PySem.Calls
variable {prog : Program} {w : World} {A : Around} {E : Value → Shared → Prop} {s : Shared} {K : Frag} {x D : Addr} {ox : Obj} {od : Option Obj}
theorem asks_class {Q : Option Value → Shared → Prop} (T : ExcC K D) (hf : findObj K D od "__class__" = some (.bind (.builtin "getset_descriptor.__get__") (.builtin "object.__class__")))
    (KX : K.In s.heap) (I : PySem.W.InstAt s.heap x ox D od) (h : Q (some (.ref D)) { s with toks := s.toks + 1 }) : wpAny (model prog w) A (getAttr? (.ref x) "__class__") Q E s := by
  obtain ⟨hp, g, d, t, os⟩ := s
  have a0 := I.type (M := model prog w)
  have a1 := looks_findIn (M := model prog w) KX T.hg
  have a2 := looks_findIn (M := model prog w) KX T.hk
  have a3 := looks_find (M := model prog w) KX I hf
  have a4 : Looks (model prog w) hp (isInstance (.ref x) (.type "BaseException")) true := a0.andThen (looks_subIn KX T.hs)
  have n1 : (Value.builtin "BaseException.__getattribute__" == Value.builtin "object.__getattribute__") = false := by decide +kernel
  have n2 : (onTheHeap (Value.ref D) && Value.builtin "BaseException.__getattribute__" == Value.builtin "object.__getattribute__") = false := by rw [n1]; rfl
  have n3 : (false && onTheHeap (Value.builtin "BaseException.__getattribute__")) = false := rfl
  unfold getAttr? getAttrBy? getAttrBy
  refine wpAny_bind (wpAny_mkText (wpAny_bind (wpAny_attempt (wpAny_holding (wpAny_bind (a0.at (wpAny_bind (a1.at ?_))))))))
  simp only [n2, Bool.false_eq_true, if_false]
  unfold getAttrByItsOwn hookBefore
  refine wpAny_bind ?_
  rw [if_pos (show onTheHeap (Value.ref D) = true from rfl)]
  refine a2.at (wpAny_bind (wpAny_attempt (wpAny_holding ?_)))
  unfold callGetattribute
  simp only [n3, Bool.false_eq_true, if_false]
  unfold boundAndCalled
  rw [PySem.F.excAttr_ValueError.ga.bind (.ref x)]
  refine wpAny_bind (wpAny_pure ?_)
  show wpAny _ _ (call (.builtin "BaseException.__getattribute__") [.ref x, .str "__class__" t]) _ _ _
  refine wpAny_call (codeAny_call_builtin PySem.F.excAttr_ValueError.ga.plain PySem.F.entry_bexc_ga ?_)
  refine @check_slot (model prog w) _ _ ⟨hp, g, d, t + 1, os⟩ "BaseException.__getattribute__" "BaseException" "__getattribute__" (.ref x) [.str "__class__" t] [] _ (by decide +kernel) (by decide +kernel) a4
    (PySem.F.args_bexc_ga (.ref x) (.str "__class__" t)) ?_
  unfold Builtin.«object.__getattribute__»
  refine wpAny_bind (wpAny_of_eq (a := ((Value.ref x : Value), [Value.str "__class__" t])) (by first | rfl | (simp only [slotArgs]; rfl)) ?_)
  refine wpAny_bind (wpAny_pure (wpAny_bind (a0.at (wpAny_bind (a3.at ?_)))))
  show wpAny _ _ (holding [Value.builtin "object.__class__"] (call (.builtin "getset_descriptor.__get__") [.builtin "object.__class__", .ref x, .ref D]) >>= ret) _ _ _
  refine wpAny_bind (wpAny_holding (wpAny_call (class_get (s := ⟨hp, g, d, t + 1, os⟩) (ox := ox) (od := od) KX I T.hm (wpAny_pure ?_))))
  show wpAny _ _ (handedOut (.ref D)) _ _ _
  rw [handedOut_of (v := .ref D) rfl]
  first
    | exact wpAny_pure h
    | exact wpAny_pure (wpAny_pure h)
    | exact wpAny_pure (wpAny_bind (wpAny_pure (wpAny_pure h)))
theorem cls_there (T : ExcC K D) : ∃ c' d' cd' sl', K.lookup D = some ⟨c', d', .cls cd', sl'⟩ := by
  obtain ⟨cd, hc, _⟩ := any_some T.hd
  unfold clsIn at hc
  split at hc
  · rename_i c' d' cd' sl' ho
    exact ⟨_, _, _, _, ho⟩
  · cases hc
theorem kit_exc (T : ExcC K D) : KitX K (.ref x) (.ref D) (fun h => ∃ od, PySem.W.InstAt h x ox D (some od)) where
  ty := fun _ _ _ ⟨_, I⟩ => I.type
  it := fun _ _ KX _ A' Q' E' s' k q => by
    obtain ⟨_, _, _, _, ho⟩ := cls_there T
    unfold isType loadHead
    exact wpAny_bind (wpAny_loadPart (k _ _ (KX _ _ ho)) (wpAny_pure q))
  ne := fun h tp dd its n sl KX htp => Bool.eq_false_iff.mpr fun q => by
    obtain ⟨_, _, _, _, ho⟩ := cls_there T
    have e : D = tp := Value.ref.inj (beq_iff_eq.mp q)
    subst e
    exact absurd ((KX _ _ ho).symm.trans htp) (by intro z; cases z)
  ca := fun KX ⟨od, I⟩ q => asks_class T (findObj_data (by obtain ⟨cd, hc, _⟩ := any_some T.hd; rw [hc]; rfl) T.ha T.hn T.ht) KX I q
end
/-- isinstance(e, c), e the error that the suite holds: its class cls is D, its dict told by d -/
def rIsD (K : PySem.W.Frag) (D a : Addr) (cls : Value) (d : Option Addr) : List V → Hp → VK → Prop := fun xs H Q => cls = .ref D ∧ ∃ (c : V) (cv : Value) (b : Bool) (dd : Addr) (fs : List (Str × V)),
  xs = [.ref a, c] ∧ ClsV c cv ∧ PySem.W.kitOne K (.ref D) cv = some b ∧ d = some dd ∧ H dd = some (.xd fs) ∧ Q (.bl b) H
theorem call_isD {X : Cx} {a D : Addr} {cls : Value} {d : Option Addr} {oe : Obj} {pn : List (Addr × Obj)} (T : ExcC X.K D) (hz : Zc cls d oe) (hf : ∃ vs, oe.data = .fields vs) :
    CallR (X.suite a ((a, oe) :: pn)) (.builtin "isinstance") (rIsD X.K D a cls d) := by
  intro pins s σ H xs us Q I rv h
  obtain ⟨ec, c, cv, b, dd, fs, rfl, kc, e, e1, ed, q⟩ := h
  subst ec e1
  obtain ⟨u1, u2, rfl, r1, r2⟩ := vals2 rv
  cases r1
  have e2 := kc.eq r2
  subst e2
  obtain ⟨at_, _⟩ := I.pin (a, oe) (List.mem_append.mpr (.inl List.mem_cons_self))
  obtain ⟨vs, hv⟩ := hf
  obtain ⟨mA, hns, _⟩ := I.hok dd _ ed
  obtain ⟨od, ho, _⟩ := lookIn_ns hns
  have J : PySem.W.InstAt s.heap a oe D (some od) := ⟨at_, hz.1, by unfold PySem.W.notCls; rw [hv] <;> rfl, by rw [hz.2]; exact ho⟩
  exact PySem.W.kia_one (kit_exc T) I.kIn ⟨od, J⟩ e (fun z => nomatch z) fun tk => ⟨.bl b, H, I.kept (t' := tk) fun _ _ z => z, rfl, q⟩
/-! ### f(k = e, ..) without a positional argument, in a try's body -/
section
variable {X : Cx} {C : CXT} {k : Nat} {f : Addr} {fd : FuncData} {ps ks : List Str} {sp : Sp} {E : L2.St → XK} {x : Str} {p pos : Pos} {kws : List Keyword} {tk : TA}
theorem pe_callKS (F : FnOk X.prog X.w X.K X.mg X.base C k f fd ps sp) (hr : Room k X.A) (hg : Gl X x) (hm : X.mg x = some (.ref f)) (hk : PySem.W.keepIn X.K (.ref f) = true)
    (hb : ∀ (s : Shared) (ws : List Value), X.K.In s.heap → ws.length = ps.length → BindsTo s fd ⟨[], ks.zip ws⟩ (ps.zip ws)) (hx : ∀ σ, PassesAt C X σ (E σ))
    (hkw : PK X kws tk) (hall : (backToKw pos (keywordEach kws X.env)).all (·.1.isSome) = true := by rfl) (hks : (backToKw pos (keywordEach kws X.env)).filterMap (·.1) = ks := by rfl)
    (hpl : ((backTo pos (starEach [] X.env)).any (·.1) || (backToKw pos (keywordEach kws X.env)).any (·.1.isNone)) = false := by rfl) (hdb : (x == ("__debug__" : Str)) = false := by decide) :
    PE X (.Call (.Name x p) [] kws pos) (fun σ H Q => tk σ H fun vs H1 => sp vs H1 Q (E σ)) := by
  refine ⟨fun pins s σ H Q I h => wpAny_Call_Name_kw (ld_glob I hg hm ?_ hdb)⟩
  refine PySem.W.callWith_KW0 (h₀ := X.base) I.ok.mod.kin hk hall (thn (hkw.run pos pins s σ H _ I h) fun ws s1 ⟨zs, H1, J, rz, q⟩ => ⟨J.kIn, ?_⟩) ?_
  · rw [hks]
    have n : ws.length = ps.length := by rw [← rz.length]; exact F.len _ _ _ _ q
    refine wpAny_call (codeAny_mono (F.run X.A X.stack s1 H1 ⟨[], ks.zip ws⟩ ws zs Q (E σ) hr J.env0 (hb s1 ws J.kIn n) rz q) fun r s' z => ?_)
    match r, z with
    | .error e, z => exact hx σ pins H1 s1 e s' J z
    | .ok (.ret u), z => exact J.after z
    | .ok .next, z => exact z.elim
    | .ok .brk, z => exact z.elim
    | .ok .cont, z => exact z.elim
  · exact hpl
end
end Own


namespace Own
open PySem PySem.Spec PyProof.Rows L2
/-! ### t * 1 is t itself -/
theorem tuple_once (l : Addr) (items : Array Value) (n : Nat) (dd : Option Addr) (sl : Array (Option Value)) (u : Tok) :
    Meets (Builtin.«tuple.__mul__» ⟨[.ref l, .int 1 u], []⟩) (fun _ R s => s.heap.get? l = some { cls := .type "tuple", dict := dd, data := .seq items n, slots := sl } ∧ R (.ok (.ret (.ref l))) s) :=
  .of_wp fun prog w A R s h => by
    obtain ⟨hp, g, d, tk, os⟩ := s
    obtain ⟨hl, h⟩ := h
    have f1 := AutoSeq1.idx_int
    have c0 : (decide ((1 : Int) < -(2 ^ 63)) || decide ((1 : Int) ≥ 2 ^ 63)) = false := by decide
    have c1 : (items.isEmpty || (1 : Int) == 1) = true := by rw [show ((1 : Int) == 1) = true from rfl, Bool.or_true]
    wp_walk using wpAny_loadPart' hl
    repeat (first
      | (refine wpAny_ite_false (decide_eq_false (by rw [c0]; exact Bool.false_ne_true)) ?_; wp_walk using wpAny_loadPart' hl)
      | (refine wpAny_ite_true (decide_eq_true c1) ?_; wp_walk using wpAny_loadPart' hl))
    exact ⟨_, rfl, h⟩
/-- t * 1 -/
def rOnce (K : PySem.W.Frag) : R2 := fun x y H Q => ∃ l xs, x = .ref l ∧ y = .int 1 ∧ SqT K H l xs ∧ Q (.ref l) H
theorem op_once {X : Cx} : OpR X (binaryOp .Mult) (rOnce X.K) := by
  intro pins s σ H x y v u Q I rx ry h
  obtain ⟨l, xs, rfl, rfl, hT, q⟩ := h
  cases rx
  obtain ⟨t, rfl⟩ := ry
  obtain ⟨its, r, ⟨⟨cls, dd, data, sl⟩, ho, hc, n, hd⟩, hs⟩ := I.tuple hT
  simp only at hc hd
  subst hc hd
  exact wpAny_binaryOp_repeat_ref (T := "tuple") (U := "int") (by decide) ⟨_, ho, rfl⟩ (fun s' => typeIs_int s' 1 t) noFill_tuple_mul F.fills_int_mul F.slot_int_rmul repeat_tuple F.slot_int_index.lookup
    (call_meets F.slot_int_rmul (typeIs_int s 1 t) F.entry_int_rmul (F.args_int_rmul_2 _ _) (int_rmul_tuple 1 t l its.toArray n dd sl)
      ⟨ho, rfl, ⟨_, ho, rfl⟩, call_meets F.slot_tuple_mul ⟨_, ho, rfl⟩ F.entry_tuple_mul (F.args_tuple_mul_2 _ _) (tuple_once l its.toArray n dd sl t) ⟨ho, ⟨.ref l, H, I, rfl, q⟩⟩⟩)
/-- t * k, k from 1 on -/
theorem op_times {X : Cx} : OpR X (binaryOp .Mult) (fun x y H Q => rRepT X.K x y H Q ∨ rOnce X.K x y H Q) := OpR.or op_repT op_once
end Own


namespace Own
open PySem PySem.Spec PyProof.Rows L2
/-! ### self.__class__.__name__ of an error that is being made -/
section
open PySem.W PySem.Calls Builtin Builtin.Getset_descriptor
variable {prog : Program} {w : World} {A : Around} {E : Value → Shared → Prop} {s : Shared} {K : Frag} {x D : Addr} {ox : Obj} {od : Option Obj}
/-- what the written part says of an error's class and of its name -/
structure NmC (K : Frag) (D : Addr) (nm : Str) : Prop where
  e : ExcC K D
  rd : readsIn K D (.type "type") = true
  ty : typeIn K (.ref D) = some (.type "type")
  fc : findCls K (.ref D) (.type "type") "__name__" = some (.get (.builtin "getset_descriptor.__get__") (.builtin "type.__name__") (.ref D) (.type "type"))
  sl : ∃ o tk, K.lookup D = some o ∧ (o.slots[2]?).join = some (.str nm tk)
  fn : findIn K (.ref D) "name" = some none
theorem takes_class {Q : Value → Shared → Prop} (T : ExcC K D) (hf : findObj K D od "__class__" = some (.bind (.builtin "getset_descriptor.__get__") (.builtin "object.__class__")))
    (KX : K.In s.heap) (I : PySem.W.InstAt s.heap x ox D od) (h : Q (.ref D) { s with toks := s.toks + 1 }) : wpAny (model prog w) A (getAttr (.ref x) "__class__" true) Q E s := by
  obtain ⟨hp, g, d, t, os⟩ := s
  have a0 := I.type (M := model prog w)
  have a1 := looks_findIn (M := model prog w) KX T.hg
  have a2 := looks_findIn (M := model prog w) KX T.hk
  have a3 := looks_find (M := model prog w) KX I hf
  have a4 : Looks (model prog w) hp (isInstance (.ref x) (.type "BaseException")) true := a0.andThen (looks_subIn KX T.hs)
  have n1 : (Value.builtin "BaseException.__getattribute__" == Value.builtin "object.__getattribute__") = false := by decide +kernel
  have n2 : (onTheHeap (Value.ref D) && Value.builtin "BaseException.__getattribute__" == Value.builtin "object.__getattribute__") = false := by rw [n1]; rfl
  have n3 : (true && onTheHeap (Value.builtin "BaseException.__getattribute__")) = false := rfl
  unfold getAttr getAttrBy
  refine wpAny_bind (wpAny_mkText (wpAny_holding (wpAny_bind (a0.at (wpAny_bind (a1.at ?_))))))
  simp only [n2, Bool.false_eq_true, if_false]
  unfold getAttrByItsOwn hookBefore
  refine wpAny_bind ?_
  rw [if_pos (show onTheHeap (Value.ref D) = true from rfl)]
  refine a2.at (wpAny_bind (wpAny_attempt (wpAny_holding ?_)))
  unfold callGetattribute
  simp only [n3, Bool.false_eq_true, if_false]
  unfold boundAndCalled
  rw [PySem.F.excAttr_ValueError.ga.bind (.ref x)]
  refine wpAny_bind (wpAny_pure ?_)
  show wpAny _ _ (call (.builtin "BaseException.__getattribute__") [.ref x, .str "__class__" t]) _ _ _
  refine wpAny_call (codeAny_call_builtin PySem.F.excAttr_ValueError.ga.plain PySem.F.entry_bexc_ga ?_)
  refine @check_slot (model prog w) _ _ ⟨hp, g, d, t + 1, os⟩ "BaseException.__getattribute__" "BaseException" "__getattribute__" (.ref x) [.str "__class__" t] [] _ (by decide +kernel) (by decide +kernel) a4
    (PySem.F.args_bexc_ga (.ref x) (.str "__class__" t)) ?_
  unfold Builtin.«object.__getattribute__»
  refine wpAny_bind (wpAny_of_eq (a := ((Value.ref x : Value), [Value.str "__class__" t])) (by first | rfl | (simp only [slotArgs]; rfl)) ?_)
  refine wpAny_bind (wpAny_pure (wpAny_bind (a0.at (wpAny_bind (a3.at ?_)))))
  show wpAny _ _ (holding [Value.builtin "object.__class__"] (call (.builtin "getset_descriptor.__get__") [.builtin "object.__class__", .ref x, .ref D]) >>= ret) _ _ _
  refine wpAny_bind (wpAny_holding (wpAny_call (class_get (s := ⟨hp, g, d, t + 1, os⟩) (ox := ox) (od := od) KX I T.hm (wpAny_pure ?_))))
  show wpAny _ _ (handedOut (.ref D)) _ _ _
  rw [handedOut_of (v := .ref D) rfl]
  exact wpAny_pure h
theorem name_get {tp : Value} {nm : Str} {R : Result → Shared → Prop} {o : Obj} {tk : Tok} (KX : K.In s.heap) (ht : typeIn K (.ref D) = some (.type "type")) (ho : K.lookup D = some o) (hs : (o.slots[2]?).join = some (.str nm tk))
    (h : R (.ok (.ret (.str nm tk))) s) : codeAny (model prog w) A (.call (.builtin "getset_descriptor.__get__") ⟨[.builtin "type.__name__", .ref D, tp], []⟩) R s := by
  obtain ⟨hp, g, d, t, os⟩ := s
  have a0 : Looks (model prog w) hp (typeOf (.ref D)) (.type "type") := looks_typeIn KX ht
  have a1 : Looks (model prog w) hp (isSubtype (.type "type") (.type "type")) true := Looks.of_pure (by rw [isSubtype_type]; kernel_rfl)
  refine codeAny_call_builtin KF.slot_gs.plain KF.entry_gs (KF.slot_gs.check _ _ _ _ _ _ _ _ ktyn_type (KF.args_gs _ _ _) ?_)
  unfold Builtin.«getset_descriptor.__get__» descrGet
  rw [dga_obj]
  refine wpAny_bind (wpAny_pure ?_)
  unfold descrGetter descrCheckInstance descrNameAndClass isInstance
  simp only [ktyn_owner]
  repeat lk
  refine ⟨Code.quiet_builtin _ (by decide +kernel), codeAny_builtin ktyn_entry ?_⟩
  unfold Builtin.«type.__name__»
  dsimp only
  unfold keptObject slotAt
  refine wpAny_bind (wpAny_bind (wpAny_loadPart (KX _ _ ho) (wpAny_pure ?_)))
  rw [hs]
  exact wpAny_pure h
theorem takes_name {nm : Str} {Q : Value → Shared → Prop} (N : NmC K D nm) (KX : K.In s.heap) (h : ∀ tk, Q (.str nm tk) { s with toks := s.toks + 1 }) :
    wpAny (model prog w) A (getAttr (.ref D) "__name__" true) Q E s := by
  obtain ⟨o, tk, ho, hs⟩ := N.sl
  refine cls_bind KX N.rd N.fc ?_
  exact wpAny_call (name_get (s := { s with toks := s.toks + 1 }) KX N.ty ho hs (handed_on rfl (h tk)))
end
/-- what is told of the class of an error whose __init__ keeps "what" and "name" -/
def WhC (K : PySem.W.Frag) (C : Addr) : Prop := PySem.W.findIn K (.ref C) "what" = some none ∧ ∃ nm, NmC K C nm
/-- at dd: the dict of such an error -/
def Wh (H : Hp) (dd : Addr) (v : V) : Prop := ∃ nm : Str, H dd = some (.xd [(("name" : Str), .str nm), (("what" : Str), v)])
/-- e.__class__.__name__, e an error that is being made and has its dict -/
def tNameOf (K : PySem.W.Frag) (te : TE) : TE := fun σ H Q => te σ H fun v H1 => ∃ (a C dx : Addr) (fs : List (Str × V)) (nm : Str), v = .ref a ∧ NmC K C nm ∧ H1 a = some (exo a C (some dx)) ∧ H1 dx = some (exd dx fs) ∧ Q (.str nm) H1
theorem pe_nameOf {X : Cx} {e : Expr} {te : TE} {p1 p2 : Pos} (he : PE X e te) (h1 : attributeBase e "__class__" X.env (eval e X.env) = eval e X.env := by rfl)
    (h2 : attributeBase (.Attribute e "__class__" p1) "__name__" X.env (eval (.Attribute e "__class__" p1) X.env) = eval (.Attribute e "__class__" p1) X.env := by rfl) :
    PE X (.Attribute (.Attribute e "__class__" p1) "__name__" p2) (tNameOf X.K te) := by
  refine ⟨fun pins s σ H Q I h => ?_⟩
  refine attr_of h2 (attr_of h1 (thn (he.run pins s σ H _ I h) fun u s1 ⟨v, H1, J, r, a, C, dx, fs, nm, ev, N, ea, ed, q⟩ => ?_))
  subst ev
  obtain rfl : u = Value.ref a := r
  obtain ⟨t1, ho⟩ := exo_at J.hok ea
  obtain ⟨mA, hns, rel⟩ := exd_at J.hok ed
  obtain ⟨oD, _, _, hoD, _, _⟩ := hns.count (within_of rel)
  have W : PySem.W.InstAt s1.heap a _ C (some oD) := ⟨ho, rfl, rfl, hoD⟩
  have T := N.e
  refine takes_class T (PySem.W.findObj_data (by obtain ⟨cd, hc, _⟩ := PySem.W.any_some T.hd; rw [hc]; rfl) T.ha T.hn T.ht) J.kIn W ?_
  refine takes_name N (s := { s1 with toks := s1.toks + 1 }) J.kIn fun tk => ?_
  exact ⟨.str nm, H1, J.kept (t' := s1.toks + 1 + 1) fun _ _ z => z, ⟨tk, rfl⟩, q⟩
end Own


namespace Own
open PySem PySem.Spec PyProof.Rows L2
/-! ### short names of readings -/
abbrev rAddI : R2 := rI0 fun i j => .int (i + j)
abbrev rSubI : R2 := rI0 fun i j => .int (i - j)
abbrev rMulI : R2 := rI CMul fun i j => .int (i * j)
abbrev rModI : R2 := rI (fun _ j => 0 < j) fun i j => .int (i % j)
abbrev rDivI : R2 := rI CDiv fun i j => .int (i / j)
abbrev rPowI : R2 := rI CPow fun i j => .int (i ^ j.toNat)
abbrev rNegI : V → Hp → VK → Prop := rU fun i => .int (-i)
abbrev rLtI : R2 := rI0 fun i j => .bl (decide (i < j))
abbrev rLeI : R2 := rI0 fun i j => .bl (decide (i ≤ j))
abbrev rGtI : R2 := rI0 fun i j => .bl (decide (j < i))
abbrev rGeI : R2 := rI0 fun i j => .bl (decide (j ≤ i))
abbrev rIsN : R2 := fun x y H Q => y = .non ∧ Q (.bl (decide (x = .non))) H
abbrev rNotN : R2 := fun x y H Q => y = .non ∧ Q (.bl (!decide (x = .non))) H
abbrev rTimes (K : PySem.W.Frag) : R2 := fun x y H Q => rRepT K x y H Q ∨ rOnce K x y H Q
abbrev rLenV (K : PySem.W.Frag) : List V → Hp → VK → Prop := fun xs H Q => ∃ x n, xs = [x] ∧ LenV K x H n ∧ Q (.int n) H
abbrev rMax2 : List V → Hp → VK → Prop := fun xs H Q => ∃ i j, xs = [.int i, .int j] ∧ Q (.int (if j > i then j else i)) H
abbrev rMin2 : List V → Hp → VK → Prop := fun xs H Q => ∃ i j, xs = [.int i, .int j] ∧ Q (.int (if j < i then j else i)) H
abbrev rInt1 : List V → Hp → VK → Prop := fun xs H Q => (∃ i, xs = [.int i] ∧ Q (.int i) H) ∨ ∃ k, xs = [.bl k] ∧ Q (.int (if k then 1 else 0)) H
abbrev rListOf (K : PySem.W.Frag) : List V → Hp → VK → Prop := fun xs H Q => ∃ p ys, xs = [.ref p] ∧ (SqL K H p ys ∨ SqT K H p ys) ∧ ∀ l, H l = none → Q (.ref l) (upd H l (.lst ys))
abbrev rTupOf (K : PySem.W.Frag) : List V → Hp → VK → Prop := fun xs H Q => ∃ p ys, xs = [.ref p] ∧ ((SqL K H p ys ∧ ∀ l, H l = none → Q (.ref l) (upd H l (.tup ys))) ∨ (SqT K H p ys ∧ Q (.ref p) H))
def tGo (sp : Sp) (t : TA) : TE := fun σ H Q => t σ H fun vs H1 => sp vs H1 Q E0
def tRaise (E : XK) (t : L2.St → Hp → XK → Prop) : TS := fun _ σ H => t σ H fun cls d H' => E cls d H'
def tTry (K : PySem.W.Frag) (C : Addr) (i : Nat) (tb : WX → TS) (ts : Addr → Value → Option Addr → TS) : TS := fun D σ H => tb (wAs K (.ref C) i ts (fun _ _ _ _ => False) D) D σ H
/-- a def of the text, at f, under its name -/
structure DefAt (K : PySem.W.Frag) (mg : Str → Option Value) (x : Str) (st : Stmt) (ps : List Str) (f : Addr) (fd : FuncData) : Prop where
  F : Fun K x x st f fd
  g : mg x = some (.ref f)
  b : Binds K fd ps []
/-- the __init__ of an error's class: self.what = what, self.name = its class's name -/
def spInit (K : PySem.W.Frag) : Sp := fun vs H Q _ => ∃ (a C : Addr) (v : V) (nm : Str), vs = [.ref a, v] ∧ OexC K C ∧ PySem.W.findIn K (.ref C) "what" = some none ∧ NmC K C nm ∧ H a = some (exo a C none) ∧
  ∀ dx, H dx = none → dx ≠ a → Q .non (upd (upd (upd H dx (exd dx [(("what" : Str), v)])) a (exo a C (some dx))) dx (exd dx [(("name" : Str), .str nm), (("what" : Str), v)]))
end Own


namespace Own
open PySem PySem.Spec PyProof.Rows L2
open Evl (Ex RetV)
/-! ### data without lists, of a bounded text -/
def fine : Nat → PyData → Bool
  | _, .none => true
  | _, .bool _ => true
  | _, .int i => decide (i.natAbs < 2 ^ 64)
  | _, .str x => decide ((reprText x).length ≤ 50) && PyData.canLay0 (.str x)
  | 0, _ => false
  | k + 1, .tuple xs => decide (xs.length ≤ 20) && xs.all (fine k)
  | _ + 1, _ => false
/-- no list, no table of code objects -/
structure Fx (o : HO) : Prop where
  l : ∀ xs, o ≠ .lst xs
  t : ∀ ps, o ≠ .tbl ps
/-- all but lists (and tables of code objects) is kept -/
def Kp (H H' : Hp) : Prop := ∀ a o, H a = some o → Fx o → H' a = some o
theorem Kp.refl (H : Hp) : Kp H H := fun _ _ h _ => h
theorem Kp.trans {H H1 H2 : Hp} (a : Kp H H1) (b : Kp H1 H2) : Kp H H2 := fun x o h n => b x o (a x o h n) n
theorem Kp.ex {H H' : Hp} (e : Ex H H') : Kp H H' := fun a o h _ => e a o h
theorem Kp.lst {H : Hp} {l : Addr} {xs ys : List V} (h : H l = some (.lst xs)) : Kp H (upd H l (.lst ys)) := fun a o q n => by
  by_cases e : a = l
  · subst e
    rw [h] at q
    injection q with q
    exact absurd q.symm (n.l xs)
  · rw [upd_ne e]
    exact q
theorem Kp.new {H : Hp} {l : Addr} {o : HO} (h : H l = none) : Kp H (upd H l o) := .ex (Evl.Ex.new h)
theorem Kp.rd {H H' : Hp} {a : Addr} {xs : List V} (e : Kp H H') (h : Rd H a (.tup xs)) : Rd H' a (.tup xs) := by
  rcases h with h | ⟨o, h⟩
  · exact .inl (e a _ h ⟨(fun _ z => by cases z), (fun _ z => by cases z)⟩)
  · exact .inr ⟨o, e a _ h ⟨(fun _ z => by cases z), (fun _ z => by cases z)⟩⟩
theorem Kp.sqT {K : PySem.W.Frag} {H H' : Hp} {a : Addr} {xs : List V} (e : Kp H H') (h : SqT K H a xs) : SqT K H' a xs := h.elim (fun h => .inl (e.rd h)) .inr
/-- v reads as d -/
structure Gd (K : PySem.W.Frag) (H : Hp) (k : Nat) (v : V) (d : PyData) : Prop where
  dp : Dp K H v d
  fn : fine k d = true
mutual
theorem dp_kp {K : PySem.W.Frag} {H H' : Hp} (e : Kp H H') : ∀ (d : PyData) (k : Nat) (v : V), Dp K H v d → fine k d = true → Dp K H' v d
  | .none, _, _, h, _ => by cases h; exact .non
  | .bool b, _, _, h, _ => by cases h; exact .bl b
  | .int i, _, _, h, _ => by cases h; exact .int i
  | .str x, _, _, h, _ => by cases h; exact .str x
  | .list ds, k, _, _, f => by cases k <;> simp [fine] at f
  | .tuple ds, 0, _, _, f => by simp [fine] at f
  | .tuple ds, k + 1, _, h, f => by
    cases h with
    | tup hs ha =>
      simp only [fine, Bool.and_eq_true, decide_eq_true_eq] at f
      exact .tup (e.sqT hs) (dpAll_kp e ds k _ ha (List.all_eq_true.mp f.2))
  | .dict _, _, _, h, _ => by cases h
theorem dpAll_kp {K : PySem.W.Frag} {H H' : Hp} (e : Kp H H') : ∀ (ds : List PyData) (k : Nat) (vs : List V), DpAll K H vs ds → (∀ d ∈ ds, fine k d = true) → DpAll K H' vs ds
  | [], _, _, h, _ => by cases h; exact .nil
  | d :: ds, k, _, h, f => by
    cases h with
    | cons h1 h2 => exact .cons (dp_kp e d k _ h1 (f d List.mem_cons_self)) (dpAll_kp e ds k _ h2 fun x hx => f x (List.mem_cons_of_mem _ hx))
end
theorem Gd.kp {K : PySem.W.Frag} {H H' : Hp} {k : Nat} {v : V} {d : PyData} (e : Kp H H') (g : Gd K H k v d) : Gd K H' k v d := ⟨dp_kp e d k v g.dp g.fn, g.fn⟩
theorem Gd.ex {K : PySem.W.Frag} {H H' : Hp} {k : Nat} {v : V} {d : PyData} (e : Ex H H') (g : Gd K H k v d) : Gd K H' k v d := g.kp (.ex e)
theorem fine_up : ∀ {k j : Nat} {d : PyData}, k ≤ j → fine k d = true → fine j d = true
  | k, j, .none, _, _ => by cases j <;> rfl
  | k, j, .bool _, _, _ => by cases j <;> rfl
  | k, j, .int i, _, h => by cases k <;> cases j <;> exact h
  | k, j, .str x, _, h => by cases k <;> cases j <;> exact h
  | 0, _, .list _, _, h => by simp [fine] at h
  | _ + 1, _, .list _, _, h => by simp [fine] at h
  | 0, _, .dict _, _, h => by simp [fine] at h
  | _ + 1, _, .dict _, _, h => by simp [fine] at h
  | 0, _, .tuple _, _, h => by simp [fine] at h
  | k + 1, 0, .tuple _, l, _ => by omega
  | k + 1, j + 1, .tuple xs, l, h => by
    simp only [fine, Bool.and_eq_true, decide_eq_true_eq, List.all_eq_true] at h ⊢
    exact ⟨h.1, fun d hd => fine_up (by omega) (h.2 d hd)⟩
theorem Gd.up {K : PySem.W.Frag} {H : Hp} {k j : Nat} {v : V} {d : PyData} (l : k ≤ j) (g : Gd K H k v d) : Gd K H j v d := ⟨g.dp, fine_up l g.fn⟩
/-! ### its text -/
def mostText : Nat → Nat
  | 0 => 50
  | k + 1 => 20 * (mostText k + 2) + 2
theorem mostText_ge : ∀ k, 50 ≤ mostText k
  | 0 => Nat.le_refl _
  | k + 1 => by have := mostText_ge k; show 50 ≤ 20 * (mostText k + 2) + 2; omega
theorem tuple_text (ts : List Str) : (tupleText ts).length ≤ piled ts + 2 := PySem.fmt_text ts
end Own
namespace Own
open PySem PySem.Spec PyProof.Rows L2
open Evl (Ex RetV)
theorem digits_len (i : Int) (h : i.natAbs < 2 ^ 64) : ((toString i : String) : Str).length ≤ 50 := by
  have e := int_text_length_le10 (a := i) (k := 20) (by decide) (Nat.lt_of_lt_of_le h (by decide))
  rw [PySem.ofString_length]
  omega
mutual
theorem text_le : ∀ (d : PyData) (k : Nat), fine k d = true → d.shown.length ≤ mostText k
  | .none, k, _ => Nat.le_trans (by simp only [PyData.shown]; decide +kernel) (mostText_ge k)
  | .bool true, k, _ => Nat.le_trans (by simp only [PyData.shown]; decide +kernel) (mostText_ge k)
  | .bool false, k, _ => Nat.le_trans (by simp only [PyData.shown]; decide +kernel) (mostText_ge k)
  | .int i, k, f => by
    have h : i.natAbs < 2 ^ 64 := by cases k <;> simpa [fine] using f
    simp only [PyData.shown]
    exact Nat.le_trans (digits_len i h) (mostText_ge k)
  | .str x, k, f => by
    have h : (reprText x).length ≤ 50 := by cases k <;> exact of_decide_eq_true (Bool.and_eq_true_iff.mp f).1
    simp only [PyData.shown]
    exact Nat.le_trans h (mostText_ge k)
  | .list _, k, f => by cases k <;> simp [fine] at f
  | .dict _, k, f => by cases k <;> simp [fine] at f
  | .tuple _, 0, f => by simp [fine] at f
  | .tuple xs, k + 1, f => by
    simp only [fine, Bool.and_eq_true, decide_eq_true_eq] at f
    have h1 := texts_le xs k (List.all_eq_true.mp f.2)
    have h2 := tuple_text (PyData.shownAll xs)
    simp only [PyData.shown]
    have h3 : xs.length * (mostText k + 2) ≤ 20 * (mostText k + 2) := Nat.mul_le_mul_right _ f.1
    show _ ≤ 20 * (mostText k + 2) + 2
    omega
theorem texts_le : ∀ (ds : List PyData) (k : Nat), (∀ d ∈ ds, fine k d = true) → piled (PyData.shownAll ds) ≤ ds.length * (mostText k + 2)
  | [], _, _ => by simp [PyData.shownAll, piled]
  | d :: ds, k, f => by
    have h1 := text_le d k (f d List.mem_cons_self)
    have h2 := texts_le ds k fun x hx => f x (List.mem_cons_of_mem _ hx)
    simp only [PyData.shownAll, piled_cons, List.length_cons, Nat.succ_mul]
    omega
end
mutual
theorem shows : ∀ (d : PyData) (k : Nat), fine k d = true → d.showable = true ∧ d.hasDict = false ∧ d.depth ≤ k + 1
  | .none, k, _ => ⟨rfl, rfl, by simp [PyData.depth]⟩
  | .bool _, k, _ => ⟨rfl, rfl, by simp [PyData.depth]⟩
  | .str x, k, _ => ⟨rfl, rfl, by simp [PyData.depth]⟩
  | .int i, k, f => by
    have h : i.natAbs < 2 ^ 64 := by cases k <;> simpa [fine] using f
    refine ⟨?_, rfl, by simp [PyData.depth]⟩
    simp only [PyData.showable, decide_eq_true_eq]
    by_cases z : i.natAbs = 0
    · rw [z]; decide
    · have := (Nat.log2_lt z).mpr h
      omega
  | .list _, k, f => by cases k <;> simp [fine] at f
  | .dict _, k, f => by cases k <;> simp [fine] at f
  | .tuple _, 0, f => by simp [fine] at f
  | .tuple xs, k + 1, f => by
    simp only [fine, Bool.and_eq_true, decide_eq_true_eq] at f
    have h := showsAll xs k (List.all_eq_true.mp f.2)
    refine ⟨by simpa only [PyData.showable] using h.1, by simpa only [PyData.hasDict] using h.2.1, ?_⟩
    simp only [PyData.depth]
    omega
theorem showsAll : ∀ (ds : List PyData) (k : Nat), (∀ d ∈ ds, fine k d = true) → PyData.showableAll ds = true ∧ PyData.hasDictAll ds = false ∧ PyData.depthAll ds ≤ k + 1
  | [], k, _ => ⟨rfl, rfl, by simp [PyData.depthAll]⟩
  | d :: ds, k, f => by
    have h1 := shows d k (f d List.mem_cons_self)
    have h2 := showsAll ds k fun x hx => f x (List.mem_cons_of_mem _ hx)
    refine ⟨by simp [PyData.showableAll, h1.1, h2.1], by simp [PyData.hasDictAll, h1.2.1, h2.2.1], ?_⟩
    simp only [PyData.depthAll]
    omega
end
end Own


namespace Own
open PySem PySem.Spec PyProof.Rows L2
open Evl (Ex RetV)
theorem kit_self {K : PySem.W.Frag} {C : Addr} : PySem.W.kitOne K (.ref C) (.ref C) = some true := if_pos (beq_self_eq_true _)
/-! ### what is asked of data -/
def tyOf : PyData → String
  | .none => "NoneType"
  | .bool _ => "bool"
  | .int _ => "int"
  | .str _ => "str"
  | .list _ => "list"
  | .tuple _ => "tuple"
  | .dict _ => "dict"
theorem tyx {K : PySem.W.Frag} {H : Hp} {v : V} {d : PyData} (h : Dp K H v d) (n : ∀ xs, d ≠ .list xs) : TyX K H v (.type (tyOf d)) := by
  cases h with
  | non => exact .base .non
  | bl b => exact .base (.bl b)
  | int i => exact .base (.int i)
  | str x => exact .base (.str x)
  | lst hs _ => exact absurd rfl (n _)
  | tup hs _ =>
    rcases hs with (h | ⟨o, h⟩) | ⟨o, its, n, h, hc, _⟩
    · exact .base (.tup h)
    · exact .fTuple h
    · exact .kTuple h hc
theorem fine_nl {k : Nat} {d : PyData} (f : fine k d = true) : ∀ xs, d ≠ .list xs := fun xs e => by
  subst e
  cases k <;> simp [fine] at f
theorem fine_nd {k : Nat} {d : PyData} (f : fine k d = true) : ∀ xs, d ≠ .dict xs := fun xs e => by
  subst e
  cases k <;> simp [fine] at f
/-- isinstance of data and a built-in type -/
theorem isi_d {K : PySem.W.Frag} {H : Hp} {k : Nat} {v : V} {d : PyData} {t : String} {b : Bool} {Q : VK} (g : Gd K H k v d) (e : kitB (tyOf d) t = some b) (q : Q (.bl b) H) : rIsi K [v, .ty t] H Q :=
  ⟨v, .ty t, _, .type t, b, rfl, .ty t, tyx g.dp (fine_nl g.fn), kit_ty e, q⟩
def isI : PyData → Bool
  | .bool _ => true
  | .int _ => true
  | _ => false
def isB : PyData → Bool
  | .bool _ => true
  | _ => false
def isT : PyData → Bool
  | .tuple _ => true
  | _ => false
theorem isi_int {K : PySem.W.Frag} {H : Hp} {k : Nat} {v : V} {d : PyData} {Q : VK} (g : Gd K H k v d) (q : Q (.bl (isI d)) H) : rIsi K [v, .ty "int"] H Q := by
  refine isi_d (b := isI d) g ?_ q
  cases d with
  | none => exact (by decide +kernel : kitB "NoneType" "int" = some false)
  | bool b => exact (by decide +kernel : kitB "bool" "int" = some true)
  | int i => exact (by decide +kernel : kitB "int" "int" = some true)
  | str x => exact (by decide +kernel : kitB "str" "int" = some false)
  | list xs => exact (by decide +kernel : kitB "list" "int" = some false)
  | tuple xs => exact (by decide +kernel : kitB "tuple" "int" = some false)
  | dict xs => exact (by decide +kernel : kitB "dict" "int" = some false)
theorem isi_bool {K : PySem.W.Frag} {H : Hp} {k : Nat} {v : V} {d : PyData} {Q : VK} (g : Gd K H k v d) (q : Q (.bl (isB d)) H) : rIsi K [v, .ty "bool"] H Q := by
  refine isi_d (b := isB d) g ?_ q
  cases d with
  | none => exact (by decide +kernel : kitB "NoneType" "bool" = some false)
  | bool b => exact (by decide +kernel : kitB "bool" "bool" = some true)
  | int i => exact (by decide +kernel : kitB "int" "bool" = some false)
  | str x => exact (by decide +kernel : kitB "str" "bool" = some false)
  | list xs => exact (by decide +kernel : kitB "list" "bool" = some false)
  | tuple xs => exact (by decide +kernel : kitB "tuple" "bool" = some false)
  | dict xs => exact (by decide +kernel : kitB "dict" "bool" = some false)
theorem isi_tup {K : PySem.W.Frag} {H : Hp} {k : Nat} {v : V} {d : PyData} {Q : VK} (g : Gd K H k v d) (q : Q (.bl (isT d)) H) : rIsi K [v, .ty "tuple"] H Q := by
  refine isi_d (b := isT d) g ?_ q
  cases d with
  | none => exact (by decide +kernel : kitB "NoneType" "tuple" = some false)
  | bool b => exact (by decide +kernel : kitB "bool" "tuple" = some false)
  | int i => exact (by decide +kernel : kitB "int" "tuple" = some false)
  | str x => exact (by decide +kernel : kitB "str" "tuple" = some false)
  | list xs => exact (by decide +kernel : kitB "list" "tuple" = some false)
  | tuple xs => exact (by decide +kernel : kitB "tuple" "tuple" = some true)
  | dict xs => exact (by decide +kernel : kitB "dict" "tuple" = some false)
/-- a number from lo to hi -/
def within (d : PyData) (lo hi : Int) : Bool := match d with
  | .int i => decide (lo ≤ i) && decide (i ≤ hi)
  | _ => false
theorem dpAll_len {K : PySem.W.Frag} {H : Hp} : ∀ {vs : List V} {ds : List PyData}, DpAll K H vs ds → vs.length = ds.length
  | _, _, .nil => rfl
  | _, _, .cons _ t => congrArg Nat.succ (dpAll_len t)
theorem dpAll_get {K : PySem.W.Frag} {H : Hp} : ∀ {vs : List V} {ds : List PyData} {i : Nat} {v : V}, DpAll K H vs ds → vs[i]? = some v → ∃ d, ds[i]? = some d ∧ Dp K H v d
  | _, _, _, _, .nil, e => by simp at e
  | _, _, 0, _, .cons h _, e => by simp at e; subst e; exact ⟨_, rfl, h⟩
  | _, _, i + 1, v, .cons _ t, e => by
    obtain ⟨d, h1, h2⟩ := dpAll_get (i := i) (v := v) t (by simpa using e)
    exact ⟨d, by simpa using h1, h2⟩
/-- a tuple of data: where it stands, its items -/
theorem Gd.tup {K : PySem.W.Frag} {H : Hp} {k : Nat} {v : V} {ds : List PyData} (g : Gd K H k v (.tuple ds)) : ∃ a xs j, v = .ref a ∧ k = j + 1 ∧ SqT K H a xs ∧ xs.length = ds.length ∧ ds.length ≤ 20 ∧ DpAll K H xs ds ∧ (∀ d ∈ ds, fine j d = true) ∧
    ∀ (i : Nat) (x : V), xs[i]? = some x → ∃ d, ds[i]? = some d ∧ Gd K H j x d := by
  obtain ⟨h, f⟩ := g
  cases h with
  | tup hs ha =>
    rename_i a xs
    match k, f with
    | 0, f => simp [fine] at f
    | j + 1, f =>
      simp only [fine, Bool.and_eq_true, decide_eq_true_eq] at f
      have fa := List.all_eq_true.mp f.2
      exact ⟨a, xs, j, rfl, rfl, hs, dpAll_len ha, f.1, ha, fa, fun i x e => let ⟨d, h1, h2⟩ := dpAll_get ha e; ⟨d, h1, h2, fa d (List.mem_of_getElem? h1)⟩⟩
/-- the text of data, asked -/
theorem show_d {K : PySem.W.Frag} {H : Hp} {k : Nat} {v : V} {d : PyData} {Q : VK} (g : Gd K H k v d) (hk : k ≤ 4) (q : Q (.str d.shown) H) : rShow K [v] H Q := by
  obtain ⟨h1, h2, h3⟩ := shows d k g.fn
  have h4 := text_le d k g.fn
  have h5 : mostText k ≤ sizeLine := by
    match k, hk with
    | 0, _ => decide
    | 1, _ => decide
    | 2, _ => decide
    | 3, _ => decide
    | 4, _ => decide
  exact ⟨v, d, rfl, g.dp, ⟨h1, h2, by omega, by omega⟩, q⟩
theorem gd_bl {K : PySem.W.Frag} {H : Hp} {b : Bool} : Gd K H 0 (.bl b) (.bool b) := ⟨.bl b, rfl⟩
theorem gd_int {K : PySem.W.Frag} {H : Hp} {i : Int} (h : i.natAbs < 2 ^ 64) : Gd K H 0 (.int i) (.int i) := ⟨.int i, decide_eq_true h⟩
theorem gd_non {K : PySem.W.Frag} {H : Hp} : Gd K H 0 .non .none := ⟨.non, rfl⟩
theorem gd_str {K : PySem.W.Frag} {H : Hp} {x : Str} (h : fine 0 (.str x) = true) : Gd K H 0 (.str x) (.str x) := ⟨.str x, h⟩
end Own


namespace Own
open PySem PySem.Spec PyProof.Rows L2
open Evl
section
variable {K : PySem.W.Frag} {σ : L2.St} {H H' : Hp} {ta tb tc te : TE} {x y v : V} {k : Nat} {d : PyData} {D : Ends}
theorem ev_isi {t : String} {b : Bool} (h : Ev ta σ H x) (r : ∀ H1, Ex H H1 → ∀ Q : VK, Q (.bl b) H1 → rIsi K [x, .ty t] H1 Q) : Ev (tCB (rIsi K) (tCons ta (tCons (tC (.ty t)) tNil))) σ H (.bl b) :=
  fun H1 e Q q => h H1 e _ fun H2 e2 => r H2 (e.trans e2) Q (q H2 e2)
theorem ev_isI (h : Ev ta σ H x) (g : Gd K H k x d) : Ev (tCB (rIsi K) (tCons ta (tCons (tC (.ty "int")) tNil))) σ H (.bl (isI d)) := ev_isi h fun _ e _ q => isi_int (g.ex e) q
theorem ev_isB (h : Ev ta σ H x) (g : Gd K H k x d) : Ev (tCB (rIsi K) (tCons ta (tCons (tC (.ty "bool")) tNil))) σ H (.bl (isB d)) := ev_isi h fun _ e _ q => isi_bool (g.ex e) q
theorem ev_isT (h : Ev ta σ H x) (g : Gd K H k x d) : Ev (tCB (rIsi K) (tCons ta (tCons (tC (.ty "tuple")) tNil))) σ H (.bl (isT d)) := ev_isi h fun _ e _ q => isi_tup (g.ex e) q
theorem ev_chain {i j l : Int} (ha : Ev ta σ H (.int i)) (hb : Ev tb σ H (.int j)) (hc : Ev tc σ H (.int l)) : Ev (tChain rLeI rLeI ta tb tc) σ H (.bl (decide (i ≤ j) && decide (j ≤ l))) :=
  fun H1 e Q q => ha H1 e _ fun H2 e2 => hb H2 (e.trans e2) _ fun H3 e3 => ⟨i, j, rfl, rfl, _, rfl, by
    by_cases c : i ≤ j
    · rw [decide_eq_true c]
      exact iteT (hc H3 ((e.trans e2).trans e3) _ fun H4 e4 => ⟨j, l, rfl, rfl, by simpa [c] using q H4 ((e2.trans e3).trans e4)⟩)
    · rw [decide_eq_false c]
      exact iteF (by simpa [c] using q H3 (e2.trans e3))⟩
theorem ev_lenT {a : Addr} {xs : List V} (h : Ev ta σ H (.ref a)) (hs : SqT K H a xs) : Ev (tCB (rLenV K) (tCons ta tNil)) σ H (.int (xs.length : Int)) :=
  fun H1 e Q q => h H1 e _ fun H2 e2 => ⟨_, _, rfl, .inr ⟨xs, ex_t (e.trans e2) hs, rfl⟩, q H2 e2⟩
theorem ev_lenL {a : Addr} {xs : List V} (h : Ev ta σ H (.ref a)) (hs : SqL K H a xs) : Ev (tCB (rLenV K) (tCons ta tNil)) σ H (.int (xs.length : Int)) :=
  fun H1 e Q q => h H1 e _ fun H2 e2 => ⟨_, _, rfl, .inl ⟨xs, ex_l (e.trans e2) hs, rfl⟩, q H2 e2⟩
theorem ev_addI {i j : Int} (ha : Ev ta σ H (.int i)) (hb : Ev tb σ H (.int j)) : Ev (tOp rAddI ta tb) σ H (.int (i + j)) := ev_op ha hb rv_I0
theorem ev_subI {i j : Int} (ha : Ev ta σ H (.int i)) (hb : Ev tb σ H (.int j)) : Ev (tOp rSubI ta tb) σ H (.int (i - j)) := ev_op ha hb rv_I0
theorem ev_mulI {i j : Int} (ha : Ev ta σ H (.int i)) (hb : Ev tb σ H (.int j)) (c : CMul i j) : Ev (tOp rMulI ta tb) σ H (.int (i * j)) := ev_op ha hb (rv_I (C := CMul) c)
theorem ev_modI {i j : Int} (ha : Ev ta σ H (.int i)) (hb : Ev tb σ H (.int j)) (c : 0 < j) : Ev (tOp rModI ta tb) σ H (.int (i % j)) := ev_op ha hb (rv_I (C := fun _ j => 0 < j) c)
theorem ev_ltI {i j : Int} (ha : Ev ta σ H (.int i)) (hb : Ev tb σ H (.int j)) : EvT (tTest (tOp rLtI ta tb)) σ H (decide (i < j)) := et_test (ev_op ha hb rv_I0)
theorem ev_leI {i j : Int} (ha : Ev ta σ H (.int i)) (hb : Ev tb σ H (.int j)) : EvT (tTest (tOp rLeI ta tb)) σ H (decide (i ≤ j)) := et_test (ev_op ha hb rv_I0)
theorem ev_gtI {i j : Int} (ha : Ev ta σ H (.int i)) (hb : Ev tb σ H (.int j)) : EvT (tTest (tOp rGtI ta tb)) σ H (decide (j < i)) := et_test (ev_op ha hb rv_I0)
theorem ev_geI {i j : Int} (ha : Ev ta σ H (.int i)) (hb : Ev tb σ H (.int j)) : EvT (tTest (tOp rGeI ta tb)) σ H (decide (j ≤ i)) := et_test (ev_op ha hb rv_I0)
theorem dec_int' {i j : Int} : decide (V.int i = V.int j) = decide (i = j) := by
  by_cases h : i = j
  · subst h; simp
  · simp [h]
theorem ev_eqI {i j : Int} (ha : Ev ta σ H (.int i)) (hb : Ev tb σ H (.int j)) : Ev (tOp rEq ta tb) σ H (.bl (decide (i = j))) := by
  rw [← dec_int']
  exact ev_op ha hb (rv_eq rfl)
theorem ev_neI {i j : Int} (ha : Ev ta σ H (.int i)) (hb : Ev tb σ H (.int j)) : Ev (tOp rNe ta tb) σ H (.bl (!decide (i = j))) := by
  rw [← dec_int']
  exact ev_op ha hb (rv_ne rfl)
theorem et_eqI {i j : Int} (ha : Ev ta σ H (.int i)) (hb : Ev tb σ H (.int j)) : EvT (tTest (tOp rEq ta tb)) σ H (decide (i = j)) := et_test (ev_eqI ha hb)
theorem et_neI {i j : Int} (ha : Ev ta σ H (.int i)) (hb : Ev tb σ H (.int j)) : EvT (tTest (tOp rNe ta tb)) σ H (!decide (i = j)) := et_test (ev_neI ha hb)
theorem ev_isN (ha : Ev ta σ H x) : Ev (tOp rIsN ta (tC .non)) σ H (.bl (decide (x = .non))) := fun H1 e Q q => ha H1 e _ fun H2 e2 => ⟨rfl, q H2 e2⟩
theorem ev_notN (ha : Ev ta σ H x) : Ev (tOp rNotN ta (tC .non)) σ H (.bl (!decide (x = .non))) := fun H1 e Q q => ha H1 e _ fun H2 e2 => ⟨rfl, q H2 e2⟩
theorem ev_min2 {i j : Int} (ha : Ev ta σ H (.int i)) (hb : Ev tb σ H (.int j)) : Ev (tCB rMin2 (tCons ta (tCons tb tNil))) σ H (.int (if j < i then j else i)) :=
  fun H1 e Q q => ha H1 e _ fun H2 e2 => hb H2 (e.trans e2) _ fun H3 e3 => ⟨i, j, rfl, q H3 (e2.trans e3)⟩
theorem ev_max2 {i j : Int} (ha : Ev ta σ H (.int i)) (hb : Ev tb σ H (.int j)) : Ev (tCB rMax2 (tCons ta (tCons tb tNil))) σ H (.int (if j > i then j else i)) :=
  fun H1 e Q q => ha H1 e _ fun H2 e2 => hb H2 (e.trans e2) _ fun H3 e3 => ⟨i, j, rfl, q H3 (e2.trans e3)⟩
theorem ev_int1 {i : Int} (ha : Ev ta σ H (.int i)) : Ev (tCB rInt1 (tCons ta tNil)) σ H (.int i) := fun H1 e Q q => ha H1 e _ fun H2 e2 => .inl ⟨i, rfl, q H2 e2⟩
theorem ev_intB {b : Bool} (ha : Ev ta σ H (.bl b)) : Ev (tCB rInt1 (tCons ta tNil)) σ H (.int (if b then 1 else 0)) := fun H1 e Q q => ha H1 e _ fun H2 e2 => .inr ⟨b, rfl, q H2 e2⟩
theorem ev_ixL {a : Addr} {xs : List V} {i : Int} (ha : Ev ta σ H (.ref a)) (hb : Ev tb σ H (.int i)) (hs : SqL K H a xs) (h : atI xs i = some v) : Ev (tOp (rIxL K) ta tb) σ H v := ev_op ha hb (rv_ixL hs h)
theorem ev_ixT {a : Addr} {xs : List V} {i : Int} (ha : Ev ta σ H (.ref a)) (hb : Ev tb σ H (.int i)) (hs : SqT K H a xs) (h : atI xs i = some v) : Ev (tOp (rIxT K) ta tb) σ H v := ev_op ha hb (rv_ixT hs h)
theorem ea_1 (h : Ev ta σ H x) : EvA (tCons ta tNil) σ H [x] := ea_cons h ea_nil
theorem ea_2 (h : Ev ta σ H x) (h2 : Ev tb σ H y) : EvA (tCons ta (tCons tb tNil)) σ H [x, y] := ea_cons h (ea_1 h2)
theorem ea_3 (h : Ev ta σ H x) (h2 : Ev tb σ H y) (h3 : Ev tc σ H v) : EvA (tCons ta (tCons tb (tCons tc tNil))) σ H [x, y, v] := ea_cons h (ea_2 h2 h3)
/-- a promise of a value alone, as Evl has it -/
theorem spv {sp : Sp} {vs : List V} {z : V} (h : ∀ H1, Ex H H1 → ∀ Q : VK, RetV z H1 Q → ∀ E : XK, sp vs H1 Q E) : SpV sp vs H z := fun H1 e Q q E => h H1 e Q q E
end
end Own


namespace Own
open PySem PySem.Spec PyProof.Rows L2
open Evl
section
variable {K : PySem.W.Frag} {σ : L2.St} {H H' : Hp} {ta tb tc te : TE} {t : TT} {x y v : V} {k : Nat} {d : PyData} {D : Ends}
/-- over a range from lo -/
theorem el_lcRg {ta : TA} {j : Nat} {vs : List Nat} {lo hi : Int} (f : Nat → Bool) (v : Nat → V) (h : EvA ta σ H [.int lo, .int hi]) (h1 : 0 ≤ lo ∧ lo ≤ 100000) (h2 : lo ≤ hi ∧ hi ≤ lo + 40000) (hw : ∀ x, wipe ((wipe σ vs).set j (some x)) vs = wipe σ vs)
    (ht : ∀ (i : Nat) H1, Ex H H1 → (i : Int) < hi - lo → EvT t ((wipe σ vs).set j (some (.int (lo + (i : Int))))) H1 (f i)) (he : ∀ (i : Nat) H1, Ex H H1 → (i : Int) < hi - lo → f i = true → Ev te ((wipe σ vs).set j (some (.int (lo + (i : Int))))) H1 (v i)) :
    EvL (tLc (iRng2 ta) (gName j) t te vs) σ H (given (hi - lo).toNat f v) := fun H0 e Q q => h H0 e _ fun H1 e1 => ⟨lo, hi, rfl, ⟨by omega, by omega, by omega, by omega⟩, fun Dl hD =>
  lc_range (lo := lo) (n := (hi - lo).toNat) (Cw H1 f v Dl) ⟨hD, Ex.new hD, upd_same⟩
    (fun i H' hi p => ⟨hw _, cw_turn p (by omega) (ht i H1 (e.trans e1) (by omega)) (fun hf => he i H1 (e.trans e1) (by omega) hf)⟩) (fun H' p => q Dl H' (fresh_back e1 p.1) (e1.trans p.2.1) p.2.2)⟩
/-- over a tuple -/
theorem el_lcTp {a : Addr} {xs : List V} {tl : TE} {j : Nat} {vs : List Nat} (f : Nat → Bool) (v : Nat → V) (h : Ev tl σ H (.ref a)) (hx : SqT K H a xs) (hz : xs.length ≤ 40000) (hw : ∀ x, wipe ((wipe σ vs).set j (some x)) vs = wipe σ vs)
    (ht : ∀ (i : Nat) (x : V) H1, Ex H H1 → xs[i]? = some x → EvT t ((wipe σ vs).set j (some x)) H1 (f i)) (he : ∀ (i : Nat) (x : V) H1, Ex H H1 → xs[i]? = some x → f i = true → Ev te ((wipe σ vs).set j (some x)) H1 (v i)) :
    EvL (tLc (iTup K tl) (gName j) t te vs) σ H (given xs.length f v) := fun H0 e Q q => h H0 e _ fun H1 e1 => ⟨a, rfl, ⟨xs, ex_t (e.trans e1) hx⟩, fun Dl hD =>
  lc_tup (xs := xs) (Cw H1 f v Dl) ⟨hD, Ex.new hD, upd_same⟩ (fun i H' _ p => ex_t ((e.trans e1).trans p.2.1) hx)
    (fun i x H' hi p => ⟨hw x, cw_turn p (by have := (List.getElem?_eq_some_iff.mp hi).1; omega) (ht i x H1 (e.trans e1) hi) (fun hf => he i x H1 (e.trans e1) hi hf)⟩) (fun H' p => q Dl H' (fresh_back e1 p.1) (e1.trans p.2.1) p.2.2)⟩
theorem et_yes : EvT tYes σ H true := fun H1 e Q q => q H1 (.refl _)
mutual
theorem fine_lay : ∀ (d : PyData) (k : Nat), fine k d = true → d.canLay0 = true
  | .none, _, _ => rfl
  | .bool _, _, _ => rfl
  | .int _, _, _ => rfl
  | .str x, k, f => by cases k <;> exact (Bool.and_eq_true_iff.mp f).2
  | .list _, k, f => by cases k <;> simp [fine] at f
  | .dict _, k, f => by cases k <;> simp [fine] at f
  | .tuple _, 0, f => by simp [fine] at f
  | .tuple xs, k + 1, f => by
    simp only [fine, Bool.and_eq_true, decide_eq_true_eq] at f
    have h := fine_layAll xs k (List.all_eq_true.mp f.2)
    simpa only [PyData.canLay0] using h
theorem fine_layAll : ∀ (ds : List PyData) (k : Nat), (∀ d ∈ ds, fine k d = true) → PyData.canLayAll0 ds = true
  | [], _, _ => rfl
  | d :: ds, k, f => by
    have h1 := fine_lay d k (f d List.mem_cons_self)
    have h2 := fine_layAll ds k fun x hx => f x (List.mem_cons_of_mem _ hx)
    simp [PyData.canLayAll0, h1, h2]
end
theorem fine_shaped {d : PyData} {k : Nat} (hk : k ≤ 60) (f : fine k d = true) : SeqAt.shaped d = true := by
  unfold SeqAt.shaped
  rw [fine_lay d k f, decide_eq_true (show d.depth ≤ 64 by have := (shows d k f).2.2; omega)]
  rfl
/-- a list of data -/
inductive GdAll (K : PySem.W.Frag) (H : Hp) (k : Nat) : List V → List PyData → Prop
  | nil : GdAll K H k [] []
  | cons {v : V} {vs : List V} {d : PyData} {ds : List PyData} : Gd K H k v d → GdAll K H k vs ds → GdAll K H k (v :: vs) (d :: ds)
theorem GdAll.dp {k : Nat} : ∀ {vs : List V} {ds : List PyData}, GdAll K H k vs ds → DpAll K H vs ds ∧ ∀ d ∈ ds, fine k d = true
  | _, _, .nil => ⟨.nil, fun _ h => absurd h List.not_mem_nil⟩
  | _, _, .cons g t => ⟨.cons g.dp t.dp.1, fun d h => by
    rcases List.mem_cons.mp h with e | e
    · rw [e]; exact g.fn
    · exact t.dp.2 d e⟩
theorem gdAll_of {k : Nat} : ∀ {vs : List V}, (∀ v ∈ vs, ∃ d, Gd K H k v d) → ∃ ds, GdAll K H k vs ds
  | [], _ => ⟨[], .nil⟩
  | v :: vs, h => by
    obtain ⟨d, g⟩ := h v List.mem_cons_self
    obtain ⟨ds, gs⟩ := gdAll_of (vs := vs) fun x hx => h x (List.mem_cons_of_mem _ hx)
    exact ⟨d :: ds, .cons g gs⟩
theorem gdAll_len {k : Nat} : ∀ {vs : List V} {ds : List PyData}, GdAll K H k vs ds → vs.length = ds.length
  | _, _, .nil => rfl
  | _, _, .cons _ t => congrArg Nat.succ (gdAll_len t)
theorem GdAll.kp {k : Nat} (e : Kp H H') : ∀ {vs : List V} {ds : List PyData}, GdAll K H k vs ds → GdAll K H' k vs ds
  | _, _, .nil => .nil
  | _, _, .cons g t => .cons (g.kp e) (t.kp e)
theorem GdAll.up {k j : Nat} (l : k ≤ j) : ∀ {vs : List V} {ds : List PyData}, GdAll K H k vs ds → GdAll K H j vs ds
  | _, _, .nil => .nil
  | _, _, .cons g t => .cons (g.up l) (t.up l)
theorem GdAll.app {k : Nat} : ∀ {vs ws : List V} {ds es : List PyData}, GdAll K H k vs ds → GdAll K H k ws es → GdAll K H k (vs ++ ws) (ds ++ es)
  | _, _, _, _, .nil, h => h
  | _, _, _, _, .cons g t, h => .cons g (t.app h)
theorem gd_tup {k : Nat} {a : Addr} {vs : List V} {ds : List PyData} (hs : SqT K H a vs) (g : GdAll K H k vs ds) (hl : vs.length ≤ 20) : Gd K H (k + 1) (.ref a) (.tuple ds) :=
  ⟨.tup hs g.dp.1, by
    simp only [fine, Bool.and_eq_true, decide_eq_true_eq]
    exact ⟨by rw [← gdAll_len g]; exact hl, List.all_eq_true.mpr g.dp.2⟩⟩
theorem shaped_list {k : Nat} (hk : k ≤ 60) {ds : List PyData} (f : ∀ d ∈ ds, fine k d = true) : SeqAt.shaped (.list ds) = true := by
  unfold SeqAt.shaped
  have h1 : PyData.canLay0 (.list ds) = true := by simpa only [PyData.canLay0] using fine_layAll ds k f
  have h2 := (showsAll ds k f).2.2
  rw [h1, decide_eq_true (show (PyData.list ds).depth ≤ 64 by simp only [PyData.depth]; omega)]
  rfl
/-- a list of data against the empty one -/
theorem eqD_nil {p q : Addr} {vs : List V} {ds : List PyData} {k : Nat} {Q : VK} (hk : k ≤ 60) (h1 : SqL K H p vs) (g : GdAll K H k vs ds) (h2 : SqL K H q []) (w : Q (.bl (vs.isEmpty)) H) : rEqD K (.ref p) (.ref q) H Q :=
  ⟨.list ds, .list [], .lst h1 g.dp.1, .lst h2 .nil, shaped_list hk g.dp.2, rfl, by
    have e : PyData.eqv (.list ds) (.list []) = vs.isEmpty := by
      cases g <;> simp [PyData.eqv, PyData.eqvAll]
    rw [e]
    exact w⟩
theorem neD_nil {p q : Addr} {vs : List V} {ds : List PyData} {k : Nat} {Q : VK} (hk : k ≤ 60) (h1 : SqL K H p vs) (g : GdAll K H k vs ds) (h2 : SqL K H q []) (w : Q (.bl (!vs.isEmpty)) H) : rNeD K (.ref p) (.ref q) H Q :=
  ⟨.list ds, .list [], .lst h1 g.dp.1, .lst h2 .nil, shaped_list hk g.dp.2, rfl, by
    have e : PyData.eqv (.list ds) (.list []) = vs.isEmpty := by
      cases g <;> simp [PyData.eqv, PyData.eqvAll]
    rw [e]
    exact w⟩
theorem ev_eqNil {vs : List V} {ds : List PyData} {k : Nat} (hk : k ≤ 60) (h : EvL ta σ H vs) (g : GdAll K H k vs ds) : Ev (tOp (rEqD K) ta (tLst tNil)) σ H (.bl vs.isEmpty) :=
  ev_opLL h (el_lst ea_nil (Nat.zero_le _)) fun p q H1 hp hq e H2 e2 Q w => eqD_nil hk (sq_of (e2 p _ hp)) (g.kp (.ex (e.trans e2))) (sq_of (e2 q _ hq)) (w H2 (.refl _))
theorem ev_neNil {vs : List V} {ds : List PyData} {k : Nat} (hk : k ≤ 60) (h : EvL ta σ H vs) (g : GdAll K H k vs ds) : Ev (tOp (rNeD K) ta (tLst tNil)) σ H (.bl (!vs.isEmpty)) :=
  ev_opLL h (el_lst ea_nil (Nat.zero_le _)) fun p q H1 hp hq e H2 e2 Q w => neD_nil hk (sq_of (e2 p _ hp)) (g.kp (.ex (e.trans e2))) (sq_of (e2 q _ hq)) (w H2 (.refl _))
theorem given_empty : ∀ (n : Nat) (f : Nat → Bool) (v : Nat → V), (given n f v).isEmpty = (List.range n).all fun i => !f i := fun n f v => by
  unfold given
  induction n with
  | zero => rfl
  | succ n ih =>
    rw [List.range_succ, List.filter_append, List.map_append, List.all_append]
    cases h : f n with
    | true => simp [h]
    | false =>
      simp only [List.all_cons, List.all_nil, h, Bool.not_false, Bool.and_true]
      rw [← ih]
      simp [h]
theorem given_mem {n : Nat} {f : Nat → Bool} {v : Nat → V} {y : V} (h : y ∈ given n f v) : ∃ i, i < n ∧ f i = true ∧ y = v i := by
  unfold given at h
  obtain ⟨i, hi, e⟩ := List.mem_map.mp h
  obtain ⟨h1, h2⟩ := List.mem_filter.mp hi
  exact ⟨i, List.mem_range.mp h1, h2, e.symm⟩
end
end Own


namespace Own
/-! ### numbers that nothing divides -/
def noDiv (p : Int) : Bool := (List.range 999).all fun i => !(decide ((2 + (i : Int)) * (2 + (i : Int)) ≤ p) && decide (p % (2 + (i : Int)) = 0))
theorem noDiv_iff {p : Int} (hp : p ≤ 1000003) : noDiv p = true ↔ ∀ e : Int, 2 ≤ e → e * e ≤ p → p % e ≠ 0 := by
  unfold noDiv
  rw [List.all_eq_true]
  constructor
  · intro h e h2 hm z
    have he : e ≤ 1000 := by
      refine Int.not_lt.mp fun c => ?_
      have : 1001 * 1001 ≤ e * e := Int.mul_le_mul (by omega) (by omega) (by omega) (by omega)
      omega
    have := h (e - 2).toNat (List.mem_range.mpr (by omega))
    have e1 : (2 : Int) + ((e - 2).toNat : Int) = e := by omega
    rw [e1] at this
    simp [hm, z] at this
  · intro h i hi
    by_cases c : (2 + (i : Int)) * (2 + (i : Int)) ≤ p
    · have := h (2 + (i : Int)) (by omega) c
      simp [c, this]
    · simp [c]
theorem noDiv_small {p : Int} (h2 : 2 ≤ p) (h : p < 4) : noDiv p = true := (noDiv_iff (by omega)).mpr fun e h2 hm => by
  have : 2 * 2 ≤ e * e := Int.mul_le_mul h2 h2 (by omega) (by omega)
  omega
theorem noDiv_even {p : Int} (h4 : 4 ≤ p) (hp : p ≤ 1000003) (h : p % 2 = 0) : noDiv p = false := by
  refine Bool.eq_false_iff.mpr fun z => ?_
  exact (noDiv_iff hp).mp z 2 (by omega) (by omega) h
theorem noDiv_found {p m : Int} (hp : p ≤ 1000003) (h2 : 2 ≤ m) (hm : m * m ≤ p) (h : p % m = 0) : noDiv p = false := by
  refine Bool.eq_false_iff.mpr fun z => ?_
  exact (noDiv_iff hp).mp z m h2 hm h
/-- what the odd search knows at m -/
def Sought (p m : Int) : Prop := m % 2 = 1 ∧ 3 ≤ m ∧ ∀ e : Int, 2 ≤ e → e < m → p % e ≠ 0
theorem Sought.start {p : Int} (h : p % 2 ≠ 0) : Sought p 3 := ⟨by omega, by omega, fun e h1 h2 => by
  have : e = 2 := by omega
  rw [this]
  exact h⟩
theorem Sought.next {p m : Int} (h0 : p % 2 ≠ 0) (s : Sought p m) (h : p % m ≠ 0) : Sought p (m + 2) := by
  obtain ⟨a, b, c⟩ := s
  refine ⟨by omega, by omega, fun e h1 h2 => ?_⟩
  by_cases e1 : e < m
  · exact c e h1 e1
  · by_cases e2 : e = m
    · rw [e2]; exact h
    · have e3 : e = m + 1 := by omega
      intro z
      have d : e ∣ p := Int.dvd_of_emod_eq_zero z
      have d2 : (2 : Int) ∣ e := Int.dvd_of_emod_eq_zero (by omega)
      have d3 : (2 : Int) ∣ p := Int.dvd_trans d2 d
      have := Int.emod_eq_zero_of_dvd d3
      exact h0 this
theorem Sought.done {p m : Int} (hp : p ≤ 1000003) (s : Sought p m) (h : ¬ m * m ≤ p) : noDiv p = true := (noDiv_iff hp).mpr fun e h2 hm => by
  refine s.2.2 e h2 (Int.not_le.mp fun c => ?_)
  have : m * m ≤ e * e := Int.mul_le_mul c c (by have := s.2.1; omega) (by omega)
  omega
theorem Sought.small {p m : Int} (hp : p ≤ 1000003) (s : Sought p m) (h : m * m ≤ p) : m ≤ 1000 := by
  refine Int.not_lt.mp fun c => ?_
  have : 1001 * 1001 ≤ m * m := Int.mul_le_mul (by omega) (by omega) (by omega) (by omega)
  omega
end Own


namespace Own
open PySem PySem.Spec PyProof.Rows L2
open Evl
section
variable {K : PySem.W.Frag} {σ : L2.St} {H H' : Hp} {ta tb tc te : TE} {t u : TT} {x y v : V} {k : Nat} {d : PyData} {D : Ends}
theorem ev_allB {bs : List Bool} (h : EvL ta σ H (bs.map V.bl)) : Ev (tCB (rAll K) (tCons ta tNil)) σ H (.bl (bs.all id)) :=
  fun H1 e Q q => h H1 e _ fun p H2 hp e2 hl => ⟨p, bs, rfl, sq_of hl, q H2 e2⟩
theorem given_true (n : Nat) (v : Nat → V) : given n (fun _ => true) v = (List.range n).map v := by
  unfold given
  rw [List.filter_eq_self.mpr fun _ _ => rfl]
theorem range_getD {α β : Type} (ds : List α) (z : α) (f : α → β) : ((List.range ds.length).map fun i => f (ds.getD i z)) = ds.map f := by
  apply List.ext_getElem
  · simp
  · intro i h1 h2
    simp at h1
    simp [List.getD_eq_getElem?_getD, h1]
/-- all(f(x) for the items of a tuple of data) -/
theorem given_bools {α : Type} (ds : List α) (z : α) (f : α → Bool) : given ds.length (fun _ => true) (fun i => V.bl (f (ds.getD i z))) = (ds.map f).map V.bl := by
  rw [given_true, ← range_getD ds z f, List.map_map]
  rfl
theorem all_id {α : Type} (ds : List α) (f : α → Bool) : (ds.map f).all id = ds.all f := by
  rw [List.all_map]
  rfl
theorem getD_at {ds : List PyData} {i : Nat} {d : PyData} (h : ds[i]? = some d) (z : PyData) : ds.getD i z = d := by
  rw [List.getD_eq_getElem?_getD, h]
  rfl
theorem et_false_or {a : Bool} (h1 : EvT t σ H a) (e : a = true) : EvT (tOr t u) σ H true := by
  subst e
  exact fun H1 e Q q => h1 H1 e _ fun H2 e2 => iteT (q H2 e2)
/-- a number's test as an option's -/
def optV : Option Int → V
  | none => .non
  | some i => .int i
theorem optV_non (o : Option Int) : decide (optV o = .non) = o.isNone := by cases o <;> simp [optV]
end
end Own


namespace Own
open PySem PySem.Spec PyProof.Rows L2
open Evl
/-! ### a source of numbers: a list of two, that every draw changes -/
def Src (H : Hp) (a : Addr) : Prop := ∃ big mixed : Int, H a = some (.lst [.int big, .int mixed]) ∧ 0 ≤ big ∧ 0 ≤ mixed ∧ mixed < 2147483647
/-- all but the source at a is kept -/
structure Up (a : Addr) (H H' : Hp) : Prop where
  keep : ∀ b o, b ≠ a → H b = some o → H' b = some o
  src : Src H' a
theorem Up.refl {a : Addr} {H : Hp} (h : Src H a) : Up a H H := ⟨fun _ _ _ h => h, h⟩
theorem Up.trans {a : Addr} {H H1 H2 : Hp} (x : Up a H H1) (y : Up a H1 H2) : Up a H H2 := ⟨fun b o n h => y.keep b o n (x.keep b o n h), y.src⟩
theorem Src.ex {a : Addr} {H H' : Hp} (e : Ex H H') (s : Src H a) : Src H' a := let ⟨x, y, h, r⟩ := s; ⟨x, y, e a _ h, r⟩
theorem Up.ex {a : Addr} {H H' : Hp} (e : Ex H H') (s : Src H a) : Up a H H' := ⟨fun b o _ h => e b o h, s.ex e⟩
theorem Up.kp {a : Addr} {H H' : Hp} (s : Src H a) (u : Up a H H') : Kp H H' := fun b o h n => by
  by_cases e : b = a
  · subst e
    obtain ⟨x, y, q, _⟩ := s
    rw [h] at q
    injection q with q
    exact absurd q (n.l _)
  · exact u.keep b o e h
theorem Src.at {a b : Addr} {H : Hp} {o : HO} (s : Src H a) (h : H b = some o) (n : ∀ xs, o ≠ .lst xs) : b ≠ a := fun e => by
  subst e
  obtain ⟨x, y, q, _⟩ := s
  rw [h] at q
  injection q with q
  exact n _ q
theorem Src.new {a b : Addr} {H : Hp} (s : Src H a) (h : H b = none) : b ≠ a := fun e => by
  subst e
  obtain ⟨x, y, q, _⟩ := s
  rw [h] at q
  cases q
/-- a tuple stands -/
theorem Up.sqT {K : PySem.W.Frag} {a b : Addr} {H H' : Hp} {xs : List V} (s : Src H a) (u : Up a H H') (h : SqT K H b xs) : SqT K H' b xs := (u.kp s).sqT h
theorem Up.gd {K : PySem.W.Frag} {a : Addr} {H H' : Hp} {k : Nat} {v : V} {d : PyData} (s : Src H a) (u : Up a H H') (g : Gd K H k v d) : Gd K H' k v d := g.kp (u.kp s)
abbrev VP := V → Hp → Prop
def Mono (a : Addr) (P : VP) : Prop := ∀ v H H', Src H a → Up a H H' → P v H → P v H'
/-- te gives a value of which P is so, and changes nothing but the source -/
def EvS (a : Addr) (te : TE) (σ : L2.St) (H : Hp) (P : VP) : Prop := ∀ H1, Up a H H1 → ∀ Q : VK, (∀ v H2, Up a H1 H2 → P v H2 → Q v H2) → te σ H1 Q
/-- n values, of each of which P is so -/
def EvSA (a : Addr) (ta : TA) (σ : L2.St) (H : Hp) (n : Nat) (P : VP) : Prop := ∀ H1, Up a H H1 → ∀ Q : List V → Hp → Prop, (∀ vs H2, Up a H1 H2 → vs.length = n → (∀ v ∈ vs, P v H2) → Q vs H2) → ta σ H1 Q
def PInt (lo hi : Int) : VP := fun v _ => ∃ i, v = .int i ∧ lo ≤ i ∧ i ≤ hi
def PDat (K : PySem.W.Frag) (k : Nat) : VP := fun v H => ∃ d, Gd K H k v d
theorem mono_int {a : Addr} {lo hi : Int} : Mono a (PInt lo hi) := fun _ _ _ _ _ h => h
theorem mono_dat {K : PySem.W.Frag} {a : Addr} {k : Nat} : Mono a (PDat K k) := fun _ _ _ s u ⟨d, g⟩ => ⟨d, u.gd s g⟩
/-- a list at an address of its own, of things of which P is so -/
def PLst (a : Addr) (n : Nat) (P : VP) : VP := fun v H => ∃ b xs, v = .ref b ∧ b ≠ a ∧ H b = some (.lst xs) ∧ xs.length = n ∧ ∀ x ∈ xs, P x H
theorem mono_lst {a : Addr} {n : Nat} {P : VP} (m : Mono a P) : Mono a (PLst a n P) := fun _ _ _ s u ⟨b, xs, e, nb, hb, hl, hp⟩ => ⟨b, xs, e, nb, u.keep b _ nb hb, hl, fun x hx => m x _ _ s u (hp x hx)⟩
section
variable {K : PySem.W.Frag} {a : Addr} {σ : L2.St} {H H' : Hp} {te ta tb : TE} {P R S : VP} {D : Ends} {tz tu : TS}
theorem es_c {v : V} (h : ∀ H1, P v H1) : EvS a (tC v) σ H P := fun H1 u Q q => q v H1 (.refl u.src) (h H1)
theorem es_int {i lo hi : Int} (h1 : lo ≤ i) (h2 : i ≤ hi) : EvS a (tC (.int i)) σ H (PInt lo hi) := es_c fun _ => ⟨i, rfl, h1, h2⟩
theorem es_var {i : Nat} {v : V} (e : σ[i]? = some (some v)) (h : ∀ H1, Up a H H1 → P v H1) : EvS a (tVar i) σ H P := fun H1 u Q q => ⟨v, e, q v H1 (.refl u.src) (h H1 u)⟩
theorem es_vint {i : Nat} {j lo hi : Int} (e : σ[i]? = some (some (.int j))) (h1 : lo ≤ j) (h2 : j ≤ hi) : EvS a (tVar i) σ H (PInt lo hi) := es_var e fun _ _ => ⟨j, rfl, h1, h2⟩
theorem es_imp (h : EvS a te σ H P) (i : ∀ v H1, P v H1 → R v H1) : EvS a te σ H R := fun H1 u Q q => h H1 u Q fun v H2 u2 p => q v H2 u2 (i v H2 p)
theorem es_op {r : R2} (ha : EvS a ta σ H P) (hb : EvS a tb σ H R) (m : Mono a P) (hr : ∀ x y H1, Up a H H1 → P x H1 → R y H1 → ∀ Q : VK, (∀ z H2, Up a H1 H2 → S z H2 → Q z H2) → r x y H1 Q) : EvS a (tOp r ta tb) σ H S :=
  fun H1 u Q q => ha H1 u _ fun x H2 u2 p => hb H2 (u.trans u2) _ fun y H3 u3 p3 => hr x y H3 ((u.trans u2).trans u3) (m x H2 H3 u2.src u3 p) p3 Q fun z H4 u4 s => q z H4 ((u2.trans u3).trans u4) s
theorem es_add {l1 h1 l2 h2 : Int} (ha : EvS a ta σ H (PInt l1 h1)) (hb : EvS a tb σ H (PInt l2 h2)) : EvS a (tOp rAddI ta tb) σ H (PInt (l1 + l2) (h1 + h2)) :=
  es_op ha hb mono_int fun x y H1 u ⟨i, ei, a1, a2⟩ ⟨j, ej, b1, b2⟩ Q q => ⟨i, j, ei, ej, q _ H1 (.refl u.src) ⟨_, rfl, by omega, by omega⟩⟩
theorem es_sub {l1 h1 l2 h2 : Int} (ha : EvS a ta σ H (PInt l1 h1)) (hb : EvS a tb σ H (PInt l2 h2)) : EvS a (tOp rSubI ta tb) σ H (PInt (l1 - h2) (h1 - l2)) :=
  es_op ha hb mono_int fun x y H1 u ⟨i, ei, a1, a2⟩ ⟨j, ej, b1, b2⟩ Q q => ⟨i, j, ei, ej, q _ H1 (.refl u.src) ⟨_, rfl, by omega, by omega⟩⟩
theorem es_wide {l1 h1 l2 h2 : Int} (h : EvS a te σ H (PInt l1 h1)) (e1 : l2 ≤ l1) (e2 : h1 ≤ h2) : EvS a te σ H (PInt l2 h2) := es_imp h fun _ _ ⟨i, e, b1, b2⟩ => ⟨i, e, by omega, by omega⟩
theorem es_min {l1 h1 l2 h2 : Int} (ha : EvS a ta σ H (PInt l1 h1)) (hb : EvS a tb σ H (PInt l2 h2)) : EvS a (tCB rMin2 (tCons ta (tCons tb tNil))) σ H (PInt (min l1 l2) (min h1 h2)) :=
  fun H1 u Q q => ha H1 u _ fun x H2 u2 ⟨i, ei, a1, a2⟩ => hb H2 (u.trans u2) _ fun y H3 u3 ⟨j, ej, b1, b2⟩ => ⟨i, j, by rw [ei, ej], q _ H3 (u2.trans u3) ⟨_, rfl, by split <;> omega, by split <;> omega⟩⟩
theorem ea_nilS : EvSA a tNil σ H 0 P := fun H1 u Q q => q [] H1 (.refl u.src) rfl fun _ h => absurd h List.not_mem_nil
theorem ea_consS {ta : TA} {n : Nat} (h : EvS a te σ H P) (hr : EvSA a ta σ H n P) (m : Mono a P) : EvSA a (tCons te ta) σ H (n + 1) P :=
  fun H1 u Q q => h H1 u _ fun v H2 u2 p => hr H2 (u.trans u2) _ fun vs H3 u3 hl hp => q (v :: vs) H3 (u2.trans u3) (by rw [List.length_cons, hl]) fun x hx => by
    rcases List.mem_cons.mp hx with e | e
    · rw [e]; exact m v H2 H3 u2.src u3 p
    · exact hp x e
/-- a new list -/
theorem es_lst {ta : TA} {n : Nat} (h : EvSA a ta σ H n P) (hn : n ≤ 1000) (m : Mono a P) : EvS a (tLst ta) σ H (PLst a n P) :=
  fun H1 u Q q => h H1 u _ fun vs H2 u2 hl hp => ⟨sz_of (by omega), fun p np => q _ _ (u2.trans (.ex (Ex.new np) u2.src))
    ⟨p, vs, rfl, u2.src.new np, upd_same, hl, fun x hx => m x _ _ u2.src (.ex (Ex.new np) u2.src) (hp x hx)⟩⟩
/-- a new tuple -/
def PTup (K : PySem.W.Frag) (n : Nat) (P : VP) : VP := fun v H => ∃ b xs, v = .ref b ∧ SqT K H b xs ∧ xs.length = n ∧ ∀ x ∈ xs, P x H
theorem mono_tup {n : Nat} {P : VP} (m : Mono a P) : Mono a (PTup K n P) := fun _ _ _ s u ⟨b, xs, e, hb, hl, hp⟩ => ⟨b, xs, e, u.sqT s hb, hl, fun x hx => m x _ _ s u (hp x hx)⟩
theorem es_tup {ta : TA} {n : Nat} (h : EvSA a ta σ H n P) (hn : n ≤ 1000) (m : Mono a P) : EvS a (tTup ta) σ H (PTup K n P) :=
  fun H1 u Q q => h H1 u _ fun vs H2 u2 hl hp => ⟨sz_of (by omega), fun p np => q _ _ (u2.trans (.ex (Ex.new np) u2.src))
    ⟨p, vs, rfl, st_of upd_same, hl, fun x hx => m x _ _ u2.src (.ex (Ex.new np) u2.src) (hp x hx)⟩⟩
theorem ss_asg {i : Nat} (s : Src H a) (h : EvS a te σ H P) (k : ∀ v H1, Up a H H1 → P v H1 → tz D (σ.set i (some v)) H1) : tSeq (tAsg te (gName i)) tz D σ H := h H (.refl s) _ fun v H2 u p => k v H2 u p
theorem ss_last {i : Nat} (s : Src H a) (h : EvS a te σ H P) (k : ∀ v H1, Up a H H1 → P v H1 → D.nx (σ.set i (some v)) H1) : tAsg te (gName i) D σ H := h H (.refl s) _ fun v H2 u p => k v H2 u p
theorem ss_ret (s : Src H a) (h : EvS a te σ H P) (k : ∀ v H1, Up a H H1 → P v H1 → D.rt v H1) : tRet te D σ H := h H (.refl s) _ fun v H2 u p => k v H2 u p
/-! ### the promises of the three defs that draw -/
def spTake : Sp := fun vs H Q _ => ∃ (a : Addr) (top : Int), vs = [.ref a, .int top] ∧ Src H a ∧ 0 < top ∧ top < 1073741824 ∧ ∀ r H', 0 ≤ r → r < top → Up a H H' → Q (.int r) H'
def spOne (K : PySem.W.Frag) : Sp := fun vs H Q _ => ∃ (a b : Addr) (xs : List V), vs = [.ref a, .ref b] ∧ b ≠ a ∧ Src H a ∧ SqL K H b xs ∧ xs ≠ [] ∧ xs.length ≤ 1000 ∧ ∀ x ∈ xs, ∀ H', Up a H H' → Q x H'
def spPool (K : PySem.W.Frag) : Sp := fun vs H Q _ => ∃ (b : Addr) (ns : List Int) (k : Int), vs = [.ref b, .int k] ∧ SqL K H b (ns.map V.int) ∧ ns.length ≤ 63 ∧ 0 ≤ k ∧ k ≤ 1000 ∧ ∀ l H', H l = none → Ex H H' → Src H' l → Q (.ref l) H'
theorem es_take {lo hi : Int} {E : XK} {s0 : Nat} (e0 : σ[s0]? = some (some (.ref a))) (h : EvS a te σ H (PInt lo hi)) (h0 : 0 < lo) (h1 : hi < 1073741824) : EvS a (tCall spTake [] E (tCons (tVar s0) (tCons te tNil))) σ H (PInt 0 (hi - 1)) :=
  fun H1 u Q q => ⟨_, e0, h H1 u _ fun v H2 u2 ⟨i, ei, a1, a2⟩ => ⟨a, i, by rw [ei]; rfl, u2.src, by omega, by omega, fun r H3 r0 r1 u3 => q _ _ (u2.trans u3) ⟨r, rfl, r0, by omega⟩⟩⟩
theorem es_one {E : XK} {s0 n : Nat} (e0 : σ[s0]? = some (some (.ref a))) (h : EvS a te σ H (PLst a n P)) (h0 : 0 < n) (h1 : n ≤ 1000) (m : Mono a P) : EvS a (tCall (spOne K) [] E (tCons (tVar s0) (tCons te tNil))) σ H P :=
  fun H1 u Q q => ⟨_, e0, h H1 u _ fun v H2 u2 ⟨b, xs, ev, nb, hb, hl, hp⟩ => ⟨a, b, xs, by rw [ev]; rfl, nb, u2.src, sq_of hb, fun z => by rw [z] at hl; simp at hl; omega, by omega, fun x hx H3 u3 => q _ _ (u2.trans u3) (m x H2 H3 u2.src u3 (hp x hx))⟩⟩
end
end Own


namespace Own
open PySem PySem.Spec PyProof.Rows L2
open Evl
/-- stable where all but lists is kept -/
def MonoK (P : VP) : Prop := ∀ v H H', Kp H H' → P v H → P v H'
theorem MonoK.up {P : VP} {a : Addr} (m : MonoK P) : Mono a P := fun v _ _ s u p => m v _ _ (u.kp s) p
theorem monoK_int {lo hi : Int} : MonoK (PInt lo hi) := fun _ _ _ _ h => h
theorem monoK_dat {K : PySem.W.Frag} {k : Nat} : MonoK (PDat K k) := fun _ _ _ e ⟨d, g⟩ => ⟨d, g.kp e⟩
theorem monoK_tup {K : PySem.W.Frag} {n : Nat} {P : VP} (m : MonoK P) : MonoK (PTup K n P) := fun _ _ _ e ⟨b, xs, ev, hb, hl, hp⟩ => ⟨b, xs, ev, e.sqT hb, hl, fun x hx => m x _ _ e (hp x hx)⟩
/-- a list of at most n things of which P is so -/
def PLs (a : Addr) (n : Nat) (P : VP) : VP := fun v H => ∃ b xs, v = .ref b ∧ b ≠ a ∧ H b = some (.lst xs) ∧ xs.length ≤ n ∧ ∀ x ∈ xs, P x H
/-- a tuple of at most n things -/
def PTs (K : PySem.W.Frag) (n : Nat) (P : VP) : VP := fun v H => ∃ b xs, v = .ref b ∧ SqT K H b xs ∧ xs.length ≤ n ∧ ∀ x ∈ xs, P x H
theorem monoK_tups {K : PySem.W.Frag} {n : Nat} {P : VP} (m : MonoK P) : MonoK (PTs K n P) := fun _ _ _ e ⟨b, xs, ev, hb, hl, hp⟩ => ⟨b, xs, ev, e.sqT hb, hl, fun x hx => m x _ _ e (hp x hx)⟩
/-- a tuple of data is data -/
theorem tups_dat {K : PySem.W.Frag} {H : Hp} {n k : Nat} {v : V} (hn : n ≤ 20) (h : PTs K n (PDat K k) v H) : PDat K (k + 1) v H := by
  obtain ⟨b, xs, rfl, hb, hl, hp⟩ := h
  obtain ⟨ds, g⟩ := gdAll_of hp
  exact ⟨_, gd_tup hb g (by omega)⟩
theorem tup_dat {K : PySem.W.Frag} {H : Hp} {n k : Nat} {v : V} (hn : n ≤ 20) (h : PTup K n (PDat K k) v H) : PDat K (k + 1) v H :=
  tups_dat hn (let ⟨b, xs, e, hb, hl, hp⟩ := h; ⟨b, xs, e, hb, Nat.le_of_eq hl, hp⟩)
theorem int_dat {K : PySem.W.Frag} {H : Hp} {lo hi : Int} {v : V} (h1 : -1000000000 ≤ lo) (h2 : hi ≤ 1000000000) (h : PInt lo hi v H) : PDat K 0 v H := by
  obtain ⟨i, rfl, a, b⟩ := h
  exact ⟨_, gd_int (by omega)⟩
theorem dat_up {K : PySem.W.Frag} {H : Hp} {k j : Nat} {v : V} (l : k ≤ j) (h : PDat K k v H) : PDat K j v H := let ⟨d, g⟩ := h; ⟨d, g.up l⟩
section
variable {K : PySem.W.Frag} {a : Addr} {σ : L2.St} {H H' : Hp} {te ta tb : TE} {P R S : VP} {D : Ends} {tz tu t : TS}
theorem q_split (M : L2.St → Hp → Prop) (k : ∀ σ' H', M σ' H' → tz D σ' H') (h : (∀ σ' H', M σ' H' → tz D σ' H') → t { D with nx := tz D } σ H) : tSeq t tz D σ H := h k
theorem ev_divI {i j : Int} (ha : Ev ta σ H (.int i)) (hb : Ev tb σ H (.int j)) (c : CDiv i j) : Ev (tOp rDivI ta tb) σ H (.int (i / j)) := ev_op ha hb (rv_I (C := CDiv) c)
theorem ev_powI {i j : Int} (ha : Ev ta σ H (.int i)) (hb : Ev tb σ H (.int j)) (c : CPow i j) : Ev (tOp rPowI ta tb) σ H (.int (i ^ j.toNat)) := ev_op ha hb (rv_I (C := CPow) c)
theorem ev_negI {i : Int} (ha : Ev ta σ H (.int i)) : Ev (tUn rNegI ta) σ H (.int (-i)) := ev_un ha ru_neg
theorem ev_geV {i j : Int} (ha : Ev ta σ H (.int i)) (hb : Ev tb σ H (.int j)) : Ev (tOp rGeI ta tb) σ H (.bl (decide (j ≤ i))) := ev_op ha hb rv_I0
theorem ev_ltV {i j : Int} (ha : Ev ta σ H (.int i)) (hb : Ev tb σ H (.int j)) : Ev (tOp rLtI ta tb) σ H (.bl (decide (i < j))) := ev_op ha hb rv_I0
/-- a list of ints against the empty one -/
theorem dp_ints {H : Hp} : ∀ ns : List Int, DpAll K H (ns.map V.int) (ns.map PyData.int)
  | [] => .nil
  | n :: ns => .cons (.int n) (dp_ints ns)
theorem lay_ints : ∀ ns : List Int, PyData.canLayAll0 (ns.map PyData.int) = true ∧ PyData.depthAll (ns.map PyData.int) ≤ 1
  | [] => ⟨rfl, by simp [PyData.depthAll]⟩
  | n :: ns => ⟨by simp [PyData.canLayAll0, PyData.canLay0, (lay_ints ns).1], by have := (lay_ints ns).2; simp only [List.map_cons, PyData.depthAll, PyData.depth]; omega⟩
theorem shaped_ints (ns : List Int) : SeqAt.shaped (.list (ns.map PyData.int)) = true := by
  unfold SeqAt.shaped
  rw [show PyData.canLay0 (.list (ns.map PyData.int)) = true by simpa only [PyData.canLay0] using (lay_ints ns).1, decide_eq_true (show (PyData.list (ns.map PyData.int)).depth ≤ 64 by have := (lay_ints ns).2; simp only [PyData.depth]; omega)]
  rfl
theorem et_neInts {p : Addr} {ns : List Int} (h : Ev ta σ H (.ref p)) (hs : SqL K H p (ns.map V.int)) : EvT (tTest (tOp (rNeD K) ta (tLst tNil))) σ H (!ns.isEmpty) :=
  et_test (ev_opL h (el_lst ea_nil (Nat.zero_le _)) fun q H1 hq e H2 e2 Q w => ⟨.list (ns.map .int), .list [], .lst (ex_l (e.trans e2) hs) (dp_ints ns), .lst (sq_of (e2 q _ hq)) .nil, shaped_ints ns, rfl, by
    have z : PyData.eqv (.list (ns.map .int)) (.list []) = ns.isEmpty := by cases ns <;> simp [PyData.eqv, PyData.eqvAll]
    rw [z]
    exact w H2 (.refl _)⟩)
/-- for j in range(..), the count drawn -/
theorem ss_forR {j : Nat} {lo hi : Int} (s : Src H a) (h : EvS a te σ H (PInt lo hi)) (hlo : -1000 ≤ lo) (hhi : hi ≤ 100000) (Pv : Int → Nat → L2.St → Hp → Prop) (h0 : ∀ c H1, lo ≤ c → c ≤ hi → Up a H H1 → Pv c 0 σ H1)
    (hs : ∀ c (i : Nat) σ' H', (i : Int) < c → Pv c i σ' H' → tu { D with nx := Pv c (i + 1), ct := Pv c (i + 1), bk := tz D } (σ'.set j (some (.int (i : Int)))) H') (hd : ∀ c σ' H', Pv c c.toNat σ' H' → tz D σ' H') :
    tSeq (tFor (iRng1 (tCons te tNil)) (gName j) tu) tz D σ H :=
  h H (.refl s) _ fun v H2 u ⟨c, ev, c1, c2⟩ => ⟨c, by rw [ev], by omega, by omega, for_range (lo := 0) (n := c.toNat) (Pv c) (h0 c H2 c1 c2 u)
    (fun i σ' H' hi p => by
      show tu _ (σ'.set j (some (.int ((0 : Int) + (i : Int))))) H'
      rw [Int.zero_add]
      exact hs c i σ' H' (by omega) p) (hd c)⟩
/-- [e for j in range(..)], e drawing -/
theorem es_lc {elt : TE} {j : Nat} {vs : List Nat} {lo hi : Int} {m : Nat} (h : EvS a te σ H (PInt lo hi)) (hlo : -1000 ≤ lo) (hhi : hi ≤ (m : Int)) (hm : m ≤ 1000) (hw : ∀ x, wipe ((wipe σ vs).set j (some x)) vs = wipe σ vs)
    (he : ∀ (i : Nat) H1, Up a H H1 → (i : Int) < hi → EvS a elt ((wipe σ vs).set j (some (.int (i : Int)))) H1 P) (mk : MonoK P) : EvS a (tLc (iRng1 (tCons te tNil)) (gName j) tYes elt vs) σ H (PLs a m P) :=
  fun H1 u Q q => h H1 u _ fun v H2 u2 ⟨c, ev, c1, c2⟩ => ⟨c, by rw [ev], by omega, by omega, fun Dl hD =>
    lc_range (lo := 0) (n := c.toNat) (fun i H' => Up a H2 H' ∧ ∃ acc, H' Dl = some (.lst acc) ∧ acc.length = i ∧ ∀ x ∈ acc, P x H') ⟨.ex (Ex.new hD) u2.src, [], upd_same, rfl, fun _ z => absurd z List.not_mem_nil⟩
      (fun i H' hi ⟨u3, acc, hacc, hl, hp⟩ => by
        show wipe ((wipe σ vs).set j (some (.int ((0 : Int) + (i : Int))))) vs = wipe σ vs ∧ elt ((wipe σ vs).set j (some (.int ((0 : Int) + (i : Int))))) H' fun y H4 => ∃ acc, H4 Dl = some (.lst acc) ∧ acc.length < sizeLine ∧ (Up a H2 (upd H4 Dl (.lst (acc ++ [y]))) ∧ ∃ ac2, (upd H4 Dl (.lst (acc ++ [y]))) Dl = some (.lst ac2) ∧ ac2.length = i + 1 ∧ ∀ x ∈ ac2, P x (upd H4 Dl (.lst (acc ++ [y]))))
        rw [Int.zero_add]
        have nD : Dl ≠ a := u2.src.new hD
        refine ⟨hw _, he i H' ((u.trans u2).trans u3) (by omega) H' (.refl u3.src) _ fun y H4 u4 py => ?_⟩
        have h4 := u4.keep Dl _ nD hacc
        have kp : Kp H' (upd H4 Dl (.lst (acc ++ [y]))) := (u4.kp u3.src).trans (.lst h4)
        refine ⟨acc, h4, sz_lt (by omega), ⟨fun b o nb hb => ?_, ?_⟩, _, upd_same, by rw [List.length_append, hl]; rfl, fun x hx => ?_⟩
        · rw [upd_ne (ne_of_none hb hD)]
          exact u4.keep b o nb (u3.keep b o nb hb)
        · obtain ⟨big, mixed, e, r⟩ := u4.src
          exact ⟨big, mixed, by rw [upd_ne nD.symm]; exact e, r⟩
        · rcases List.mem_append.mp hx with z | z
          · exact mk x _ _ kp (hp x z)
          · rw [List.mem_singleton.mp z]
            exact mk y _ _ (.lst h4) py)
      (fun H' ⟨u3, acc, hacc, hl, hp⟩ => q _ _ (u2.trans u3) ⟨Dl, acc, rfl, u2.src.new hD, hacc, by omega, hp⟩)⟩
/-- tuple(a list) -/
theorem es_tupOf {n : Nat} (h : EvS a te σ H (PLs a n P)) (mk : MonoK P) : EvS a (tCB (rTupOf K) (tCons te tNil)) σ H (PTs K n P) :=
  fun H1 u Q q => h H1 u _ fun v H2 u2 ⟨b, xs, ev, nb, hb, hl, hp⟩ => ⟨b, xs, by rw [ev], .inl ⟨sq_of hb, fun l hl2 => q _ _ (u2.trans (.ex (Ex.new hl2) u2.src)) ⟨l, xs, rfl, st_of upd_same, hl, fun x hx => mk x _ _ (.new hl2) (hp x hx)⟩⟩⟩
/-- xs.append(e) -/
theorem ss_app {i : Nat} {l : Addr} {xs : List V} (s : Src H a) (nl : l ≠ a) (hl : H l = some (.lst xs)) (hv : σ[i]? = some (some (.ref l))) (h : EvS a te σ H P) (hz : xs.length < 100000)
    (k : ∀ y H1, Up a H H1 → P y H1 → D.nx σ (upd H1 l (.lst (xs ++ [y])))) : tDrop (tBM K "list" rAppend (tVar i) (tCons te tNil)) D σ H :=
  ⟨_, hv, .inl ⟨rfl, _, sq_of hl⟩, h H (.refl s) _ fun y H2 u p => ⟨l, xs, y, rfl, rfl, u.keep l _ nl hl, sz_lt hz, k y H2 u p⟩⟩
end
end Own


namespace Own
open PySem PySem.Spec PyProof.Rows L2
open Evl
section
variable {K : PySem.W.Frag} {a : Addr} {σ : L2.St} {H H' : Hp} {te ta tb : TE} {P R S : VP} {D : Ends} {tz tu t : TS}
theorem monoS_tups {n : Nat} (m : MonoK P) : Mono a (PTs K n P) := (monoK_tups m).up
/-- t + u -/
theorem es_cat {n k : Nat} (ha : EvS a ta σ H (PTs K n P)) (hb : EvS a tb σ H (PTs K k P)) (mk : MonoK P) (hz : n + k ≤ 1000) : EvS a (tOp (rCatA K) ta tb) σ H (PTs K (n + k) P) :=
  es_op ha hb (monoS_tups mk) fun x y H1 u ⟨b, xs, ex, hx, lx, px⟩ ⟨c, ys, ey, hy, ly, py⟩ Q q => ⟨b, c, xs, ys, ex, ey, hx, hy, sz_of (by omega),
    fun _ => q _ H1 (.refl u.src) ⟨c, ys, rfl, hy, by omega, py⟩, fun _ _ => q _ H1 (.refl u.src) ⟨b, xs, rfl, hx, by omega, px⟩,
    fun _ _ p np => q _ _ (.ex (Ex.new np) u.src) ⟨p, xs ++ ys, rfl, st_of upd_same, by rw [List.length_append]; omega, fun z hz => by
      rcases List.mem_append.mp hz with w | w
      · exact mk z _ _ (.new np) (px z w)
      · exact mk z _ _ (.new np) (py z w)⟩⟩
theorem cut_mem {xs : List V} {lo hi : Option Int} {x : V} (h : x ∈ cutV xs lo hi) : x ∈ xs := List.mem_of_mem_drop (List.mem_of_mem_take h)
/-- a part of a slice: none, or an int -/
def EvP (a : Addr) (to : TO) (σ : L2.St) (H : Hp) : Prop := ∀ H1, Up a H H1 → ∀ Q : Option Int → Hp → Prop, (∀ o H2, Up a H1 H2 → Q o H2) → to σ H1 Q
theorem ep_none : EvP a tNoPart σ H := fun H1 u Q q => q none H1 (.refl u.src)
theorem ep_some {lo hi : Int} (h : EvS a te σ H (PInt lo hi)) : EvP a (tPart te) σ H := fun H1 u Q q => h H1 u _ fun v H2 u2 ⟨i, e, _⟩ => ⟨i, e, q _ H2 u2⟩
/-- t[lo:hi] -/
theorem es_slice {n : Nat} {tl th : TO} (h : EvS a te σ H (PTs K n P)) (hl : EvP a tl σ H) (hh : EvP a th σ H) (mk : MonoK P) : EvS a (tSl (rSlA K) te tl th) σ H (PTs K n P) :=
  fun H1 u Q q => h H1 u _ fun x H2 u2 px => hl H2 (u.trans u2) _ fun lo H3 u3 => hh H3 ((u.trans u2).trans u3) _ fun hi H4 u4 => by
    obtain ⟨b, xs, ex, hx, lx, ps⟩ := monoS_tups mk x H2 H4 u2.src (u3.trans u4) px
    exact ⟨b, xs, ex, hx, fun _ => q _ H4 ((u2.trans u3).trans u4) ⟨b, xs, rfl, hx, lx, ps⟩, fun _ p np => q _ _ (((u2.trans u3).trans u4).trans (.ex (Ex.new np) u4.src))
      ⟨p, _, rfl, st_of upd_same, by have := cutV_length xs lo hi; omega, fun z hz => mk z _ _ (.new np) (ps z (cut_mem hz))⟩⟩
/-- (x,) * k -/
theorem es_rep {hi : Nat} {lo : Int} (ha : EvS a ta σ H (PTup K 1 P)) (hb : EvS a tb σ H (PInt lo (hi : Int))) (h1 : 1 ≤ lo) (h2 : hi ≤ 100) (mk : MonoK P) : EvS a (tOp (rTimes K) ta tb) σ H (PTs K hi P) :=
  es_op ha hb (monoK_tup mk).up fun x y H1 u ⟨b, xs, ex, hx, lx, px⟩ ⟨j, ej, j1, j2⟩ Q q => by
    by_cases c : j = 1
    · exact .inr ⟨b, xs, ex, by rw [ej, c], hx, q _ H1 (.refl u.src) ⟨b, xs, rfl, hx, by omega, px⟩⟩
    · refine .inl ⟨b, j, xs, ex, ej, hx, (fun z => by rw [z] at lx; simp at lx), by omega, by omega, by omega, fun p np => q _ _ (.ex (Ex.new np) u.src) ⟨p, _, rfl, st_of upd_same, ?_, fun z hz => ?_⟩⟩
      · rw [PyProof.Rows.lm_len_rep_flat, lx]
        omega
      · obtain ⟨l, hl, hz⟩ := List.mem_flatten.mp hz
        rw [List.eq_of_mem_replicate hl] at hz
        exact mk z _ _ (.new np) (px z hz)
theorem tup_tups {n m : Nat} (h : n ≤ m) {v : V} {H1 : Hp} (p : PTup K n P v H1) : PTs K m P v H1 := let ⟨b, xs, e, hb, hl, hp⟩ := p; ⟨b, xs, e, hb, by omega, hp⟩
theorem tups_imp {n m : Nat} (h : n ≤ m) (i : ∀ v H1, P v H1 → R v H1) {v : V} {H1 : Hp} (p : PTs K n P v H1) : PTs K m R v H1 := let ⟨b, xs, e, hb, hl, hp⟩ := p; ⟨b, xs, e, hb, by omega, fun x hx => i x H1 (hp x hx)⟩
/-- (x, ..) of at most m -/
theorem es_tups {ta : TA} {n m : Nat} (h : EvSA a ta σ H n P) (hn : n ≤ m) (hm : m ≤ 1000) (mk : MonoK P) : EvS a (tTup ta) σ H (PTs K m P) := es_imp (es_tup h (by omega) mk.up) fun _ _ p => tup_tups hn p
/-- xs + ys -/
theorem es_catL {n k : Nat} (ha : EvS a ta σ H (PLst a n P)) (hb : EvS a tb σ H (PLst a k P)) (mk : MonoK P) (hz : n + k ≤ 1000) : EvS a (tOp rCat ta tb) σ H (PLst a (n + k) P) :=
  es_op ha hb (mono_lst mk.up) fun x y H1 u ⟨b, xs, ex, nb, hx, lx, px⟩ ⟨c, ys, ey, nc, hy, ly, py⟩ Q q => ⟨b, c, xs, ys, ex, ey, hx, hy, sz_of (by omega), fun p np => q _ _ (.ex (Ex.new np) u.src)
    ⟨p, xs ++ ys, rfl, u.src.new np, upd_same, by rw [List.length_append]; omega, fun z hz => by
      rcases List.mem_append.mp hz with w | w
      · exact mk z _ _ (.new np) (px z w)
      · exact mk z _ _ (.new np) (py z w)⟩⟩
/-- list(t) == [] -/
theorem es_listNil {n k : Nat} (h : EvS a te σ H (PTs K n (PDat K k))) (hk : k ≤ 60) : EvS a (tOp (rEqD K) (tCB (rListOf K) (tCons te tNil)) (tLst tNil)) σ H (PDat K 0) :=
  fun H1 u Q q => h H1 u _ fun v H2 u2 ⟨b, xs, ev, hb, hl, hp⟩ => ⟨b, xs, by rw [ev], .inr hb, fun l nl => ⟨Nat.zero_le _, fun p np => by
    obtain ⟨ds, g⟩ := gdAll_of hp
    have e2 : Ex H2 (upd (upd H2 l (.lst xs)) p (.lst [])) := (Ex.new nl).trans (Ex.new np)
    refine eqD_nil hk (sq_of (by rw [upd_ne (ne_of_none upd_same np)]; exact upd_same)) (g.kp (.ex e2)) (sq_of upd_same) ?_
    exact q _ _ (u2.trans (.ex e2 u2.src)) ⟨_, gd_bl⟩⟩⟩
theorem es_dint {i : Int} {k : Nat} (h : i.natAbs < 2 ^ 64) : EvS a (tC (.int i)) σ H (PDat K k) := es_c fun _ => ⟨_, (gd_int h).up (Nat.zero_le k)⟩
theorem es_dnon {k : Nat} : EvS a (tC .non) σ H (PDat K k) := es_c fun _ => ⟨_, gd_non.up (Nat.zero_le k)⟩
theorem es_dbl {b : Bool} {k : Nat} : EvS a (tC (.bl b)) σ H (PDat K k) := es_c fun _ => ⟨_, gd_bl.up (Nat.zero_le k)⟩
theorem es_dstr {x : Str} {k : Nat} (h : fine 0 (.str x) = true) : EvS a (tC (.str x)) σ H (PDat K k) := es_c fun _ => ⟨_, (gd_str h).up (Nat.zero_le k)⟩
theorem es_dof {lo hi : Int} {k : Nat} (h : EvS a te σ H (PInt lo hi)) (h1 : -1000000000 ≤ lo) (h2 : hi ≤ 1000000000) : EvS a te σ H (PDat K k) := es_imp h fun _ _ p => dat_up (Nat.zero_le k) (int_dat h1 h2 p)
theorem es_dtup {n k : Nat} (h : EvS a te σ H (PTs K n (PDat K k))) (hn : n ≤ 20) : EvS a te σ H (PDat K (k + 1)) := es_imp h fun _ _ p => tups_dat hn p
theorem es_dup {k j : Nat} (h : EvS a te σ H (PDat K k)) (l : k ≤ j) : EvS a te σ H (PDat K j) := es_imp h fun _ _ p => dat_up l p
theorem s_tup3 {i j l : Nat} {x y z : V} (h : EvU te σ H [x, y, z]) (k : ∀ H1, Ex H H1 → D.nx (((σ.set i (some x)).set j (some y)).set l (some z)) H1) : tAsg te (gTup K 3 (gCons (gName i) (gCons (gName j) (gCons (gName l) gNil)))) D σ H :=
  h H (.refl H) _ fun p H1 np e hp => ⟨p, _, rfl, st_of hp, rfl, x, _, rfl, y, _, rfl, z, _, rfl, rfl, k H1 e⟩
theorem s_par3 {i j l : Nat} {x y z : V} {ta : TA} (h : EvA ta σ H [x, y, z]) (k : ∀ H1, Ex H H1 → D.nx (((σ.set i (some x)).set j (some y)).set l (some z)) H1) : tPar3 i j l ta D σ H :=
  h H (.refl H) _ fun H1 e => ⟨x, y, z, rfl, k H1 e⟩
theorem ss_tup2 {i j : Nat} (s : Src H a) (h : EvS a te σ H (PTup K 2 P)) (k : ∀ x y H1, Up a H H1 → P x H1 → P y H1 → D.nx ((σ.set i (some x)).set j (some y)) H1) : tAsg te (gTup K 2 (gCons (gName i) (gCons (gName j) gNil))) D σ H :=
  h H (.refl s) _ fun v H1 u ⟨b, xs, ev, hb, hl, hp⟩ => by
    match xs, hl with
    | [x, y], _ => exact ⟨b, _, ev, hb, rfl, x, _, rfl, y, _, rfl, rfl, k x y H1 u (hp x (by simp)) (hp y (by simp))⟩
theorem ss_par {i j : Nat} {ta : TA} (s : Src H a) (h : EvSA a ta σ H 2 P) (k : ∀ x y H1, Up a H H1 → P x H1 → P y H1 → D.nx ((σ.set i (some x)).set j (some y)) H1) : tPar i j ta D σ H :=
  h H (.refl s) _ fun vs H1 u hl hp => by
    match vs, hl with
    | [x, y], _ => exact ⟨x, y, rfl, k x y H1 u (hp x (by simp)) (hp y (by simp))⟩
end
end Own


namespace Own
open PySem PySem.Spec PyProof.Rows L2
open Evl
section
variable {K : PySem.W.Frag} {a : Addr} {σ : L2.St} {H H' : Hp} {te ta tb : TE} {P R S : VP} {D : Ends} {tz tu t : TS}
/-- the tuple of just these -/
def PSq (K : PySem.W.Frag) (xs : List V) : VP := fun v H => ∃ b, v = .ref b ∧ SqT K H b xs
theorem monoK_sq {xs : List V} : MonoK (PSq K xs) := fun _ _ _ e ⟨b, ev, hb⟩ => ⟨b, ev, e.sqT hb⟩
theorem cut_whole {xs : List V} {lo hi : Option Int} (h1 : HT.sIx xs.length 0 lo = 0) (h2 : HT.sIx xs.length xs.length hi = xs.length) : cutV xs lo hi = xs := by
  unfold cutV
  rw [h1, h2]
  simp
theorem es_cutX {xs : List V} {tl th : TO} {lo hi : Option Int} (h : EvS a te σ H (PSq K xs)) (hl : ∀ H1, Up a H H1 → ∀ Q : Option Int → Hp → Prop, (∀ H2, Up a H1 H2 → Q lo H2) → tl σ H1 Q) (hh : ∀ H1, Up a H H1 → ∀ Q : Option Int → Hp → Prop, (∀ H2, Up a H1 H2 → Q hi H2) → th σ H1 Q) :
    EvS a (tSl (rSlA K) te tl th) σ H (PSq K (cutV xs lo hi)) :=
  fun H1 u Q q => h H1 u _ fun x H2 u2 px => hl H2 (u.trans u2) _ fun H3 u3 => hh H3 ((u.trans u2).trans u3) _ fun H4 u4 => by
    obtain ⟨b, ex, hx⟩ := monoK_sq.up x H2 H4 u2.src (u3.trans u4) px
    exact ⟨b, xs, ex, hx, fun ⟨h1, h2⟩ => q _ H4 ((u2.trans u3).trans u4) ⟨b, rfl, by rw [cut_whole h1 h2]; exact hx⟩, fun _ p np => q _ _ (((u2.trans u3).trans u4).trans (.ex (Ex.new np) u4.src)) ⟨p, rfl, st_of upd_same⟩⟩
theorem cp_none : ∀ H1, Up a H H1 → ∀ Q : Option Int → Hp → Prop, (∀ H2, Up a H1 H2 → Q none H2) → tNoPart σ H1 Q := fun H1 u Q q => q H1 (.refl u.src)
theorem cp_some {i : Int} (h : EvS a te σ H (PInt i i)) : ∀ H1, Up a H H1 → ∀ Q : Option Int → Hp → Prop, (∀ H2, Up a H1 H2 → Q (some i) H2) → tPart te σ H1 Q :=
  fun H1 u Q q => h H1 u _ fun v H2 u2 ⟨j, e, h1, h2⟩ => ⟨j, e, by rw [show j = i by omega]; exact q H2 u2⟩
theorem es_catX {xs ys : List V} (ha : EvS a ta σ H (PSq K xs)) (hb : EvS a tb σ H (PSq K ys)) (hz : xs.length + ys.length ≤ 1000) : EvS a (tOp (rCatA K) ta tb) σ H (PSq K (xs ++ ys)) :=
  es_op ha hb monoK_sq.up fun x y H1 u ⟨b, ex, hx⟩ ⟨c, ey, hy⟩ Q q => ⟨b, c, xs, ys, ex, ey, hx, hy, sz_of (by omega),
    fun z => q _ H1 (.refl u.src) ⟨c, rfl, by rw [z]; exact hy⟩, fun _ z => q _ H1 (.refl u.src) ⟨b, rfl, by rw [z, List.append_nil]; exact hx⟩, fun _ _ p np => q _ _ (.ex (Ex.new np) u.src) ⟨p, rfl, st_of upd_same⟩⟩
theorem es_oneX {i : Nat} {v : V} (e : σ[i]? = some (some v)) : EvS a (tTup (tCons (tVar i) tNil)) σ H (PSq K [v]) :=
  fun H1 u Q q => ⟨v, e, ⟨by show 1 ≤ sizeLine; decide, fun p np => q _ _ (.ex (Ex.new np) u.src) ⟨p, rfl, st_of upd_same⟩⟩⟩
theorem cut_lo {xs : List V} {w : Nat} (h : w ≤ xs.length) : cutV xs none (some (w : Int)) = xs.take w := by
  unfold cutV
  rw [HT.sIx_none, HT.sIx_nat, Nat.min_eq_left h]
  simp
theorem cut_hi {xs : List V} {w : Nat} (h : w ≤ xs.length) : cutV xs (some (w : Int)) none = xs.drop w := by
  unfold cutV
  rw [HT.sIx_none, HT.sIx_nat, Nat.min_eq_left h]
  exact List.take_of_length_le (by rw [List.length_drop]; omega)
/-! ### lists of data, kept in a list -/
structure Men (K : PySem.W.Frag) (a l : Addr) (n : Nat) (H : Hp) : Prop where
  ne : l ≠ a
  all : ∃ items, H l = some (.lst items) ∧ items.length = n ∧ ∀ x ∈ items, ∃ b ys, x = .ref b ∧ b ≠ a ∧ b ≠ l ∧ H b = some (.lst ys) ∧ 0 < ys.length ∧ ys.length ≤ 20 ∧ ∀ y ∈ ys, PDat K 1 y H
theorem Men.up {l : Addr} {n : Nat} (s : Src H a) (u : Up a H H') (m : Men K a l n H) : Men K a l n H' :=
  let ⟨ne, items, h, hl, hp⟩ := m
  ⟨ne, items, u.keep l _ ne h, hl, fun x hx => let ⟨b, ys, e, n1, n2, hb, l0, l1, py⟩ := hp x hx; ⟨b, ys, e, n1, n2, u.keep b _ n1 hb, l0, l1, fun y hy => monoK_dat y _ _ (u.kp s) (py y hy)⟩⟩
theorem men_add {H0 : Hp} {l : Addr} {n m i : Nat} {ta : TA} (s : Src H0 a) (u0 : Up a H0 H) (nl : H0 l = none) (M : Men K a l n H) (hv : σ[i]? = some (some (.ref l))) (h : EvSA a ta σ H m (PDat K 1)) (h1 : 0 < m) (hm : m ≤ 20) (hn : n < 100)
    (k : ∀ H1, Up a H0 H1 → Men K a l (n + 1) H1 → tz D σ H1) : tSeq (tDrop (tBM K "list" rAppend (tVar i) (tCons (tLst ta) tNil))) tz D σ H := by
  obtain ⟨ne, items, hi, hl, hp⟩ := M
  refine ⟨_, hv, .inl ⟨rfl, _, sq_of hi⟩, h H (.refl u0.src) _ fun vs H2 u2 hvs pv => ⟨sz_of (by omega), fun p np => ?_⟩⟩
  have hi2 := u2.keep l _ ne hi
  have pl : p ≠ l := fun z => by subst z; rw [hi2] at np; cases np
  have pa : p ≠ a := u2.src.new np
  have k1 : Kp H2 (upd H2 p (.lst vs)) := .new np
  have hi3 : (upd H2 p (.lst vs)) l = some (.lst items) := by rw [upd_ne pl.symm]; exact hi2
  have k2 : Kp (upd H2 p (.lst vs)) (upd (upd H2 p (.lst vs)) l (.lst (items ++ [.ref p]))) := .lst hi3
  refine ⟨l, items, .ref p, rfl, rfl, hi3, sz_lt (by omega), k _ ⟨fun b o nb hb => ?_, ?_⟩ ⟨ne, items ++ [.ref p], upd_same, by rw [List.length_append, hl]; rfl, fun x hx => ?_⟩⟩
  · have bl : b ≠ l := ne_of_none hb nl
    have h2 := u2.keep b o nb (u0.keep b o nb hb)
    rw [upd_ne bl, upd_ne (ne_of_none h2 np)]
    exact h2
  · obtain ⟨big, mixed, e, r⟩ := u2.src
    exact ⟨big, mixed, by rw [upd_ne ne.symm, upd_ne pa.symm]; exact e, r⟩
  · rcases List.mem_append.mp hx with z | z
    · obtain ⟨b, ys, e, n1, n2, hb, l0, l1, py⟩ := hp x z
      have hb2 := u2.keep b _ n1 hb
      exact ⟨b, ys, e, n1, n2, by rw [upd_ne n2, upd_ne (ne_of_none hb2 np)]; exact hb2, l0, l1, fun y hy => monoK_dat y _ _ (((u2.kp u0.src).trans k1).trans k2) (py y hy)⟩
    · rw [List.mem_singleton.mp z]
      exact ⟨p, vs, rfl, pa, pl, by rw [upd_ne pl]; exact upd_same, by omega, by omega, fun y hy => monoK_dat y _ _ (k1.trans k2) (pv y hy)⟩
/-- [[..]] -/
theorem ss_first {i n : Nat} {ta : TA} (s : Src H a) (h : EvSA a ta σ H n P) (hn : n ≤ 1000) (k : ∀ vs H1, Up a H H1 → vs.length = n → (∀ v ∈ vs, P v H1) → ∀ p, H1 p = none → ∀ l, (upd H1 p (.lst vs)) l = none → tz D (σ.set i (some (.ref l))) (upd (upd H1 p (.lst vs)) l (.lst [.ref p]))) :
    tSeq (tAsg (tLst (tCons (tLst ta) tNil)) (gName i)) tz D σ H :=
  h H (.refl s) _ fun vs H1 u1 hl pv => ⟨sz_of (by omega), fun p np => ⟨by show 1 ≤ sizeLine; decide, fun l nl => k vs H1 u1 hl pv p np l nl⟩⟩
/-- one of the j-th list -/
theorem es_men {l : Addr} {n s0 s1 s2 : Nat} {w : Int} {E : XK} (e0 : σ[s0]? = some (some (.ref a))) (e1 : σ[s1]? = some (some (.ref l))) (e2 : σ[s2]? = some (some (.int w))) (M : ∀ H1, Up a H H1 → Men K a l n H1) (h0 : 0 ≤ w) (h1 : w < (n : Int)) :
    EvS a (tCall (spOne K) [] E (tCons (tVar s0) (tCons (tOp (rIxL K) (tVar s1) (tVar s2)) tNil))) σ H (PDat K 1) := fun H1 u Q q => by
  obtain ⟨ne, items, hi, hl, hp⟩ := M H1 u
  have hw : w.toNat < items.length := by omega
  obtain ⟨b, ys, e, n1, n2, hb, l0, l1, py⟩ := hp items[w.toNat] (List.getElem_mem hw)
  refine ⟨_, e0, _, e1, _, e2, l, items, w, .ref b, rfl, rfl, sq_of hi, ?_, a, b, ys, rfl, n1, u.src, sq_of hb, (fun z => by rw [z] at l0; cases l0), by omega, fun x hx H3 u3 => q _ _ u3 (monoK_dat x _ _ (u3.kp u.src) (py x hx))⟩
  exact at_of (j := w.toNat) (by omega) (by rw [List.getElem?_eq_getElem hw, e])
end
end Own


namespace Own
open PySem PySem.Spec PyProof.Rows L2
open Evl
/-! ### the same without a source -/
def EvX (te : TE) (σ : L2.St) (H : Hp) (P : VP) : Prop := ∀ H1, Ex H H1 → ∀ Q : VK, (∀ v H2, Ex H1 H2 → P v H2 → Q v H2) → te σ H1 Q
def EvXA (ta : TA) (σ : L2.St) (H : Hp) (n : Nat) (P : VP) : Prop := ∀ H1, Ex H H1 → ∀ Q : List V → Hp → Prop, (∀ vs H2, Ex H1 H2 → vs.length = n → (∀ v ∈ vs, P v H2) → Q vs H2) → ta σ H1 Q
def PLx (n : Nat) (P : VP) : VP := fun v H => ∃ b xs, v = .ref b ∧ H b = some (.lst xs) ∧ xs.length = n ∧ ∀ x ∈ xs, P x H
section
variable {K : PySem.W.Frag} {σ : L2.St} {H H' : Hp} {te ta tb : TE} {P R S : VP} {D : Ends} {tz tu t : TS}
theorem ex_c {v : V} (h : ∀ H1, P v H1) : EvX (tC v) σ H P := fun H1 u Q q => q v H1 (.refl H1) (h H1)
theorem ex_dint {i : Int} {k : Nat} (h : i.natAbs < 2 ^ 64) : EvX (tC (.int i)) σ H (PDat K k) := ex_c fun _ => ⟨_, (gd_int h).up (Nat.zero_le k)⟩
theorem ex_dnon {k : Nat} : EvX (tC .non) σ H (PDat K k) := ex_c fun _ => ⟨_, gd_non.up (Nat.zero_le k)⟩
theorem ex_imp (h : EvX te σ H P) (i : ∀ v H1, P v H1 → R v H1) : EvX te σ H R := fun H1 u Q q => h H1 u Q fun v H2 u2 p => q v H2 u2 (i v H2 p)
theorem xa_nil : EvXA tNil σ H 0 P := fun H1 u Q q => q [] H1 (.refl H1) rfl fun _ h => absurd h List.not_mem_nil
theorem xa_cons {ta : TA} {n : Nat} (h : EvX te σ H P) (hr : EvXA ta σ H n P) (m : MonoK P) : EvXA (tCons te ta) σ H (n + 1) P :=
  fun H1 u Q q => h H1 u _ fun v H2 u2 p => hr H2 (u.trans u2) _ fun vs H3 u3 hl hp => q (v :: vs) H3 (u2.trans u3) (by rw [List.length_cons, hl]) fun x hx => by
    rcases List.mem_cons.mp hx with e | e
    · rw [e]; exact m v H2 H3 (.ex u3) p
    · exact hp x e
theorem ex_tup {ta : TA} {n : Nat} (h : EvXA ta σ H n P) (hn : n ≤ 1000) (m : MonoK P) : EvX (tTup ta) σ H (PTup K n P) :=
  fun H1 u Q q => h H1 u _ fun vs H2 u2 hl hp => ⟨sz_of (by omega), fun p np => q _ _ (u2.trans (Ex.new np)) ⟨p, vs, rfl, st_of upd_same, hl, fun x hx => m x _ _ (.new np) (hp x hx)⟩⟩
theorem ex_dtup {ta : TA} {n k : Nat} (h : EvXA ta σ H n (PDat K k)) (hn : n ≤ 20) : EvX (tTup ta) σ H (PDat K (k + 1)) := ex_imp (ex_tup h (by omega) monoK_dat) fun _ _ p => tup_dat hn p
theorem ex_up {k j : Nat} (h : EvX te σ H (PDat K k)) (l : k ≤ j) : EvX te σ H (PDat K j) := ex_imp h fun _ _ p => dat_up l p
theorem ex_lst {ta : TA} {n : Nat} (h : EvXA ta σ H n P) (hn : n ≤ 1000) (m : MonoK P) : EvX (tLst ta) σ H (PLx n P) :=
  fun H1 u Q q => h H1 u _ fun vs H2 u2 hl hp => ⟨sz_of (by omega), fun p np => q _ _ (u2.trans (Ex.new np)) ⟨p, vs, rfl, upd_same, hl, fun x hx => m x _ _ (.new np) (hp x hx)⟩⟩
/-- (e,) * c, c written -/
theorem ex_rep {c : Int} (h : EvX te σ H P) (h1 : 2 ≤ c) (h2 : c ≤ 20) (mk : MonoK P) : EvX (tOp (rTimes K) (tTup (tCons te tNil)) (tC (.int c))) σ H (PTs K 20 P) :=
  fun H1 u Q q => h H1 u _ fun v H2 u2 pv => ⟨by show 1 ≤ sizeLine; decide, fun p np => .inl ⟨p, c, [v], rfl, rfl, st_of upd_same, by simp, h1, by omega, by show 1 ≤ 1000; decide, fun r nr =>
    q _ _ (u2.trans ((Ex.new np).trans (Ex.new nr))) ⟨r, _, rfl, st_of upd_same, by rw [PyProof.Rows.lm_len_rep_flat]; show c.toNat * 1 ≤ 20; omega, fun z hz => by
      obtain ⟨l, hl, hz⟩ := List.mem_flatten.mp hz
      rw [List.eq_of_mem_replicate hl] at hz
      rw [List.mem_singleton.mp hz]
      exact mk v _ _ ((Kp.new np).trans (.new nr)) pv⟩⟩⟩
theorem ex_catL {n k : Nat} (ha : EvX ta σ H (PLx n P)) (hb : EvX tb σ H (PLx k P)) (mk : MonoK P) (hz : n + k ≤ 1000) : EvX (tOp rCat ta tb) σ H (PLx (n + k) P) :=
  fun H1 u Q q => ha H1 u _ fun x H2 u2 ⟨b, xs, ex, hx, lx, px⟩ => hb H2 (u.trans u2) _ fun y H3 u3 ⟨c, ys, ey, hy, ly, py⟩ => ⟨b, c, xs, ys, ex, ey, u3 b _ hx, hy, sz_of (by omega), fun p np => q _ _ (u2.trans (u3.trans (Ex.new np)))
    ⟨p, xs ++ ys, rfl, upd_same, by rw [List.length_append]; omega, fun z hz => by
      rcases List.mem_append.mp hz with w | w
      · exact mk z _ _ ((Kp.ex u3).trans (.new np)) (px z w)
      · exact mk z _ _ (.new np) (py z w)⟩⟩
theorem ex_vl {i n : Nat} {v : V} (e : σ[i]? = some (some v)) (h : PLx n P v H) (mk : MonoK P) : EvX (tVar i) σ H (PLx n P) := fun H1 u Q q => ⟨v, e, q v H1 (.refl H1) (let ⟨b, xs, ev, hb, hl, hp⟩ := h; ⟨b, xs, ev, u b _ hb, hl, fun x hx => mk x _ _ (.ex u) (hp x hx)⟩)⟩
theorem sx_asg {i : Nat} (h : EvX te σ H P) (k : ∀ v H1, Ex H H1 → P v H1 → tz D (σ.set i (some v)) H1) : tSeq (tAsg te (gName i)) tz D σ H := h H (.refl H) _ fun v H2 u p => k v H2 u p
/-- xs.append(e) -/
theorem sx_app {i : Nat} {l : Addr} {xs : List V} (hl : H l = some (.lst xs)) (hv : σ[i]? = some (some (.ref l))) (h : EvX te σ H P) (hz : xs.length < 100000)
    (k : ∀ y H1, Ex H H1 → P y H1 → tz D σ (upd H1 l (.lst (xs ++ [y])))) : tSeq (tDrop (tBM K "list" rAppend (tVar i) (tCons te tNil))) tz D σ H :=
  ⟨_, hv, .inl ⟨rfl, _, sq_of hl⟩, h H (.refl H) _ fun y H2 u p => ⟨l, xs, y, rfl, rfl, u l _ hl, sz_lt hz, k y H2 u p⟩⟩
end
end Own


namespace Own
open PySem PySem.Spec PyProof.Rows L2
/-! ### enumerate and zip of lists (false) and tuples (true), in any mix -/
def SqB (t : Bool) (K : PySem.W.Frag) (H : Hp) (a : Addr) (xs : List V) : Prop := bif t then SqT K H a xs else SqL K H a xs
def ItB (t : Bool) (h : Heap) (i a : Addr) (k : Nat) : Prop := bif t then h.IsTupleIter i a k else h.IsListIter i a k
def HpB (t : Bool) (h : Heap) (a : Addr) (items : Array Value) : Prop := bif t then h.IsTuple a items else h.IsList a items
theorem ItB.at {t : Bool} {h h' : Heap} {i a : Addr} {k : Nat} (x : ItB t h i a k) (hk : ∀ o, h.get? i = some o → h'.get? i = some o) : ItB t h' i a k := by
  cases t
  · exact Heap.IsListIter.at x hk
  · exact Heap.IsTupleIter.at x hk
theorem ItB.obj {t : Bool} {h : Heap} {i a : Addr} {k : Nat} (x : ItB t h i a k) : ∃ o, h.get? i = some o ∧ ∀ v, o.data ≠ .cell v := by
  cases t
  · obtain ⟨o, e, _, d⟩ : h.IsListIter i a k := x
    exact ⟨o, e, fun v q => by rw [d] at q; cases q⟩
  · obtain ⟨o, e, _, d⟩ : h.IsTupleIter i a k := x
    exact ⟨o, e, fun v q => by rw [d] at q; cases q⟩
theorem invB {X : Cx} {pins : List (Addr × Obj)} {σ : L2.St} {H : Hp} {s : Shared} {t : Bool} {a : Addr} {xs : List V} (I : Inv X pins σ H s) (h : SqB t X.K H a xs) : ∃ its : List Value, Vals xs its ∧ HpB t s.heap a its.toArray ∧ a < s.heap.objs.size := by
  cases t
  · obtain ⟨its, rv, p, _⟩ := I.list h
    exact ⟨its, rv, p.isList, p.lt⟩
  · obtain ⟨its, rv, p, _⟩ := I.tuple h
    obtain ⟨o, ho, _⟩ := id p
    exact ⟨its, rv, p, Heap.lt_size ho⟩
theorem injB {X : Cx} {pins : List (Addr × Obj)} {σ : L2.St} {H : Hp} {s : Shared} {t : Bool} {a : Addr} {xs ys : List V} (I : Inv X pins σ H s) (h : SqB t X.K H a xs) (h' : SqB t X.K H a ys) : xs = ys := by
  cases t
  · exact I.list_inj h h'
  · exact I.tuple_inj h h'
theorem drawsB {prog : Program} {w : World} {A : Around} (t : Bool) (hh : A.handled = none) (it l : Addr) (hne : l ≠ it) (items : Array Value) : Draws prog w A it [it, l] items.size (fun i v => items[i]? = some v) (fun i h => ItB t h it l i ∧ HpB t h l items) := by
  cases t
  · exact Draws.list hh it l hne items
  · exact Draws.tuple hh it l hne items
def objB (t : Bool) (a : Addr) : Obj := bif t then { cls := .type "tuple_iterator", data := .fields #[.ref a, .int 0 0] } else { cls := .type "list_iterator", data := .fields #[.ref a, .int 0 0] }
theorem beginsB (t : Bool) (a : Addr) (items : Array Value) : Begins (.ref a) (objB t a) fun h => HpB t h a items := by
  cases t
  · exact begins_list a items
  · exact begins_tuple a items
theorem itB_new {t : Bool} {h : Heap} {i a : Addr} (e : h.get? i = some (objB t a)) : ItB t h i a 0 := by
  cases t
  · exact ⟨_, e, rfl, rfl⟩
  · exact ⟨_, e, rfl, rfl⟩
/-! enumerate -/
def IteB (t : Bool) (K : PySem.W.Frag) (a : Addr) : It :=
  ⟨fun i H => ∃ (xs : List V) (x : V), SqB t K H a xs ∧ xs[i]? = some x, fun i H v H' => ∃ T x, v = .ref T ∧ H T = none ∧ H' = upd H T (.tup [.int (i : Nat), x]) ∧ ∀ xs, SqB t K H a xs → xs[i]? = some x, fun i H => ∃ xs : List V, SqB t K H a xs ∧ i = xs.length⟩
theorem turn_enumB {P : Program} {w : World} {K : PySem.W.Frag} {elts : List Expr} {kk : Nat} {tpos : Pos} (t : Bool) (a e it : Addr) :
    Turn P w K (.Tuple elts kk tpos) (IteB t K a) [e, it] e (fun i h => (∃ old, IsEnum h e it ((0 : Int) + (i : Int)) old) ∧ ItB t h it a i ∧ e ≠ it ∧ a ≠ it ∧ e ≠ a) where
  mem := by simp
  obj := fun i h st b hb => by
    obtain ⟨⟨old, he⟩, hi, _⟩ := st
    have e' : b = e ∨ b = it := by simpa using hb
    rcases e' with z | z
    · rw [z]; exact ⟨_, he, fun v q => nomatch q⟩
    · rw [z]; exact hi.obj
  keep := fun i h h' st k => let ⟨⟨old, he⟩, hi, hne⟩ := st; ⟨⟨old, k e (by simp) _ he⟩, hi.at fun o q => k it (by simp) o q, hne⟩
  item := by
    intro X hP hw hK hc i pins s σ H E I hf st hg
    subst hP hw hK
    obtain ⟨hen, hit, n1, n2, n3⟩ := st
    obtain ⟨xs, x, hq, hx⟩ := hg
    obtain ⟨its, rv, p, hz⟩ := invB I hq
    obtain ⟨u, hu, ru⟩ := rv.get hx
    have hel : e < s.heap.objs.size := by obtain ⟨_, he⟩ := hen; exact Heap.lt_size he
    have hil : it < s.heap.objs.size := by obtain ⟨o, q, _⟩ := hit.obj; exact Heap.lt_size q
    have G := GoesN.enumFrom (prog := X.prog) (w := X.w) (A := X.A) (elts := elts) (x1 := kk) (pos := tpos) 0 (drawsB (prog := X.prog) (w := X.w) (A := X.A.in1) t (I.ok.hd hc) it a n2 its.toArray) e n1 (by simp [n1, n3]) (by simp)
    have hlen : i < its.toArray.size := by
      have := (List.getElem?_eq_some_iff.mp hu).1
      simpa using this
    refine G.goes i s (fun v s2 => ∃ x H', Inv X pins σ H' s2 ∧ RelV x v ∧ (IteB t X.K a).yld i H x H' ∧ _ ∧ ∀ b ∈ [e, it], H' b = none) E hlen ⟨hen, hit, p⟩ fun v h' tk hY st' hk htk => ?_
    obtain ⟨T, tt, y, ev, hT, hy, hTup⟩ := hY
    subst ev
    have hy' : y = u := by
      have q : its.toArray[i]? = some u := by simpa using hu
      rw [q] at hy; injection hy with hy; exact hy.symm
    subst hy'
    have new : ObjOk X.prog X.w (upd H T (.tup [.int (i : Nat), x])) h' T (.tup [.int (i : Nat), x]) :=
      ⟨by show 2 ≤ sizeLine; decide, [.int (0 + (i : Int)) tt, y], .cons ⟨tt, by rw [Int.zero_add]⟩ (.cons ru .nil), hTup⟩
    have I1 : Inv X pins σ (upd H T (.tup [.int (i : Nat), x])) { s with heap := h', toks := tk } :=
      I.turnedNew (ch := [e, it]) (fun b ob hb q => hk b ob hb q) hf hT new
    refine ⟨.ref T, _, I1, rfl, ⟨_, x, rfl, I.hok.fresh hT, rfl, fun ys hy => by rw [injB I hy hq]; exact hx⟩, ⟨st'.1, st'.2.1, n1, n2, n3⟩, fun b hb => ?_⟩
    have hb' : b < s.heap.objs.size := by
      have e' : b = e ∨ b = it := by simpa using hb
      rcases e' with z | z
      · rw [z]; exact hel
      · rw [z]; exact hil
    rw [upd_ne (Nat.ne_of_lt (Nat.lt_of_lt_of_le hb' hT))]
    exact (hf b hb).1
  done := by
    intro X hP hw hK hc i pins s σ H E I hf st hg
    subst hP hw hK
    obtain ⟨hen, hit, n1, n2, n3⟩ := st
    obtain ⟨xs, hq, hx⟩ := hg
    obtain ⟨its, rv, p, hz⟩ := invB I hq
    have hl := rv.length
    obtain ⟨f0, f1, f2, f3, f4, f5⟩ := hf it (by simp)
    have h : i = its.toArray.size := by simp; omega
    subst h
    have G := GoesN.enumFrom (prog := X.prog) (w := X.w) (A := X.A) (elts := elts) (x1 := kk) (pos := tpos) 0 (drawsB (prog := X.prog) (w := X.w) (A := X.A.in1) t (I.ok.hd hc) it a n2 its.toArray) e n1 (by simp [n1, n3]) (by simp)
    exact G.stops s _ E ⟨hen, hit, p⟩ fun h' tk hk htk => I.turnedL (ch := [e, it]) (fun b o hb q => hk b o hb q) hf
  self := fun A i s Q E st h => let ⟨⟨_, he⟩, _⟩ := st; wpAny_pyIter_enum he h

def iEnumB (t : Bool) (K : PySem.W.Frag) (ta : TA) : TI := fun σ H R => ta σ H fun vs H1 => ∃ a xs, vs = [.ref a] ∧ SqB t K H1 a xs ∧ R (IteB t K a) H1
theorem meets_enumB {v : Value} {o : Obj} {H : Heap → Prop} (B : Begins v o H) :
    Meets (Builtin.«enumerate.__new__» ⟨[.type "enumerate", v], []⟩) (fun _ R s => H s.heap ∧
      R (.ok (.ret (.ref (s.heap.push o).objs.size))) { s with heap := (s.heap.push o).push { cls := .type "enumerate", data := .fields #[.none, .bool false, .ref s.heap.objs.size, rawInt 0, .none, .none] } }) :=
  .of_wp fun prog w A R s h => by
    obtain ⟨hp, g, d, tk, os⟩ := s; obtain ⟨h1, h⟩ := h
    have hsub := sub_enumerate
    have q1 : ∀ {A' : Around} {E : Value → Shared → Prop} {Q : Value → Shared → Prop}, Q (.ref hp.objs.size) ⟨hp.push o, g, d, tk, os⟩ → wpAny (model prog w) A' (pyIter v) Q E ⟨hp, g, d, tk, os⟩ :=
      fun q => B.iter prog w _ _ ⟨hp, g, d, tk, os⟩ _ h1 q
    wp_walk using q1
    refine wpAny_stack_any fun st => wpAny_pure ?_
    split
    · rename_i c _ _ _ _ _
      cases (c == Value.type "enumerate")
      · wp_walk using q1
        exact ⟨_, rfl, h⟩
      · wp_walk using q1
        exact ⟨_, rfl, h⟩
    · wp_walk using q1
      exact ⟨_, rfl, h⟩
theorem call_enumB {prog : Program} {w : World} {A : Around} {E : Value → Shared → Prop} {s : Shared} {v : Value} {o : Obj} {H : Heap → Prop} {Q : Value → Shared → Prop} (B : Begins v o H) (h1 : H s.heap)
    (h : ∀ h', IsEnum h' (s.heap.objs.size + 1) s.heap.objs.size 0 .none → h'.get? s.heap.objs.size = some o → (∀ b o, s.heap.get? b = some o → h'.get? b = some o) → Q (.ref (s.heap.objs.size + 1)) { s with heap := h' }) :
    wpAny (model prog w) A (call (.type "enumerate") [v]) Q E s := by
  refine callType_new F.called_enumerate (by decide) (F.typeCall_enumerate_1 _) (F.newCall_enumerate_1 _) (fun obj => F.args_object_init_2 obj _) F.entry_enumerate_new (meets_enumB B) ⟨h1, ?_⟩
  have hz : (s.heap.push o).objs.size = s.heap.objs.size + 1 := Heap.size_push ..
  show _ ∧ _
  rw [hz]
  have he : IsEnum ((s.heap.push o).push { cls := .type "enumerate", data := .fields #[.none, .bool false, .ref s.heap.objs.size, rawInt 0, .none, .none] }) (s.heap.objs.size + 1) s.heap.objs.size 0 .none := by
    have := Heap.get?_push_size (s.heap.push o) (o := { cls := .type "enumerate", data := .fields #[.none, .bool false, .ref s.heap.objs.size, rawInt 0, .none, .none] }) rfl
    rw [hz] at this; exact this
  exact ⟨⟨_, he, rfl⟩, h _ he (Heap.get?_push_of_some _ (Heap.get?_push_size _ B.free)) fun b o x => Heap.get?_push_of_some _ (Heap.get?_push_of_some _ x)⟩
theorem pi_enumB (t : Bool) {X : Cx} {e : Expr} {ta : TA} {p pos tpos : Pos} {elts : List Expr} {kk : Nat} (hg : Gl X "enumerate") (hm : X.mg "enumerate" = none) (ha : PA X [e] ta) (hs : starEach [e] X.env = [(false, eval e X.env)] := by rfl) :
    PI X (.Tuple elts kk tpos) (.Call (.Name "enumerate" p) [e] [] pos) (iEnumB t X.K ta) := by
  refine ⟨fun pins s σ H R I h => ?_⟩
  refine Call_ (ld_blt I hg hm boot_enumerate (PyProof.Rows.callWith_type1 (thn (ha.run pos pins s σ H _ I h) fun us s1 ⟨vs, H1, I1, r1, q1⟩ => ?_) hs rfl))
  obtain ⟨a, xs, ex, hq, q⟩ := q1
  subst ex
  cases r1 with
  | cons r rr =>
    cases rr
    cases r
    obtain ⟨its, rv, p', hz⟩ := invB I1 hq
    refine call_enumB (beginsB t a its.toArray) p' fun h' he hit hk => wpAny_pyIter_enum he ?_
    have I2 : Inv X pins σ H1 { s1 with heap := h' } := I1.kept (t' := s1.toks) hk
    refine ⟨s1.heap.objs.size + 1, [s1.heap.objs.size + 1, s1.heap.objs.size], _, _, H1, rfl, I2, turn_enumB t a (s1.heap.objs.size + 1) s1.heap.objs.size, ⟨⟨.none, he⟩, itB_new hit, Nat.succ_ne_self _, Nat.ne_of_lt hz, Nat.ne_of_gt (Nat.lt_succ_of_lt hz)⟩, fun b hb => ?_, q⟩
    have e' : b = s1.heap.objs.size + 1 ∨ b = s1.heap.objs.size := by simpa using hb
    have hle : s1.heap.objs.size ≤ b := by
      rcases e' with z | z
      · rw [z]; exact Nat.le_add_right _ _
      · rw [z]; exact Nat.le_refl _
    exact I1.fpOk hle (I1.hok.fresh hle)
/-! zip -/
def ItzB (t1 t2 : Bool) (K : PySem.W.Frag) (a b : Addr) : It :=
  ⟨fun i H => ∃ (xs ys : List V) (x y : V), SqB t1 K H a xs ∧ SqB t2 K H b ys ∧ xs[i]? = some x ∧ ys[i]? = some y,
    fun i H v H' => ∃ T x y, v = .ref T ∧ H T = none ∧ H' = upd H T (.tup [x, y]) ∧ (∀ xs, SqB t1 K H a xs → xs[i]? = some x) ∧ ∀ ys, SqB t2 K H b ys → ys[i]? = some y,
    fun i H => ∃ xs ys : List V, SqB t1 K H a xs ∧ SqB t2 K H b ys ∧ i = min xs.length ys.length⟩
structure ZApart (z TI TO i1 i2 a b : Addr) : Prop where
  s : ZipSep2 z TI TO i1 i2 [i1, a] [i2, b]
  a1 : a ≠ i1
  b2 : b ≠ i2
theorem turn_zipB {P : Program} {w : World} {K : PySem.W.Frag} {elts : List Expr} {kk : Nat} {tpos : Pos} (t1 t2 : Bool) {a b z TI TO i1 i2 : Addr} (D : ZApart z TI TO i1 i2 a b) :
    Turn P w K (.Tuple elts kk tpos) (ItzB t1 t2 K a b) [z, TI, TO, i1, i2] z (fun i h => IsZip h z TI TO .none ∧ IsTupOf2 h TI (.ref i1) (.ref i2) ∧ (∃ x y, IsTupOf2 h TO x y) ∧ ItB t1 h i1 a i ∧ ItB t2 h i2 b i) where
  mem := by simp
  obj := fun i h st c hc => by
    obtain ⟨hz, hTI, ⟨x, y, hTO⟩, h1, h2⟩ := st
    have e' : c = z ∨ c = TI ∨ c = TO ∨ c = i1 ∨ c = i2 := by simpa using hc
    rcases e' with q | q | q | q | q
    · rw [q]; exact ⟨_, hz, fun v q => nomatch q⟩
    · rw [q]; exact ⟨_, hTI, fun v q => nomatch q⟩
    · rw [q]; exact ⟨_, hTO, fun v q => nomatch q⟩
    · rw [q]; exact h1.obj
    · rw [q]; exact h2.obj
  keep := fun i h h' st k => by
    obtain ⟨hz, hTI, ⟨x, y, hTO⟩, h1, h2⟩ := st
    exact ⟨k z (by simp) _ hz, k TI (by simp) _ hTI, ⟨x, y, k TO (by simp) _ hTO⟩, h1.at fun o q => k i1 (by simp) o q, h2.at fun o q => k i2 (by simp) o q⟩
  item := by
    intro X hP hw hK hc i pins s σ H E I hf st hg
    subst hP hw hK
    obtain ⟨hz, hTI, hTO, h1, h2⟩ := st
    obtain ⟨xs, ys, x, y, hqx, hqy, hx, hy⟩ := hg
    obtain ⟨its, rv, p, l1⟩ := invB I hqx
    obtain ⟨its2, rv2, p2, l2⟩ := invB I hqy
    obtain ⟨u, hu, ru⟩ := rv.get hx
    obtain ⟨u2, hu2, ru2⟩ := rv2.get hy
    have G := GoesN.zip2 (prog := X.prog) (w := X.w) (A := X.A) (elts := elts) (x1 := kk) (pos := tpos) D.s (drawsB (prog := X.prog) (w := X.w) (A := X.A.in1) t1 (I.ok.hd hc) i1 a D.a1 its.toArray) (drawsB (prog := X.prog) (w := X.w) (A := X.A.in1) t2 (I.ok.hd hc) i2 b D.b2 its2.toArray)
    have hl1 : i < its.toArray.size := by simpa using (List.getElem?_eq_some_iff.mp hu).1
    have hl2 : i < its2.toArray.size := by simpa using (List.getElem?_eq_some_iff.mp hu2).1
    have hfp : ∀ c ∈ [z, TI, TO, i1, i2], c < s.heap.objs.size := fun c hcm => by
      have e' : c = z ∨ c = TI ∨ c = TO ∨ c = i1 ∨ c = i2 := by simpa using hcm
      rcases e' with q | q | q | q | q
      · rw [q]; exact Heap.lt_size hz
      · rw [q]; exact Heap.lt_size hTI
      · rw [q]; obtain ⟨_, _, e⟩ := hTO; exact Heap.lt_size e
      · rw [q]; obtain ⟨_, e, _⟩ := h1.obj; exact Heap.lt_size e
      · rw [q]; obtain ⟨_, e, _⟩ := h2.obj; exact Heap.lt_size e
    refine G.goes i s (fun v s2 => ∃ x H', Inv X pins σ H' s2 ∧ RelV x v ∧ (ItzB t1 t2 X.K a b).yld i H x H' ∧ _ ∧ ∀ c ∈ [z, TI, TO, i1, i2], H' c = none) E (Nat.lt_min.mpr ⟨hl1, hl2⟩) ⟨hz, hTI, hTO, ⟨h1, p⟩, ⟨h2, p2⟩⟩ fun v h' tk hY st' hk htk => ?_
    obtain ⟨T, v1, v2, ev, hT, hv1, hv2, hTup⟩ := hY
    subst ev
    have e1 : v1 = u := by
      have q : its.toArray[i]? = some u := by simpa using hu
      rw [q] at hv1; injection hv1 with hv1; exact hv1.symm
    have e2 : v2 = u2 := by
      have q : its2.toArray[i]? = some u2 := by simpa using hu2
      rw [q] at hv2; injection hv2 with hv2; exact hv2.symm
    subst e1 e2
    have new : ObjOk X.prog X.w (upd H T (.tup [x, y])) h' T (.tup [x, y]) := ⟨by show 2 ≤ sizeLine; decide, [v1, v2], .cons ru (.cons ru2 .nil), hTup⟩
    have I1 : Inv X pins σ (upd H T (.tup [x, y])) { s with heap := h', toks := tk } :=
      I.turnedNew (ch := [z, TI, TO, i1, i2]) (fun c ob hb q => hk c ob (fun hm => hb (by
        have e' : c = z ∨ c = TO ∨ c = i1 ∨ c = i2 := by simpa using hm
        rcases e' with q | q | q | q <;> simp [q])) q) hf hT new
    refine ⟨.ref T, _, I1, rfl, ⟨_, x, y, rfl, I.hok.fresh hT, rfl, fun l hl => by rw [injB I hl hqx]; exact hx, fun l hl => by rw [injB I hl hqy]; exact hy⟩, ⟨st'.1, st'.2.1, st'.2.2.1, st'.2.2.2.1.1, st'.2.2.2.2.1⟩, fun c hcm => ?_⟩
    rw [upd_ne (Nat.ne_of_lt (Nat.lt_of_lt_of_le (hfp c hcm) hT))]
    exact (hf c hcm).1
  done := by
    intro X hP hw hK hc i pins s σ H E I hf st hg
    subst hP hw hK
    obtain ⟨hz, hTI, hTO, h1, h2⟩ := st
    obtain ⟨xs, ys, hqx, hqy, hend⟩ := hg
    obtain ⟨its, rv, p, l1⟩ := invB I hqx
    obtain ⟨its2, rv2, p2, l2⟩ := invB I hqy
    have q1 := rv.length
    have q2 := rv2.length
    have h : i = min its.toArray.size its2.toArray.size := by simp; omega
    subst h
    have G := GoesN.zip2 (prog := X.prog) (w := X.w) (A := X.A) (elts := elts) (x1 := kk) (pos := tpos) D.s (drawsB (prog := X.prog) (w := X.w) (A := X.A.in1) t1 (I.ok.hd hc) i1 a D.a1 its.toArray) (drawsB (prog := X.prog) (w := X.w) (A := X.A.in1) t2 (I.ok.hd hc) i2 b D.b2 its2.toArray)
    exact G.stops s _ E ⟨hz, hTI, hTO, ⟨h1, p⟩, ⟨h2, p2⟩⟩ fun h' tk hk htk => I.turnedL (ch := [z, TI, TO, i1, i2]) (fun c o hb q => hk c o (fun hm => hb (by
        have e' : c = z ∨ c = TO ∨ c = i1 ∨ c = i2 := by simpa using hm
        rcases e' with q | q | q | q <;> simp [q])) q) hf
  self := fun A i s Q E st h => wpAny_pyIter_zip st.1 h
def iZipB (t1 t2 : Bool) (K : PySem.W.Frag) (ta : TA) : TI := fun σ H R => ta σ H fun vs H1 => ∃ a b xs ys, vs = [.ref a, .ref b] ∧ SqB t1 K H1 a xs ∧ SqB t2 K H1 b ys ∧ R (ItzB t1 t2 K a b) H1
theorem pi_zipB (t1 t2 : Bool) {X : Cx} {e e2 : Expr} {ta : TA} {p pos tpos : Pos} {elts : List Expr} {kk : Nat} (hg : Gl X "zip") (hm : X.mg "zip" = none) (ha : PA X [e, e2] ta)
    (hs : starEach [e, e2] X.env = (false, eval e X.env) :: starEach [e2] X.env := by rfl) (hpl : (backTo pos (starEach [e2] X.env)).any (·.1) = false := by rfl) :
    PI X (.Tuple elts kk tpos) (.Call (.Name "zip" p) [e, e2] [] pos) (iZipB t1 t2 X.K ta) := by
  refine ⟨fun pins s σ H R I h => ?_⟩
  refine Call_ (ld_blt I hg hm PyProof.Rows.boot_zip (PyProof.Rows.callWith_type1 (thn (ha.run pos pins s σ H _ I h) fun us s1 ⟨vs, H1, I1, r1, q1⟩ => ?_) hs hpl))
  obtain ⟨a, b, xs, ys, ex, hqx, hqy, q⟩ := q1
  subst ex
  cases r1 with
  | cons r rr =>
    cases rr with
    | cons r' rr =>
      cases rr
      cases r
      cases r'
      have fresh5 : ∀ c, c ∈ [s1.heap.objs.size + 4, s1.heap.objs.size + 2, s1.heap.objs.size + 3, s1.heap.objs.size, s1.heap.objs.size + 1] → FpOk X pins H1 c := fun c hcm => by
        have e' : c = s1.heap.objs.size + 4 ∨ c = s1.heap.objs.size + 2 ∨ c = s1.heap.objs.size + 3 ∨ c = s1.heap.objs.size ∨ c = s1.heap.objs.size + 1 := by simpa using hcm
        have hle : s1.heap.objs.size ≤ c := by
          rcases e' with z | z | z | z | z
          · rw [z]; exact Nat.le_add_right _ _
          · rw [z]; exact Nat.le_add_right _ _
          · rw [z]; exact Nat.le_add_right _ _
          · rw [z]; exact Nat.le_refl _
          · rw [z]; exact Nat.le_add_right _ _
        exact I1.fpOk hle (I1.hok.fresh hle)
      obtain ⟨its, rv, p1, l1⟩ := invB I1 hqx
      obtain ⟨its2, rv2, p2, l2⟩ := invB I1 hqy
      refine zip_begins2 (beginsB t1 a its.toArray) (beginsB t2 b its2.toArray) p1 p2 fun h' hz hTI hTO h1 h2 hsz hk => wpAny_pyIter_zip hz ?_
      have I2 : Inv X pins σ H1 { s1 with heap := h' } := I1.kept (t' := s1.toks) hk
      have ap : ZApart (s1.heap.objs.size + 4) (s1.heap.objs.size + 2) (s1.heap.objs.size + 3) s1.heap.objs.size (s1.heap.objs.size + 1) a b :=
        ⟨zip_sep2 (fun c hc => by rw [List.mem_singleton.mp hc]; exact l1) (fun c hc => by rw [List.mem_singleton.mp hc]; exact l2), Nat.ne_of_lt l1, Nat.ne_of_lt (Nat.lt_succ_of_lt l2)⟩
      exact ⟨s1.heap.objs.size + 4, [s1.heap.objs.size + 4, s1.heap.objs.size + 2, s1.heap.objs.size + 3, s1.heap.objs.size, s1.heap.objs.size + 1], _, _, H1, rfl, I2, turn_zipB t1 t2 ap, ⟨hz, hTI, ⟨_, _, hTO⟩, itB_new h1, itB_new h2⟩, fresh5, q⟩
/-! their walks -/
theorem walk_enumB {t : Bool} {K : PySem.W.Frag} {a : Addr} {xs : List V} : Walk (IteB t K a) xs.length (fun H => SqB t K H a xs) (YPair (fun i => some (.int (i : Nat))) (fun i => xs[i]?)) := by
  refine ⟨fun i _ hi q => ⟨xs, xs[i], q, by simp [hi]⟩, fun _ q => ⟨xs, q, rfl⟩, fun i H v H' _ q y => ?_⟩
  obtain ⟨T, x, h1, h2, h3, h4⟩ := y
  exact ⟨T, .int (i : Nat), x, h1, h2, h3, rfl, h4 xs q⟩
theorem walk_zipB {t1 t2 : Bool} {K : PySem.W.Frag} {a b : Addr} {xs ys : List V} {n : Nat} (hn : n = min xs.length ys.length) : Walk (ItzB t1 t2 K a b) n (fun H => SqB t1 K H a xs ∧ SqB t2 K H b ys) (YPair (fun i => xs[i]?) (fun i => ys[i]?)) := by
  subst hn
  refine ⟨fun i _ hi q => ?_, fun _ q => ⟨xs, ys, q.1, q.2, rfl⟩, fun i H v H' _ q y => ?_⟩
  · have h1 : i < xs.length := by omega
    have h2 : i < ys.length := by omega
    exact ⟨xs, ys, xs[i], ys[i], q.1, q.2, by simp [h1], by simp [h2]⟩
  · obtain ⟨T, x, z, h1, h2, h3, h4, h5⟩ := y
    exact ⟨T, x, z, h1, h2, h3, h4 xs q.1, h5 ys q.2⟩
end Own


namespace Own
/-! ### numbers below a prime: inverses -/
/-- b makes one with a below p -/
def IsInv (p a b : Int) : Prop := 0 ≤ b ∧ b < p ∧ p ∣ a * b - 1
theorem IsInv.uniq {p a b c : Int} (h : IsInv p a b) (k : IsInv p a c) : b = c := by
  obtain ⟨b0, b1, hb⟩ := h
  obtain ⟨c0, c1, hc⟩ := k
  have d : p ∣ b - c := by
    have h1 : p ∣ c * (a * b - 1) := Int.dvd_mul_of_dvd_right hb
    have h2 : p ∣ b * (a * c - 1) := Int.dvd_mul_of_dvd_right hc
    have e : b - c = c * (a * b - 1) - b * (a * c - 1) := by
      rw [Int.mul_sub, Int.mul_sub, show c * (a * b) = b * (a * c) by rw [Int.mul_left_comm, Int.mul_comm c b, Int.mul_left_comm]]
      omega
    rw [e]
    exact Int.dvd_sub h1 h2
  have := Int.emod_eq_emod_iff_emod_sub_eq_zero.mpr (Int.emod_eq_zero_of_dvd d)
  rwa [Int.emod_eq_of_lt b0 b1, Int.emod_eq_of_lt c0 c1] at this
open Classical in
noncomputable def inv (p a : Int) : Int := if h : ∃ b, IsInv p a b then Classical.choose h else 0
theorem inv_of {p a b : Int} (h : IsInv p a b) : inv p a = b := by
  have e : ∃ b, IsInv p a b := ⟨b, h⟩
  unfold inv
  rw [dif_pos e]
  exact (Classical.choose_spec e).uniq h
theorem inv_is {p a b : Int} (h : IsInv p a b) : IsInv p a (inv p a) := by rw [inv_of h]; exact h
/-- no number but one and itself divides p, and no greater part -/
def Prm (p : Int) : Prop := 5 ≤ p ∧ p ≤ 1000003 ∧ noDiv p = true
theorem Prm.part {p g : Int} (h : Prm p) (g1 : 0 < g) (g2 : g < p) (d : g ∣ p) : g = 1 := by
  obtain ⟨h5, h6, hn⟩ := h
  have N := (noDiv_iff h6).mp hn
  refine Classical.byContradiction fun ne => ?_
  obtain ⟨m, e⟩ := d
  have m2 : 1 < m := by
    refine Int.not_le.mp fun c => ?_
    have : g * m ≤ g * 1 := Int.mul_le_mul_of_nonneg_left c (by omega)
    omega
  by_cases c : g ≤ m
  · exact N g (by omega) (by rw [e]; exact Int.mul_le_mul_of_nonneg_left c (by omega)) (Int.emod_eq_zero_of_dvd ⟨m, e⟩)
  · exact N m (by omega) (by rw [e]; exact Int.mul_le_mul_of_nonneg_right (by omega) (by omega)) (Int.emod_eq_zero_of_dvd ⟨g, by rw [e, Int.mul_comm]⟩)
/-! the steps of Euclid: what divides both of a pair divides p and a -/
structure Euc (p a high low far near : Int) : Prop where
  h0 : 0 < high
  l0 : 0 ≤ low
  lt : low < high
  hp : high ≤ p
  dv : ∀ g : Int, g ∣ high → g ∣ low → g ∣ p ∧ g ∣ a
  fa : p ∣ a * far - high
  ne : p ∣ a * near - low
theorem Euc.start {p a : Int} (h0 : 0 ≤ a) (h1 : a < p) : Euc p a p a 0 1 :=
  ⟨by omega, h0, h1, by omega, fun g h k => ⟨h, k⟩, by rw [Int.mul_zero, Int.zero_sub]; exact Int.dvd_neg.mpr (Int.dvd_refl p), by rw [Int.mul_one, Int.sub_self]; exact Int.dvd_zero p⟩
theorem Euc.step {p a high low far near : Int} (e : Euc p a high low far near) (hl : 0 < low) : Euc p a low (high - high / low * low) near (far - high / low * near) := by
  have m : high - high / low * low = high % low := by rw [Int.emod_def, Int.mul_comm]
  refine ⟨hl, by rw [m]; exact Int.emod_nonneg _ (by omega), by rw [m]; exact Int.emod_lt_of_pos _ hl, by have := e.lt; have := e.hp; omega, fun g h k => ?_, e.ne, ?_⟩
  · refine e.dv g ?_ h
    have k1 : g ∣ high / low * low := Int.dvd_mul_of_dvd_right h
    have : high = (high - high / low * low) + high / low * low := by omega
    rw [this]
    exact Int.dvd_add k k1
  · have h1 : p ∣ high / low * (a * near - low) := Int.dvd_mul_of_dvd_right e.ne
    have h2 := Int.dvd_sub e.fa h1
    have : a * (far - high / low * near) - (high - high / low * low) = a * far - high - high / low * (a * near - low) := by
      rw [Int.mul_sub, Int.mul_sub, Int.mul_left_comm]
      omega
    rw [this]
    exact h2
/-- the one that is left is one -/
theorem Euc.one {p a high far near : Int} (P : Prm p) (a0 : 0 < a) (a1 : a < p) (e : Euc p a high 0 far near) : high = 1 := by
  have d := e.dv high (Int.dvd_refl _) (Int.dvd_zero _)
  have hle : high ≤ a := Int.le_of_dvd a0 d.2
  exact P.part e.h0 (by omega) d.1
theorem Euc.low {p a high low far near : Int} (P : Prm p) (a0 : 0 < a) (a1 : a < p) (e : Euc p a high low far near) (h : 1 < high) : 0 < low := by
  have := e.l0
  refine Int.not_le.mp fun c => ?_
  have z : low = 0 := by omega
  subst z
  have := e.one P a0 a1
  omega
theorem inv_mod {p a b : Int} (hp : 0 < p) (h : p ∣ a * b - 1) : IsInv p a (b % p) := by
  refine ⟨Int.emod_nonneg _ (by omega), Int.emod_lt_of_pos _ hp, ?_⟩
  have h2 : p ∣ a * (p * (b / p)) := Int.dvd_mul_of_dvd_right (Int.dvd_mul_right _ _)
  have : a * (b % p) - 1 = a * b - 1 - a * (p * (b / p)) := by
    rw [Int.emod_def, Int.mul_sub]
    omega
  rw [this]
  exact Int.dvd_sub h h2
/-- both sides of a pair, halved at each turn -/
theorem Euc.half {p a high low far near : Int} (e : Euc p a high low far near) (hl : 0 < low) : 2 * (low * (high - high / low * low)) ≤ high * low := by
  have m : high - high / low * low = high % low := by rw [Int.emod_def, Int.mul_comm]
  have r0 : 0 ≤ high % low := Int.emod_nonneg _ (by omega)
  have r1 := Int.emod_lt_of_pos high hl
  have q1 : 1 ≤ high / low := Int.le_ediv_of_mul_le hl (by have := e.lt; omega)
  have q2 : low * 1 ≤ low * (high / low) := Int.mul_le_mul_of_nonneg_left q1 (by omega)
  have h1 := Int.mul_ediv_add_emod high low
  have : 2 * (high % low) ≤ high := by omega
  rw [m]
  have h3 := Int.mul_le_mul_of_nonneg_left this (show 0 ≤ low by omega)
  rw [Int.mul_left_comm, Int.mul_comm high low]
  exact h3
end Own


namespace Own
/-! ### rows of numbers below a prime -/
abbrev Ro := List Int
abbrev Mx := List Ro
def nth (r : Ro) (j : Nat) : Int := r.getD j 0
def row (R : Mx) (i : Nat) : Ro := R.getD i []
def ent (R : Mx) (i j : Nat) : Int := nth (row R i) j
def swp (R : Mx) (i j : Nat) : Mx := (R.set i (row R j)).set j (row R i)
def scl (p b : Int) (r : Ro) : Ro := r.map fun x => b * x % p
def led (p f : Int) (r c : Ro) : Ro := List.zipWith (fun x y => (x - f * y) % p) r c
def clr (p b : Int) (R : Mx) (d k : Nat) : Mx := (List.range R.length).map fun r => if r = d then scl p b (row R d) else led p (ent R r k) (row R r) (scl p b (row R d))
def pv (R : Mx) (d k : Nat) : Option Nat := (List.range R.length).find? fun i => decide (d ≤ i) && decide (ent R i k ≠ 0)
/-- rows, how many are done, where these begin -/
structure Sta where
  R : Mx
  d : Nat
  S : List Nat
noncomputable def stp (p : Int) (s : Sta) (k : Nat) : Sta := match pv s.R s.d k with
  | none => s
  | some i => ⟨clr p (inv p (ent (swp s.R s.d i) s.d k)) (swp s.R s.d i) s.d k, s.d + 1, s.S ++ [k]⟩
noncomputable def red (p : Int) (M : Mx) : Nat → Sta
  | 0 => ⟨M, 0, []⟩
  | n + 1 => stp p (red p M n) n
theorem getD_lt {α : Type} {l : List α} {d : α} {i : Nat} (h : i < l.length) : l.getD i d = l[i] := by
  rw [List.getD_eq_getElem?_getD, List.getElem?_eq_getElem h, Option.getD_some]
/-- rows of n numbers below p -/
def WF (p : Int) (n : Nat) (R : Mx) : Prop := ∀ r ∈ R, r.length = n ∧ ∀ x ∈ r, 0 ≤ x ∧ x < p
theorem row_mem {R : Mx} {i : Nat} (h : i < R.length) : row R i ∈ R := by
  unfold row
  rw [getD_lt h]
  exact List.getElem_mem h
theorem row_at {R : Mx} {i : Nat} (h : i < R.length) : R[i]? = some (row R i) := by
  unfold row
  rw [getD_lt h, List.getElem?_eq_getElem h]
theorem mem_row {R : Mx} {r : Ro} (h : r ∈ R) : ∃ i, i < R.length ∧ row R i = r := by
  obtain ⟨i, hi, e⟩ := List.mem_iff_getElem.mp h
  exact ⟨i, hi, by unfold row; rw [getD_lt hi, e]⟩
theorem row_set {R : Mx} {i j : Nat} {r : Ro} (h : i < R.length) : row (R.set i r) j = if j = i then r else row R j := by
  unfold row
  rw [List.getD_eq_getElem?_getD, List.getD_eq_getElem?_getD, List.getElem?_set]
  by_cases e : i = j
  · subst e; simp [h]
  · simp [e, Ne.symm e]
theorem row_swp {R : Mx} {i j r : Nat} (hi : i < R.length) (hj : j < R.length) : row (swp R i j) r = if r = j then row R i else if r = i then row R j else row R r := by
  unfold swp
  rw [row_set (by rw [List.length_set]; exact hj), row_set hi]
theorem len_swp {R : Mx} {i j : Nat} : (swp R i j).length = R.length := by simp [swp]
theorem len_clr {p b : Int} {R : Mx} {d k : Nat} : (clr p b R d k).length = R.length := by simp [clr]
theorem row_clr {p b : Int} {R : Mx} {d k r : Nat} (h : r < R.length) : row (clr p b R d k) r = if r = d then scl p b (row R d) else led p (ent R r k) (row R r) (scl p b (row R d)) := by
  unfold clr
  show ((List.range R.length).map _).getD r [] = _
  rw [getD_lt (by simpa using h), List.getElem_map, List.getElem_range]
theorem nth_scl {p b : Int} {r : Ro} {j : Nat} : nth (scl p b r) j = b * nth r j % p := by
  unfold nth scl
  rw [List.getD_eq_getElem?_getD, List.getD_eq_getElem?_getD, List.getElem?_map]
  cases r[j]? <;> simp
theorem nth_led {p f : Int} {r c : Ro} {j : Nat} (h : r.length = c.length) : nth (led p f r c) j = (nth r j - f * nth c j) % p := by
  unfold nth led
  rw [List.getD_eq_getElem?_getD, List.getD_eq_getElem?_getD, List.getD_eq_getElem?_getD, List.getElem?_zipWith]
  by_cases hj : j < r.length
  · rw [List.getElem?_eq_getElem hj, List.getElem?_eq_getElem (by omega : j < c.length)]
    rfl
  · rw [List.getElem?_eq_none (by omega), List.getElem?_eq_none (by omega)]
    simp
theorem len_scl {p b : Int} {r : Ro} : (scl p b r).length = r.length := by simp [scl]
theorem len_led {p f : Int} {r c : Ro} (h : r.length = c.length) : (led p f r c).length = r.length := by simp [led, h]
theorem wf_row {p : Int} {n : Nat} {R : Mx} (w : WF p n R) {i : Nat} (h : i < R.length) : (row R i).length = n ∧ ∀ x ∈ row R i, 0 ≤ x ∧ x < p := w _ (row_mem h)
theorem wf_nth {p : Int} {n : Nat} {R : Mx} (w : WF p n R) (hp : 0 < p) (i j : Nat) : 0 ≤ ent R i j ∧ ent R i j < p := by
  unfold ent nth
  by_cases hi : i < R.length
  · rw [List.getD_eq_getElem?_getD]
    cases h : (row R i)[j]? with
    | none => exact ⟨Int.le_refl _, hp⟩
    | some x => exact (wf_row w hi).2 x (List.mem_of_getElem? h)
  · have : row R i = [] := by unfold row; rw [List.getD_eq_getElem?_getD, List.getElem?_eq_none (by omega), Option.getD_none]
    rw [this]
    exact ⟨Int.le_refl _, hp⟩
theorem wf_swp {p : Int} {n : Nat} {R : Mx} (w : WF p n R) {i j : Nat} (hi : i < R.length) (hj : j < R.length) : WF p n (swp R i j) := fun r hr => by
  obtain ⟨m, hm, e⟩ := mem_row hr
  rw [len_swp] at hm
  rw [row_swp hi hj] at e
  rw [← e]
  split
  · exact wf_row w hi
  · split
    · exact wf_row w hj
    · exact wf_row w hm
theorem wf_clr {p b : Int} {n : Nat} {R : Mx} (hp : 0 < p) (w : WF p n R) {d k : Nat} (hd : d < R.length) : WF p n (clr p b R d k) := fun r hr => by
  obtain ⟨m, hm, e⟩ := mem_row hr
  rw [len_clr] at hm
  rw [row_clr hm] at e
  have l1 := (wf_row w hd).1
  have l2 := (wf_row w hm).1
  rw [← e]
  split
  · refine ⟨by rw [len_scl]; exact l1, fun x hx => ?_⟩
    unfold scl at hx
    obtain ⟨y, _, rfl⟩ := List.mem_map.mp hx
    exact ⟨Int.emod_nonneg _ (by omega), Int.emod_lt_of_pos _ hp⟩
  · refine ⟨by rw [len_led (by rw [len_scl, l1, l2])]; exact l2, fun x hx => ?_⟩
    unfold led at hx
    obtain ⟨i, hi, rfl⟩ := List.mem_iff_getElem.mp hx
    rw [List.getElem_zipWith]
    exact ⟨Int.emod_nonneg _ (by omega), Int.emod_lt_of_pos _ hp⟩
theorem pv_some {R : Mx} {d k i : Nat} (h : pv R d k = some i) : i < R.length ∧ d ≤ i ∧ ent R i k ≠ 0 := by
  unfold pv at h
  have h1 := List.find?_some h
  have h2 := List.mem_of_find?_eq_some h
  simp at h1 h2
  exact ⟨h2, h1.1, h1.2⟩
theorem pv_none {R : Mx} {d k i : Nat} (h : pv R d k = none) (hd : d ≤ i) (hi : i < R.length) : ent R i k = 0 := by
  unfold pv at h
  have := List.find?_eq_none.mp h i (List.mem_range.mpr hi)
  simp [hd] at this
  exact this
/-- what holds of the rows when k columns are done -/
structure Good (p : Int) (n : Nat) (k : Nat) (s : Sta) : Prop where
  wf : WF p n s.R
  dl : s.d = s.S.length
  dr : s.d ≤ s.R.length
  lt : ∀ c ∈ s.S, c < k
  nd : s.S.Pairwise (· < ·)
  one : ∀ (r : Nat) (c : Nat), s.S[r]? = some c → ∀ i, i < s.R.length → ent s.R i c = if i = r then 1 else 0
  low : ∀ i, s.d ≤ i → i < s.R.length → ∀ c, c < k → ent s.R i c = 0
  pre : ∀ (r : Nat) (c : Nat), s.S[r]? = some c → ∀ j, j < c → ent s.R r j = 0
theorem good_start {p : Int} {n : Nat} {M : Mx} (w : WF p n M) : Good p n 0 ⟨M, 0, []⟩ :=
  ⟨w, rfl, Nat.zero_le _, by simp, by simp, fun r c h => by simp at h, fun _ _ _ c h => absurd h (Nat.not_lt_zero _), fun r c h => by simp at h⟩
/-- the number that leads has an inverse -/
def HasInv (p : Int) : Prop := ∀ a, 0 < a → a < p → ∃ b, IsInv p a b
theorem good_step {p : Int} {n k : Nat} {s : Sta} (hp : 1 < p) (hI : HasInv p) (g : Good p n k s) : Good p n (k + 1) (stp p s k) := by
  unfold stp
  cases h : pv s.R s.d k with
  | none =>
    refine ⟨g.wf, g.dl, g.dr, fun c hc => by have := g.lt c hc; omega, g.nd, g.one, fun i h1 h2 c hc => ?_, g.pre⟩
    by_cases e : c = k
    · rw [e]; exact pv_none h h1 h2
    · exact g.low i h1 h2 c (by omega)
  | some i =>
    obtain ⟨hi, hd, hne⟩ := pv_some h
    have hdl : s.d < s.R.length := by omega
    have w1 := wf_swp g.wf hdl hi
    generalize hR1 : swp s.R s.d i = R1 at w1
    have len1 : R1.length = s.R.length := by rw [← hR1, len_swp]
    have r1 : ∀ r, row R1 r = if r = i then row s.R s.d else if r = s.d then row s.R i else row s.R r := fun r => by rw [← hR1, row_swp hdl hi]
    have e1 : ∀ r c, ent R1 r c = if r = i then ent s.R s.d c else if r = s.d then ent s.R i c else ent s.R r c := fun r c => by
      unfold ent
      rw [r1]
      split
      · rfl
      · split <;> rfl
    have a0 : ent R1 s.d k ≠ 0 := by
      rw [e1]
      split
      · rename_i z; rw [← z] at hne; exact hne
      · rw [if_pos rfl]; exact hne
    have ab := wf_nth w1 (by omega) s.d k
    have I := inv_is (Classical.choose_spec (hI (ent R1 s.d k) (by omega) ab.2))
    generalize hb : inv p (ent R1 s.d k) = b at I
    have below : ∀ r, s.d ≤ r → r < s.R.length → ∀ c, c < k → ent R1 r c = 0 := fun r h1 h2 c hc => by
      rw [e1]
      split
      · exact g.low _ (Nat.le_refl _) hdl c hc
      · split
        · exact g.low _ hd hi c hc
        · exact g.low _ h1 h2 c hc
    have same : ∀ r, r < s.d → ∀ c, ent R1 r c = ent s.R r c := fun r h1 c => by
      rw [e1, if_neg (by omega), if_neg (by omega)]
    -- the rows behind
    show Good p n (k + 1) ⟨clr p (inv p (ent (swp s.R s.d i) s.d k)) (swp s.R s.d i) s.d k, s.d + 1, s.S ++ [k]⟩
    rw [hR1, hb]
    have new : ∀ r, r < R1.length → ∀ c, ent (clr p b R1 s.d k) r c = if r = s.d then b * ent R1 s.d c % p else (ent R1 r c - ent R1 r k * (b * ent R1 s.d c % p)) % p := fun r hr c => by
      unfold ent
      rw [row_clr hr]
      split
      · rw [nth_scl]
      · rw [nth_led (by rw [len_scl, (wf_row w1 hr).1, (wf_row w1 (by rw [len1]; exact hdl)).1]), nth_scl]; rfl
    have z : ∀ r, r < R1.length → ∀ c, c < k → ent (clr p b R1 s.d k) r c = ent R1 r c := fun r hr c hc => by
      rw [new r hr c, below s.d (Nat.le_refl _) hdl c hc]
      split
      · rename_i e
        rw [e, below s.d (Nat.le_refl _) hdl c hc]; simp
      · have := wf_nth w1 (by omega) r c
        simp only [Int.mul_zero, Int.zero_emod, Int.sub_zero]
        exact Int.emod_eq_of_lt this.1 this.2
    have lead : b * ent R1 s.d k % p = 1 := by
      have h2 := I.2.2
      have : ent R1 s.d k * b % p = 1 % p := Int.emod_eq_emod_iff_emod_sub_eq_zero.mpr (Int.emod_eq_zero_of_dvd h2)
      rw [Int.mul_comm, this]
      exact Int.emod_eq_of_lt (by omega) hp
    have colk : ∀ r, r < R1.length → ent (clr p b R1 s.d k) r k = if r = s.d then 1 else 0 := fun r hr => by
      rw [new r hr k, lead]
      split
      · rfl
      · rw [Int.mul_one, Int.sub_self, Int.zero_emod]
    refine ⟨wf_clr (by omega) w1 (by rw [len1]; exact hdl), by simp [g.dl], by rw [len_clr, len1]; show s.d + 1 ≤ _; omega, fun c hc => ?_, ?_, fun r c hrc j hj => ?_, fun j h1 h2 c hc => ?_, fun r c hrc j hj => ?_⟩
    · rcases List.mem_append.mp hc with q | q
      · have := g.lt c q; omega
      · rw [List.mem_singleton.mp q]; omega
    · rw [List.pairwise_append]
      exact ⟨g.nd, by simp, fun x hx y hy => by rw [List.mem_singleton.mp hy]; exact g.lt x hx⟩
    · rw [len_clr] at hj
      have hrc' : (s.S ++ [k])[r]? = some c := hrc
      by_cases hr : r < s.S.length
      · rw [List.getElem?_append_left hr] at hrc'
        have hck : c < k := g.lt c (List.mem_of_getElem? hrc')
        rw [z j hj c hck]
        by_cases hjd : j < s.d
        · rw [same j hjd]
          exact g.one r c hrc' j (by omega)
        · rw [below j (by omega) (by omega) c hck, if_neg]
          have := g.dl
          omega
      · rw [List.getElem?_append_right (by omega)] at hrc'
        have hr0 : r - s.S.length = 0 := by
          refine Nat.eq_zero_of_not_pos fun q => ?_
          rw [List.getElem?_eq_none (by simp; omega)] at hrc'
          cases hrc'
        rw [hr0] at hrc'
        simp at hrc'
        subst hrc'
        have : r = s.d := by have := g.dl; omega
        rw [this]
        exact colk j hj
    · have h2' : j < R1.length := by rw [len_clr] at h2; exact h2
      have h1' : s.d + 1 ≤ j := h1
      by_cases e : c = k
      · rw [e, colk j h2', if_neg (by omega)]
      · rw [z j h2' c (by omega)]
        exact below j (by omega) (by omega) c (by omega)
    · have hrc' : (s.S ++ [k])[r]? = some c := hrc
      by_cases hr : r < s.S.length
      · rw [List.getElem?_append_left hr] at hrc'
        have hck : c < k := g.lt c (List.mem_of_getElem? hrc')
        have hrd : r < s.d := by have := g.dl; omega
        rw [z r (by omega) j (by omega), same r hrd]
        exact g.pre r c hrc' j hj
      · rw [List.getElem?_append_right (by omega)] at hrc'
        have hr0 : r - s.S.length = 0 := by
          refine Nat.eq_zero_of_not_pos fun q => ?_
          rw [List.getElem?_eq_none (by simp; omega)] at hrc'
          cases hrc'
        rw [hr0] at hrc'
        simp at hrc'
        subst hrc'
        have : r = s.d := by have := g.dl; omega
        rw [this, z s.d (by omega) j hj]
        exact below s.d (Nat.le_refl _) hdl j hj
theorem good_red {p : Int} {n : Nat} {M : Mx} (hp : 1 < p) (hI : HasInv p) (w : WF p n M) : ∀ k, Good p n k (red p M k)
  | 0 => good_start w
  | k + 1 => good_step hp hI (good_red hp hI w k)
theorem len_red {p : Int} {M : Mx} : ∀ k, (red p M k).R.length = M.length
  | 0 => rfl
  | k + 1 => by
    show (stp p (red p M k) k).R.length = _
    unfold stp
    cases pv (red p M k).R (red p M k).d k with
    | none => exact len_red k
    | some i => show (clr _ _ _ _ _).length = _; rw [len_clr, len_swp]; exact len_red k
end Own


namespace Own
/-! ### what rows make nought -/
def sumTo (f : Nat → Int) : Nat → Int
  | 0 => 0
  | n + 1 => sumTo f n + f n
def dot (n : Nat) (u v : Ro) : Int := sumTo (fun k => nth u k * nth v k) n
theorem sumTo_congr {f g : Nat → Int} : ∀ {n : Nat}, (∀ k, k < n → f k = g k) → sumTo f n = sumTo g n
  | 0, _ => rfl
  | n + 1, h => by
    show sumTo f n + f n = sumTo g n + g n
    rw [sumTo_congr fun k hk => h k (by omega), h n (by omega)]
theorem sumTo_mul {f : Nat → Int} {c : Int} : ∀ {n : Nat}, sumTo (fun k => c * f k) n = c * sumTo f n
  | 0 => by simp [sumTo]
  | n + 1 => by
    show sumTo _ n + c * f n = c * (sumTo f n + f n)
    rw [sumTo_mul, Int.mul_add]
theorem sumTo_sub {f g : Nat → Int} : ∀ {n : Nat}, sumTo (fun k => f k - g k) n = sumTo f n - sumTo g n
  | 0 => rfl
  | n + 1 => by
    show sumTo _ n + (f n - g n) = sumTo f n + f n - (sumTo g n + g n)
    rw [sumTo_sub]; omega
theorem sumTo_dvd {p : Int} {f : Nat → Int} : ∀ {n : Nat}, (∀ k, k < n → p ∣ f k) → p ∣ sumTo f n
  | 0, _ => Int.dvd_zero p
  | n + 1, h => Int.dvd_add (sumTo_dvd fun k hk => h k (by omega)) (h n (by omega))
theorem sumTo_near {p : Int} {f g : Nat → Int} {n : Nat} (h : ∀ k, k < n → p ∣ f k - g k) : p ∣ sumTo f n - sumTo g n := by
  rw [← sumTo_sub]; exact sumTo_dvd h
theorem sumTo_zero : ∀ {n : Nat} {f : Nat → Int}, (∀ k, k < n → f k = 0) → sumTo f n = 0
  | 0, _, _ => rfl
  | n + 1, f, h => by
    show sumTo f n + f n = 0
    rw [sumTo_zero fun k hk => h k (by omega), h n (by omega)]; rfl
theorem sumTo_upd {f g : Nat → Int} {i : Nat} : ∀ {n : Nat}, (∀ k, k < n → k ≠ i → g k = f k) → i < n → sumTo g n = sumTo f n + (g i - f i)
  | n + 1, h, hi => by
    show sumTo g n + g n = sumTo f n + f n + (g i - f i)
    by_cases e : i = n
    · subst e
      rw [sumTo_congr fun k hk => h k (by omega) (by omega)]; omega
    · rw [sumTo_upd (fun k hk => h k (by omega)) (by omega), h n (by omega) (fun z => e z.symm)]; omega
theorem dot_comm {n : Nat} {u v : Ro} : dot n u v = dot n v u := sumTo_congr fun k _ => Int.mul_comm _ _
theorem near_mod {p x : Int} : p ∣ x % p - x := by
  rw [Int.emod_def]
  exact ⟨-(x / p), by rw [Int.mul_neg]; omega⟩
theorem near_mul {p x y z : Int} (h : p ∣ x - y) : p ∣ x * z - y * z := by
  rw [← Int.sub_mul]; exact Int.dvd_mul_of_dvd_left h
theorem dot_scl {p b : Int} {n : Nat} {r x : Ro} : p ∣ dot n (scl p b r) x - b * dot n r x := by
  unfold dot
  rw [← sumTo_mul]
  refine sumTo_near fun k _ => ?_
  rw [nth_scl, ← Int.mul_assoc]
  exact near_mul near_mod
theorem dot_led {p f : Int} {n : Nat} {r c x : Ro} (h : r.length = c.length) : p ∣ dot n (led p f r c) x - (dot n r x - f * dot n c x) := by
  unfold dot
  rw [← sumTo_mul, ← sumTo_sub]
  refine sumTo_near fun k _ => ?_
  rw [nth_led h, ← Int.mul_assoc, ← Int.sub_mul]
  exact near_mul near_mod
/-- all rows make x nought -/
def Kil (p : Int) (n : Nat) (R : Mx) (x : Ro) : Prop := ∀ i, i < R.length → p ∣ dot n (row R i) x
theorem kil_swp {p : Int} {n : Nat} {R : Mx} {x : Ro} {i j : Nat} (hi : i < R.length) (hj : j < R.length) : Kil p n (swp R i j) x ↔ Kil p n R x := by
  have f : ∀ {R : Mx} {i j : Nat}, i < R.length → j < R.length → Kil p n R x → Kil p n (swp R i j) x := fun hi hj k m hm => by
    rw [len_swp] at hm
    rw [row_swp hi hj]
    split
    · exact k _ hi
    · split
      · exact k _ hj
      · exact k _ hm
  refine ⟨fun k m hm => ?_, f hi hj⟩
  by_cases e1 : m = i
  · have := k j (by rw [len_swp]; exact hj)
    rw [row_swp hi hj, if_pos rfl] at this
    rw [e1]; exact this
  · by_cases e2 : m = j
    · have := k i (by rw [len_swp]; exact hi)
      rw [row_swp hi hj] at this
      by_cases e3 : i = j
      · omega
      · rw [if_neg e3, if_pos rfl] at this
        rw [e2]; exact this
    · have := k m (by rw [len_swp]; exact hm)
      rwa [row_swp hi hj, if_neg e2, if_neg e1] at this
theorem dvd_of_near {p x y : Int} (h : p ∣ x - y) (k : p ∣ y) : p ∣ x := by
  have := Int.dvd_add h k
  rwa [Int.sub_add_cancel] at this
theorem dvd_of_near' {p x y : Int} (h : p ∣ x - y) (k : p ∣ x) : p ∣ y := by
  have := Int.dvd_sub k h
  rwa [Int.sub_sub_self] at this
theorem kil_clr {p b : Int} {n k d : Nat} {R : Mx} {x : Ro} (w : WF p n R) (hd : d < R.length) (h : Kil p n R x) : Kil p n (clr p b R d k) x := fun m hm => by
  rw [len_clr] at hm
  rw [row_clr hm]
  have c : p ∣ dot n (scl p b (row R d)) x := dvd_of_near dot_scl (Int.dvd_mul_of_dvd_right (h d hd))
  split
  · exact c
  · exact dvd_of_near (dot_led (by rw [len_scl, (wf_row w hd).1, (wf_row w hm).1])) (Int.dvd_sub (h m hm) (Int.dvd_mul_of_dvd_right c))
theorem kil_clr' {p b : Int} {n k d : Nat} {R : Mx} {x : Ro} (w : WF p n R) (hd : d < R.length) (I : p ∣ ent R d k * b - 1) (h : Kil p n (clr p b R d k) x) : Kil p n R x := fun m hm => by
  have c : p ∣ dot n (scl p b (row R d)) x := by
    have := h d (by rw [len_clr]; exact hd)
    rwa [row_clr hd, if_pos rfl] at this
  by_cases e : m = d
  · rw [e]
    have h1 : p ∣ b * dot n (row R d) x := dvd_of_near' dot_scl c
    have h2 : p ∣ ent R d k * (b * dot n (row R d) x) := Int.dvd_mul_of_dvd_right h1
    have h3 := near_mul (z := dot n (row R d) x) I
    rw [Int.one_mul, Int.mul_assoc] at h3
    exact dvd_of_near' h3 h2
  · have h1 := h m (by rw [len_clr]; exact hm)
    rw [row_clr hm, if_neg e] at h1
    have h2 := dvd_of_near' (dot_led (by rw [len_scl, (wf_row w hd).1, (wf_row w hm).1])) h1
    have h3 := Int.dvd_add h2 (Int.dvd_mul_of_dvd_right (b := ent R m k) c)
    rwa [Int.sub_add_cancel] at h3
theorem kil_stp {p : Int} {n k : Nat} {s : Sta} {x : Ro} (hp : 1 < p) (hI : HasInv p) (g : Good p n k s) : Kil p n (stp p s k).R x ↔ Kil p n s.R x := by
  unfold stp
  cases h : pv s.R s.d k with
  | none => exact Iff.rfl
  | some i =>
    obtain ⟨hi, hd, hne⟩ := pv_some h
    have hdl : s.d < s.R.length := by omega
    have w1 := wf_swp g.wf hdl hi
    have a0 : ent (swp s.R s.d i) s.d k ≠ 0 := by
      unfold ent
      rw [row_swp hdl hi]
      split
      · rename_i z; rw [← z] at hne; exact hne
      · rw [if_pos rfl]; exact hne
    have ab := wf_nth w1 (by omega) s.d k
    have I := inv_is (Classical.choose_spec (hI _ (by omega) ab.2))
    show Kil p n (clr p (inv p (ent (swp s.R s.d i) s.d k)) (swp s.R s.d i) s.d k) x ↔ _
    have hd' : s.d < (swp s.R s.d i).length := by rw [len_swp]; exact hdl
    exact ⟨fun q => (kil_swp hdl hi).mp (kil_clr' w1 hd' I.2.2 q), fun q => kil_clr w1 hd' ((kil_swp hdl hi).mpr q)⟩
theorem kil_red {p : Int} {n : Nat} {M : Mx} {x : Ro} (hp : 1 < p) (hI : HasInv p) (w : WF p n M) : ∀ k, Kil p n (red p M k).R x ↔ Kil p n M x
  | 0 => Iff.rfl
  | k + 1 => (kil_stp hp hI (good_red hp hI w k)).trans (kil_red hp hI w k)
/-! the rows of the kernel -/
def vecT (p : Int) (R : Mx) (S : List Nat) (n f : Nat) : Nat → Ro
  | 0 => (List.replicate n (0 : Int)).set f 1
  | t + 1 => (vecT p R S n f t).set (S.getD t 0) (-(ent R t f) % p)
def frees (n : Nat) (S : List Nat) : List Nat := (List.range n).filter fun k => !decide (k ∈ S)
noncomputable def kerM (p : Int) (M : Mx) (n : Nat) : Mx := (frees n (red p M n).S).map fun f => vecT p (red p M n).R (red p M n).S n f (red p M n).d
noncomputable def ker (p : Int) (M : Mx) (n : Nat) : Mx := (red p (kerM p M n) n).R.take (red p (kerM p M n) n).d
theorem len_vecT {p : Int} {R : Mx} {S : List Nat} {n f : Nat} : ∀ t, (vecT p R S n f t).length = n
  | 0 => by simp [vecT]
  | t + 1 => by simp [vecT, len_vecT t]
theorem nth_set {r : Ro} {i j : Nat} {y : Int} (h : i < r.length) : nth (r.set i y) j = if j = i then y else nth r j := by
  unfold nth
  rw [List.getD_eq_getElem?_getD, List.getD_eq_getElem?_getD, List.getElem?_set]
  by_cases e : i = j
  · subst e; simp [h]
  · simp [e, Ne.symm e]
theorem wf_vecT {p : Int} (hp : 1 < p) {R : Mx} {S : List Nat} {n f : Nat} : ∀ t, ∀ x ∈ vecT p R S n f t, 0 ≤ x ∧ x < p
  | 0 => fun x hx => by
    rcases List.mem_or_eq_of_mem_set hx with q | q
    · rw [(List.mem_replicate.mp q).2]; omega
    · omega
  | t + 1 => fun x hx => by
    rcases List.mem_or_eq_of_mem_set hx with q | q
    · exact wf_vecT hp t x q
    · rw [q]; exact ⟨Int.emod_nonneg _ (by omega), Int.emod_lt_of_pos _ (by omega)⟩
theorem wf_kerM {p : Int} (hp : 1 < p) {M : Mx} {n : Nat} : WF p n (kerM p M n) := fun r hr => by
  obtain ⟨f, _, rfl⟩ := List.mem_map.mp hr
  exact ⟨len_vecT _, wf_vecT hp _⟩
theorem S_at {S : List Nat} {t : Nat} (h : t < S.length) : S[t]? = some (S.getD t 0) := by rw [getD_lt h, List.getElem?_eq_getElem h]
theorem vec_kil {p : Int} {n : Nat} {s : Sta} {f : Nat} (g : Good p n n s) (hf : f < n) (hS : f ∉ s.S) : Kil p n s.R (vecT p s.R s.S n f s.d) := by
  have inj : ∀ a b, a < s.d → b < s.d → s.S.getD a 0 = s.S.getD b 0 → a = b := fun a b ha hb e => by
    have dl := g.dl
    have h1 := S_at (S := s.S) (t := a) (by omega)
    have h2 := S_at (S := s.S) (t := b) (by omega)
    have q1 := g.one a _ h1 a (by have := g.dr; omega)
    have q2 := g.one b _ h2 a (by have := g.dr; omega)
    rw [← e, q1, if_pos rfl] at q2
    by_cases z : a = b
    · exact z
    · rw [if_neg z] at q2; cases q2
  have nf : ∀ a, a < s.d → s.S.getD a 0 ≠ f := fun a ha e => hS (by rw [← e]; exact List.mem_of_getElem? (S_at (by have := g.dl; omega)))
  have Sn : ∀ a, a < s.d → s.S.getD a 0 < n := fun a ha => g.lt _ (List.mem_of_getElem? (S_at (by have := g.dl; omega)))
  -- the places that are still nought
  have z : ∀ t, t ≤ s.d → ∀ a, t ≤ a → a < s.d → nth (vecT p s.R s.S n f t) (s.S.getD a 0) = 0 := by
    intro t
    induction t with
    | zero =>
      intro _ a _ ha
      show nth ((List.replicate n (0 : Int)).set f 1) _ = 0
      rw [nth_set (by simpa using hf), if_neg (nf a ha)]
      unfold nth
      rw [List.getD_eq_getElem?_getD, List.getElem?_replicate]
      split <;> rfl
    | succ t ih =>
      intro ht a h1 h2
      show nth ((vecT p s.R s.S n f t).set _ _) _ = 0
      rw [nth_set (by rw [len_vecT]; exact Sn t (by omega)), if_neg (fun e => by have := inj a t h2 (by omega) e; omega)]
      exact ih (by omega) a (by omega) h2
  have main : ∀ i, i < s.R.length → ∀ t, t ≤ s.d → dot n (row s.R i) (vecT p s.R s.S n f t) = ent s.R i f + if i < t then -(ent s.R i f) % p else 0 := by
    intro i hi t
    induction t with
    | zero =>
      intro _
      rw [if_neg (Nat.not_lt_zero _), Int.add_zero]
      have e0 : dot n (row s.R i) (List.replicate n (0 : Int)) = 0 := sumTo_zero fun k hk => by
        have : nth (List.replicate n (0 : Int)) k = 0 := by
          unfold nth
          rw [List.getD_eq_getElem?_getD, List.getElem?_replicate]
          split <;> rfl
        rw [this, Int.mul_zero]
      have e1 : dot n (row s.R i) ((List.replicate n (0 : Int)).set f 1) = _ := sumTo_upd (f := fun k => nth (row s.R i) k * nth (List.replicate n (0 : Int)) k) (i := f) (fun k hk hne => by
        show nth (row s.R i) k * nth ((List.replicate n (0 : Int)).set f 1) k = _
        rw [nth_set (by simpa using hf), if_neg hne]) hf
      show dot n (row s.R i) ((List.replicate n (0 : Int)).set f 1) = _
      rw [e1]
      show dot n (row s.R i) (List.replicate n (0 : Int)) + (nth (row s.R i) f * nth ((List.replicate n (0 : Int)).set f 1) f - nth (row s.R i) f * nth (List.replicate n (0 : Int)) f) = _
      have : nth (List.replicate n (0 : Int)) f = 0 := by
        unfold nth
        rw [List.getD_eq_getElem?_getD, List.getElem?_replicate]
        split <;> rfl
      rw [e0, nth_set (by simpa using hf), if_pos rfl, this]
      unfold ent
      omega
    | succ t ih =>
      intro ht
      have h0 := ih (by omega)
      have hS := S_at (S := s.S) (t := t) (by have := g.dl; omega)
      have e1 : dot n (row s.R i) ((vecT p s.R s.S n f t).set (s.S.getD t 0) (-(ent s.R t f) % p)) = _ := sumTo_upd (f := fun k => nth (row s.R i) k * nth (vecT p s.R s.S n f t) k) (i := s.S.getD t 0) (fun k hk hne => by
        show nth (row s.R i) k * nth ((vecT p s.R s.S n f t).set _ _) k = _
        rw [nth_set (by rw [len_vecT]; exact Sn t (by omega)), if_neg hne]) (Sn t (by omega))
      show dot n (row s.R i) ((vecT p s.R s.S n f t).set (s.S.getD t 0) (-(ent s.R t f) % p)) = _
      rw [e1]
      show dot n (row s.R i) (vecT p s.R s.S n f t) + (ent s.R i (s.S.getD t 0) * nth ((vecT p s.R s.S n f t).set _ _) (s.S.getD t 0) - ent s.R i (s.S.getD t 0) * nth (vecT p s.R s.S n f t) (s.S.getD t 0)) = _
      rw [h0, nth_set (by rw [len_vecT]; exact Sn t (by omega)), if_pos rfl, z t (by omega) t (Nat.le_refl _) (by omega), g.one t _ hS i hi]
      by_cases e : i = t
      · subst e
        rw [if_pos rfl, if_neg (Nat.lt_irrefl _), if_pos (Nat.lt_succ_self _)]; omega
      · rw [if_neg e]
        by_cases c : i < t
        · rw [if_pos c, if_pos (by omega)]; omega
        · rw [if_neg c, if_neg (by omega)]; omega
  intro i hi
  rw [main i hi s.d (Nat.le_refl _)]
  by_cases c : i < s.d
  · rw [if_pos c]
    have := near_mod (p := p) (x := -(ent s.R i f))
    rw [show ent s.R i f + -(ent s.R i f) % p = -(ent s.R i f) % p - -(ent s.R i f) by omega]
    exact this
  · rw [if_neg c, g.low i (by omega) hi f hf]
    exact Int.dvd_zero p
/-- the kernel's rows are made nought by the matrix -/
theorem ker_kil {p : Int} {n : Nat} {M : Mx} (hp : 1 < p) (hI : HasInv p) (w : WF p n M) {v m : Ro} (hv : v ∈ ker p M n) (hm : m ∈ M) : p ∣ dot n m v := by
  obtain ⟨j, hj, ej⟩ := mem_row hm
  have h1 : Kil p n (kerM p M n) m := fun i hi => by
    obtain ⟨f, hf, e⟩ := List.mem_map.mp (row_mem hi)
    have e : _ = row (kerM p M n) i := e
    rw [← e, dot_comm, ← ej]
    obtain ⟨f1, f2⟩ := List.mem_filter.mp hf
    exact (kil_red hp hI w n).mp (vec_kil (good_red hp hI w n) (List.mem_range.mp f1) (by simpa using f2)) j hj
  have h2 := (kil_red hp hI (wf_kerM hp (M := M)) n).mpr h1
  obtain ⟨i, hi, ei⟩ := mem_row (List.mem_of_mem_take hv)
  rw [← ei, dot_comm]
  exact h2 i hi
end Own


namespace Own
open PySem PySem.Spec PyProof.Rows L2
open Evl
/-! ### a list or a tuple, whatever it is -/
def SqA (K : PySem.W.Frag) (H : Hp) (a : Addr) (xs : List V) : Prop := SqL K H a xs ∨ SqT K H a xs
def iSeq (K : PySem.W.Frag) (te : TE) : TI := fun σ H R => iList K te σ H R ∨ iTup K te σ H R
theorem pi_seq {X : Cx} {tg e : Expr} {te : TE} (h : PE X e te) : PI X tg e (iSeq X.K te) := ⟨fun pins s σ H R I w => by
  rcases w with w | w
  · exact (pi_list h).run pins s σ H R I w
  · exact (pi_tup h).run pins s σ H R I w⟩
end Own
namespace Own
open PySem PySem.Spec PyProof.Rows L2
open Evl
section
variable {K : PySem.W.Frag} {σ : L2.St} {H H' : Hp} {te ta tb : TE} {x y z w : V} {D : Ends} {tz tu t : TS}
theorem s_par {i j : Nat} {ta : TA} (h : EvA ta σ H [x, y]) (k : ∀ H1, Ex H H1 → D.nx ((σ.set i (some x)).set j (some y)) H1) : tPar i j ta D σ H :=
  h H (.refl H) _ fun H1 e => ⟨x, y, rfl, k H1 e⟩
theorem q_par {i j : Nat} {ta : TA} (h : EvA ta σ H [x, y]) (k : ∀ H1, Ex H H1 → tz D ((σ.set i (some x)).set j (some y)) H1) : tSeq (tPar i j ta) tz D σ H := s_par (D := { D with nx := tz D }) h k
/-- a, b, c, d = .. -/
theorem s_tup4 {i j l m : Nat} {ta : TA} (h : EvA ta σ H [x, y, z, w]) (k : ∀ H1, Ex H H1 → D.nx ((((σ.set i (some x)).set j (some y)).set l (some z)).set m (some w)) H1) :
    tAsg (tTup ta) (gTup K 4 (gCons (gName i) (gCons (gName j) (gCons (gName l) (gCons (gName m) gNil))))) D σ H :=
  h H (.refl H) _ fun H1 e => ⟨by show 4 ≤ sizeLine; decide, fun p np => ⟨p, _, rfl, st_of upd_same, rfl, x, _, rfl, y, _, rfl, z, _, rfl, w, _, rfl, rfl, k _ (e.trans (Ex.new np))⟩⟩
theorem q_tup4 {i j l m : Nat} {ta : TA} (h : EvA ta σ H [x, y, z, w]) (k : ∀ H1, Ex H H1 → tz D ((((σ.set i (some x)).set j (some y)).set l (some z)).set m (some w)) H1) :
    tSeq (tAsg (tTup ta) (gTup K 4 (gCons (gName i) (gCons (gName j) (gCons (gName l) (gCons (gName m) gNil)))))) tz D σ H := s_tup4 (D := { D with nx := tz D }) h k
theorem ea_4 {tc td : TE} (h : Ev ta σ H x) (h2 : Ev tb σ H y) (h3 : Ev tc σ H z) (h4 : Ev td σ H w) : EvA (tCons ta (tCons tb (tCons tc (tCons td tNil)))) σ H [x, y, z, w] := ea_cons h (ea_3 h2 h3 h4)
theorem ev_gtV {i j : Int} (ha : Ev ta σ H (.int i)) (hb : Ev tb σ H (.int j)) : Ev (tOp rGtI ta tb) σ H (.bl (decide (j < i))) := ev_op ha hb rv_I0
/-- a, b = .. by a tuple -/
theorem s_tup2 {i j : Nat} {ta : TA} (h : EvA ta σ H [x, y]) (k : ∀ H1, Ex H H1 → D.nx ((σ.set i (some x)).set j (some y)) H1) : tAsg (tTup ta) (gTup K 2 (gCons (gName i) (gCons (gName j) gNil))) D σ H :=
  h H (.refl H) _ fun H1 e => ⟨by show 2 ≤ sizeLine; decide, fun p np => ⟨p, _, rfl, st_of upd_same, rfl, x, _, rfl, y, _, rfl, rfl, k _ (e.trans (Ex.new np))⟩⟩
theorem q_tup2 {i j : Nat} {ta : TA} (h : EvA ta σ H [x, y]) (k : ∀ H1, Ex H H1 → tz D ((σ.set i (some x)).set j (some y)) H1) : tSeq (tAsg (tTup ta) (gTup K 2 (gCons (gName i) (gCons (gName j) gNil)))) tz D σ H := s_tup2 (D := { D with nx := tz D }) h k
theorem ints_at {r : Ro} {i : Nat} (h : i < r.length) : (r.map V.int)[i]? = some (.int (nth r i)) := by
  unfold nth
  rw [getD_lt h, List.getElem?_map, List.getElem?_eq_getElem h]
  rfl
theorem ints_atI {r : Ro} {i : Nat} (h : i < r.length) : atI (r.map V.int) (i : Int) = some (.int (nth r i)) := atI_nat (ints_at h)
theorem row_range {r : Ro} {n : Nat} {f : Nat → Int} (hl : r.length = n) (h : ∀ i, i < n → f i = nth r i) : (List.range n).map (fun i => V.int (f i)) = r.map V.int := by
  apply List.ext_getElem?
  intro i
  by_cases c : i < n
  · rw [ints_at (by omega), List.getElem?_map, List.getElem?_range c]
    show some (V.int (f i)) = _
    rw [h i c]
  · rw [List.getElem?_eq_none (by simp; omega), List.getElem?_eq_none (by simp; omega)]
end
end Own


namespace Own
open PySem PySem.Spec PyProof.Rows L2
open Evl
/-! ### matrices: a list of lists that may change, a tuple of tuples, any lot of lots -/
def MLr (l : Addr) (refs : List Addr) (R : Mx) (H : Hp) : Prop := H l = some (.lst (refs.map V.ref)) ∧ refs.length = R.length ∧ ∀ i b, refs[i]? = some b → b ≠ l ∧ H b = some (.lst ((row R i).map V.int))
def MT (K : PySem.W.Frag) (t : Addr) (M : Mx) (H : Hp) : Prop := ∃ refs : List Addr, SqT K H t (refs.map V.ref) ∧ refs.length = M.length ∧ ∀ i b, refs[i]? = some b → SqT K H b ((row M i).map V.int)
def MS (K : PySem.W.Frag) (m : Addr) (M : Mx) (H : Hp) : Prop := ∃ refs : List Addr, SqA K H m (refs.map V.ref) ∧ refs.length = M.length ∧ ∀ i b, refs[i]? = some b → SqA K H b ((row M i).map V.int)
def ExB (l : Addr) (H H' : Hp) : Prop := ∀ b o, b ≠ l → H b = some o → H' b = some o
theorem ExB.ex {l : Addr} {H H' : Hp} (e : Ex H H') : ExB l H H' := fun b o _ h => e b o h
theorem ExB.trans {l : Addr} {H H1 H2 : Hp} (x : ExB l H H1) (y : ExB l H1 H2) : ExB l H H2 := fun b o n h => y b o n (x b o n h)
theorem ExB.upd {l : Addr} {H : Hp} {o : HO} : ExB l H (upd H l o) := fun b u n h => by rw [upd_ne n]; exact h
theorem ExB.to {l : Addr} {H0 H H' : Hp} (n : H0 l = none) (e : Ex H0 H) (x : ExB l H H') : Ex H0 H' := fun b o h => x b o (ne_of_none h n) (e b o h)
section
variable {K : PySem.W.Frag} {σ : L2.St} {H H' : Hp} {te ta tb tl : TE} {x y z w : V} {D : Ends} {tz tu t : TS} {R M : Mx} {l m : Addr} {refs : List Addr}
theorem ex_a {a : Addr} {xs : List V} (e : Ex H H') (h : SqA K H a xs) : SqA K H' a xs := h.imp (ex_l e) (ex_t e)
theorem MLr.ex (e : Ex H H') (h : MLr l refs R H) : MLr l refs R H' := ⟨e _ _ h.1, h.2.1, fun i b hb => ⟨(h.2.2 i b hb).1, e _ _ (h.2.2 i b hb).2⟩⟩
theorem MT.ex (e : Ex H H') (h : MT K m M H) : MT K m M H' := let ⟨r, h1, h2, h3⟩ := h; ⟨r, ex_t e h1, h2, fun i b hb => ex_t e (h3 i b hb)⟩
theorem MS.ex (e : Ex H H') (h : MS K m M H) : MS K m M H' := let ⟨r, h1, h2, h3⟩ := h; ⟨r, ex_a e h1, h2, fun i b hb => ex_a e (h3 i b hb)⟩
theorem MT.ms (h : MT K m M H) : MS K m M H := let ⟨r, h1, h2, h3⟩ := h; ⟨r, .inr h1, h2, fun i b hb => .inr (h3 i b hb)⟩
theorem MLr.ms (h : MLr l refs R H) : MS K l R H := ⟨refs, .inl (sq_of h.1), h.2.1, fun i b hb => .inl (sq_of (h.2.2 i b hb).2)⟩
theorem MLr.at (h : MLr l refs R H) {i : Nat} (hi : i < R.length) : ∃ b, refs[i]? = some b ∧ b ≠ l ∧ H b = some (.lst ((row R i).map V.int)) := by
  have : i < refs.length := by rw [h.2.1]; exact hi
  exact ⟨refs[i], List.getElem?_eq_getElem this, h.2.2 i _ (List.getElem?_eq_getElem this)⟩
theorem refs_at {i : Nat} {b : Addr} (h : refs[i]? = some b) : (refs.map V.ref)[i]? = some (.ref b) := by rw [List.getElem?_map, h]; rfl
theorem ev_row {i : Nat} {b : Addr} (hl : Ev ta σ H (.ref l)) (hi : Ev tb σ H (.int (i : Int))) (h : MLr l refs R H) (hb : refs[i]? = some b) : Ev (tOp (rIxL K) ta tb) σ H (.ref b) :=
  ev_ixL hl hi (sq_of h.1) (atI_nat (refs_at hb))
theorem ev_ent {i k : Nat} {tc : TE} (hl : Ev ta σ H (.ref l)) (hi : Ev tb σ H (.int (i : Int))) (hk : Ev tc σ H (.int (k : Int))) (h : MLr l refs R H) (h1 : i < R.length) (h2 : k < (row R i).length) :
    Ev (tOp (rIxL K) (tOp (rIxL K) ta tb) tc) σ H (.int (ent R i k)) := by
  obtain ⟨b, hb, _, hx⟩ := h.at h1
  exact ev_ixL (ev_row hl hi h hb) hk (sq_of hx) (ints_atI h2)
theorem MLr.set {i : Nat} {b : Addr} {r : Ro} (h : MLr l refs R H) (hi : i < R.length) (nb : b ≠ l) (hb : H b = some (.lst (r.map V.int))) : MLr l (refs.set i b) (R.set i r) (upd H l (.lst ((refs.map V.ref).set i (.ref b)))) := by
  refine ⟨by rw [upd_same, List.map_set], by simp [h.2.1], fun j c hc => ?_⟩
  rw [List.getElem?_set] at hc
  rw [row_set hi]
  by_cases e : i = j
  · subst e
    rw [if_pos rfl, if_pos (by rw [h.2.1]; exact hi)] at hc
    injection hc with hc
    subst hc
    exact ⟨nb, by rw [upd_ne nb, if_pos rfl]; exact hb⟩
  · rw [if_neg e] at hc
    rw [if_neg (Ne.symm e)]
    obtain ⟨n1, h1⟩ := h.2.2 j c hc
    exact ⟨n1, by rw [upd_ne n1]; exact h1⟩
theorem pv_found {d k i : Nat} (h1 : i < R.length) (h2 : d ≤ i) (h3 : ent R i k ≠ 0) (h4 : ∀ j, d ≤ j → j < i → ent R j k = 0) : pv R d k = some i := by
  unfold pv
  rw [List.find?_range_eq_some]
  refine ⟨by simp [h2, h3], List.mem_range.mpr h1, fun j hj => ?_⟩
  by_cases c : d ≤ j
  · simp [h4 j c hj]
  · simp [c]
theorem pv_not {d k : Nat} (h : ∀ j, d ≤ j → j < R.length → ent R j k = 0) : pv R d k = none := by
  cases e : pv R d k with
  | none => rfl
  | some i =>
    obtain ⟨h1, h2, h3⟩ := pv_some e
    exact absurd (h i h2 h1) h3
/-- l[j] = a new list -/
theorem s_setLL {xs ys : List V} {j : Nat} (hl : H l = some (.lst xs)) (h : EvL te σ H ys) (ho : ∀ H1, Ex H H1 → Ev ta σ H1 (.ref l)) (hi : ∀ H1, Ex H H1 → Ev tb σ H1 (.int (j : Int))) (hj : j < xs.length)
    (k : ∀ p H1, H p = none → Ex H H1 → H1 p = some (.lst ys) → D.nx σ (upd H1 l (.lst (xs.set j (.ref p))))) : tAsg te (gSub ta tb rSetL) D σ H :=
  h H (.refl H) _ fun p H1 hp e hx => ho H1 e H1 (.refl H1) _ fun H2 e2 => hi H2 (e.trans e2) H2 (.refl H2) _ fun H3 e3 => ⟨l, xs, (j : Int), j, rfl, rfl, ((e.trans e2).trans e3) l _ hl, ixN_nat hj, k p H3 hp ((e.trans e2).trans e3) (e3 p _ (e2 p _ hx))⟩
/-- swapping two rows -/
theorem s_swap {i d : Nat} {bi bd : Addr} (h : MLr l refs R H) (hi : i < R.length) (hd : d < R.length) (hbi : refs[i]? = some bi) (hbd : refs[d]? = some bd) {s0 s1 : TE}
    (e0 : ∀ H1, Ev s0 σ H1 (.ref l)) (e1 : ∀ H1, Ev s1 σ H1 (.int (d : Int))) {ti : TE} {ta : TA} (ha : EvA ta σ H [.ref bi, .ref bd]) (e3 : ∀ H1, ExB l H H1 → Ev ti σ H1 (.int (i : Int)))
    (k : ∀ refs1 H1, ExB l H H1 → MLr l refs1 (swp R d i) H1 → D.nx σ H1) :
    tAsg (tTup ta) (gTup K 2 (gCons (gSub s0 s1 rSetL) (gCons (gSub s0 ti rSetL) gNil))) D σ H := by
  refine ha H (.refl H) _ fun H1 x1 => ⟨by show 2 ≤ sizeLine; decide, fun p np => ⟨p, _, rfl, st_of upd_same, rfl, _, _, rfl, ?_⟩⟩
  have x2 : Ex H (upd H1 p (.tup [.ref bi, .ref bd])) := x1.trans (Ex.new np)
  generalize upd H1 p (.tup [.ref bi, .ref bd]) = H2 at x2
  refine e0 H2 H2 (.refl H2) _ fun H3 x3 => e1 H3 H3 (.refl H3) _ fun H4 x4 => ?_
  have E4 := (x2.trans x3).trans x4
  have h4 := h.ex E4
  refine ⟨l, _, _, d, rfl, rfl, h4.1, ixN_nat (by rw [List.length_map, h.2.1]; exact hd), ?_⟩
  obtain ⟨ni, hxi⟩ := h4.2.2 i bi hbi
  obtain ⟨nd, hxd⟩ := h4.2.2 d bd hbd
  have h5 := h4.set hd ni hxi
  have b5 : ExB l H (upd H4 l (.lst ((refs.map V.ref).set d (.ref bi)))) := (ExB.ex E4).trans ExB.upd
  have hxd5 : (upd H4 l (.lst ((refs.map V.ref).set d (.ref bi)))) bd = some (.lst ((row R d).map V.int)) := by rw [upd_ne nd]; exact hxd
  generalize upd H4 l (.lst ((refs.map V.ref).set d (.ref bi))) = H5 at h5 b5 hxd5
  refine ⟨_, _, rfl, ?_⟩
  refine e0 H5 H5 (.refl H5) _ fun H6 x6 => ?_
  refine e3 H6 (b5.trans (.ex x6)) H6 (.refl H6) _ fun H7 x7 => ?_
  have E7 := x6.trans x7
  have h7 := h5.ex E7
  refine ⟨l, _, _, i, rfl, rfl, h7.1, ixN_nat (by simp [h.2.1]; exact hi), ?_⟩
  have h8 := h7.set (i := i) (by simpa using hi) nd (E7 _ _ hxd5)
  exact ⟨rfl, k _ _ ((b5.trans (.ex E7)).trans ExB.upd) h8⟩
/-! comprehensions whose items are new lists or tuples -/
def EvH (te : TE) (σ : L2.St) (H : Hp) (o : HO) : Prop := ∀ H1, Ex H H1 → ∀ Q : VK, (∀ p H2, H1 p = none → Ex H1 H2 → H2 p = some o → Q (.ref p) H2) → te σ H1 Q
def EvN (te : TE) (σ : L2.St) (H : Hp) (P : Addr → Hp → Prop) : Prop := ∀ H1, Ex H H1 → ∀ Q : VK, (∀ l H2, H1 l = none → Ex H1 H2 → P l H2 → Q (.ref l) H2) → te σ H1 Q
def LsO (n : Nat) (o : Nat → HO) : Addr → Hp → Prop := fun l H => ∃ refs : List Addr, H l = some (.lst (refs.map V.ref)) ∧ refs.length = n ∧ ∀ i b, refs[i]? = some b → b ≠ l ∧ H b = some (o i)
theorem yesT {A B : Hp → Prop} (h : A H) : tYes σ H fun b H3 => if b = true then A H3 else B H3 := by
  show (if true = true then A H else B H)
  rw [if_pos rfl]
  exact h
theorem lcN {J : It} {n : Nat} {xs : List V} {o : Nat → HO} {j : Nat} {vs : List Nat} {H1 : Hp} {Qd : Addr → Hp → Prop} (G : Hp → Prop) (w : Walk J n G (YAt xs)) (hG : ∀ H', Ex H1 H' → G H') (hn : n ≤ 40000) (hw : ∀ x, wipe ((wipe σ vs).set j (some x)) vs = wipe σ vs)
    (he : ∀ i x H', Ex H1 H' → xs[i]? = some x → i < n → EvH te ((wipe σ vs).set j (some x)) H' (o i)) {Dl : Addr} (hD : H1 Dl = none) (hd : ∀ H', Ex H1 H' → LsO n o Dl H' → Qd Dl H') :
    ∃ W : Nat → Nat → Hp → Prop, (∃ m, W 0 m (upd H1 Dl (.lst []))) ∧ ∀ i m H, W i m H →
      (J.stop i H ∧ Qd Dl H) ∨ (J.go i H ∧ ∃ Nx : Hp → Prop, (∀ H', Nx H' → ∃ m', m' < m ∧ W (i + 1) m' H') ∧ ∀ x H', J.yld i H x H' → gName j x (wipe σ vs) H' fun σ2 H2 => wipe σ2 vs = wipe σ vs ∧ tYes σ2 H2 fun b H3 =>
        if b = true then te σ2 H3 fun y H4 => ∃ acc, H4 Dl = some (.lst acc) ∧ acc.length < sizeLine ∧ Nx (upd H4 Dl (.lst (acc ++ [y]))) else Nx H3) :=
  lc_it w (fun i H' => Ex H1 H' ∧ LsO i o Dl H') ⟨Ex.new hD, [], upd_same, rfl, fun i y h => by simp at h⟩ (fun i H' _ p => hG H' p.1)
    (fun i x H2 H3 hi => by
      rintro ⟨e2, rs, hy, hl, hp⟩ ⟨e3, hx⟩
      subst e3
      refine ⟨hw x, ?_⟩
      refine yesT ?_
      refine he i x H3 e2 hx hi H3 (.refl H3) _ fun p H4 np u4 hpo => ⟨rs.map V.ref, u4 _ _ hy, sz_lt (by rw [List.length_map]; omega), Ex.mut (e2.trans u4) hD, rs ++ [p], by rw [upd_same]; simp, by simp [hl], fun m b hm => ?_⟩
      have npD : p ≠ Dl := fun z => by rw [z, hy] at np; cases np
      by_cases c : m < rs.length
      · rw [List.getElem?_append_left c] at hm
        obtain ⟨n1, h1⟩ := hp m b hm
        exact ⟨n1, by rw [upd_ne n1]; exact u4 _ _ h1⟩
      · rw [List.getElem?_append_right (by omega)] at hm
        have z : m - rs.length = 0 := by
          refine Nat.eq_zero_of_not_pos fun q => ?_
          rw [List.getElem?_eq_none (by simp; omega)] at hm
          cases hm
        rw [z] at hm
        simp at hm
        subst hm
        have : m = i := by omega
        subst this
        exact ⟨npD, by rw [upd_ne npD]; exact hpo⟩)
    (fun H' p => hd H' p.1 p.2)
theorem en_lcT {a : Addr} {xs : List V} {o : Nat → HO} {j : Nat} {vs : List Nat} (h : Ev tl σ H (.ref a)) (hx : SqT K H a xs) (hn : xs.length ≤ 40000) (hw : ∀ x, wipe ((wipe σ vs).set j (some x)) vs = wipe σ vs)
    (he : ∀ i x H', Ex H H' → xs[i]? = some x → i < xs.length → EvH te ((wipe σ vs).set j (some x)) H' (o i)) : EvN (tLc (iTup K tl) (gName j) tYes te vs) σ H (LsO xs.length o) :=
  fun H0 e Q q => h H0 e _ fun H1 e1 => ⟨a, rfl, ⟨xs, ex_t (e.trans e1) hx⟩, fun Dl hD => lcN (Qd := fun l H => Q (.ref l) H) _ walk_tup (fun H' e' => ex_t ((e.trans e1).trans e') hx) hn hw (fun i x H' e' hx hi => he i x H' ((e.trans e1).trans e') hx hi) hD (fun H' e' p => q Dl H' (fresh_back e1 hD) (e1.trans e') p)⟩
theorem en_lcL {a : Addr} {xs : List V} {o : Nat → HO} {j : Nat} {vs : List Nat} (h : Ev tl σ H (.ref a)) (hx : SqL K H a xs) (hn : xs.length ≤ 40000) (hw : ∀ x, wipe ((wipe σ vs).set j (some x)) vs = wipe σ vs)
    (he : ∀ i x H', Ex H H' → xs[i]? = some x → i < xs.length → EvH te ((wipe σ vs).set j (some x)) H' (o i)) : EvN (tLc (iList K tl) (gName j) tYes te vs) σ H (LsO xs.length o) :=
  fun H0 e Q q => h H0 e _ fun H1 e1 => ⟨a, rfl, ⟨xs, ex_l (e.trans e1) hx⟩, fun Dl hD => lcN (Qd := fun l H => Q (.ref l) H) _ walk_list (fun H' e' => ex_l ((e.trans e1).trans e') hx) hn hw (fun i x H' e' hx hi => he i x H' ((e.trans e1).trans e') hx hi) hD (fun H' e' p => q Dl H' (fresh_back e1 hD) (e1.trans e') p)⟩
theorem en_lcS {a : Addr} {xs : List V} {o : Nat → HO} {j : Nat} {vs : List Nat} (h : Ev tl σ H (.ref a)) (hx : SqA K H a xs) (hn : xs.length ≤ 40000) (hw : ∀ x, wipe ((wipe σ vs).set j (some x)) vs = wipe σ vs)
    (he : ∀ i x H', Ex H H' → xs[i]? = some x → i < xs.length → EvH te ((wipe σ vs).set j (some x)) H' (o i)) : EvN (tLc (iSeq K tl) (gName j) tYes te vs) σ H (LsO xs.length o) := fun H0 e Q q => by
  rcases hx with hx | hx
  · exact .inl (en_lcL h hx hn hw he H0 e Q q)
  · exact .inr (en_lcT h hx hn hw he H0 e Q q)
theorem en_lcNL {xs : List V} {o : Nat → HO} {j : Nat} {vs : List Nat} (h : EvL tl σ H xs) (hn : xs.length ≤ 40000) (hw : ∀ x, wipe ((wipe σ vs).set j (some x)) vs = wipe σ vs)
    (he : ∀ i x H', Ex H H' → xs[i]? = some x → i < xs.length → EvH te ((wipe σ vs).set j (some x)) H' (o i)) : EvN (tLc (iList K tl) (gName j) tYes te vs) σ H (LsO xs.length o) :=
  fun H0 e Q q => h H0 e _ fun a H1 ha e1 hx => ⟨a, rfl, ⟨xs, sq_of hx⟩, fun Dl hD => lcN (Qd := fun l H => Q (.ref l) H) _ walk_list (fun H' e' => ex_l e' (sq_of (K := K) hx)) hn hw (fun i x H' e' hx hi => he i x H' ((e.trans e1).trans e') hx hi) hD (fun H' e' p => q Dl H' (fresh_back e1 hD) (e1.trans e') p)⟩
theorem en_lcR {ta : TA} {n : Int} {o : Nat → HO} {j : Nat} {vs : List Nat} (h : EvA ta σ H [.int n]) (hn : 0 ≤ n ∧ n ≤ 40000) (hw : ∀ x, wipe ((wipe σ vs).set j (some x)) vs = wipe σ vs)
    (he : ∀ (i : Nat) H', Ex H H' → (i : Int) < n → EvH te ((wipe σ vs).set j (some (.int (i : Int)))) H' (o i)) : EvN (tLc (iRng1 ta) (gName j) tYes te vs) σ H (LsO n.toNat o) :=
  fun H0 e Q q => h H0 e _ fun H1 e1 => ⟨n, rfl, by omega, by omega, fun Dl hD => by
    have w : Walk (Itr 0 n.toNat) n.toNat (fun _ => True) (YAt ((List.range n.toNat).map fun (i : Nat) => V.int (i : Int))) := walk_range.mono (fun _ h => h) fun i H x H' hi _ y => ⟨y.1, by rw [y.2, List.getElem?_map, List.getElem?_range hi]; show _ = some (V.int ((0 : Int) + (i : Int))); rw [Int.zero_add]; rfl⟩
    exact lcN (Qd := fun l H => Q (.ref l) H) _ w (fun _ _ => trivial) (by omega) hw (fun i x H' e' hx hi => by
      rw [List.getElem?_map, List.getElem?_range hi] at hx
      injection hx with hx
      rw [← hx]
      exact he i H' ((e.trans e1).trans e') (by omega)) hD (fun H' e' p => q Dl H' (fresh_back e1 hD) (e1.trans e') p)⟩
/-- list(a lot) -/
theorem eh_list {a : Addr} {xs : List V} (h : Ev te σ H (.ref a)) (hx : SqA K H a xs) : EvH (tCB (rListOf K) (tCons te tNil)) σ H (.lst xs) :=
  fun H0 e Q q => h H0 e _ fun H1 e1 => ⟨a, xs, rfl, ex_a (e.trans e1) hx, fun l hl => q l _ (fresh_back e1 hl) (e1.trans (Ex.new hl)) upd_same⟩
/-- tuple(a list) -/
theorem eh_tup {a : Addr} {xs : List V} (h : Ev te σ H (.ref a)) (hx : SqL K H a xs) : EvH (tCB (rTupOf K) (tCons te tNil)) σ H (.tup xs) :=
  fun H0 e Q q => h H0 e _ fun H1 e1 => ⟨a, xs, rfl, .inl ⟨ex_l (e.trans e1) hx, fun l hl => q l _ (fresh_back e1 hl) (e1.trans (Ex.new hl)) upd_same⟩⟩
theorem eh_tupN {xs : List V} (h : EvL te σ H xs) : EvH (tCB (rTupOf K) (tCons te tNil)) σ H (.tup xs) :=
  fun H0 e Q q => h H0 e _ fun p H1 hp e1 hx => ⟨p, xs, rfl, .inl ⟨sq_of hx, fun l hl => q l _ (fresh_back e1 hl) (e1.trans (Ex.new hl)) upd_same⟩⟩
/-- tuple(a list of rows) -/
theorem en_tup {n : Nat} {M : Mx} (h : EvN te σ H (LsO n fun i => .tup ((row M i).map V.int))) (hn : n = M.length) : EvN (tCB (rTupOf K) (tCons te tNil)) σ H (fun t H' => MT K t M H') :=
  fun H0 e Q q => h H0 e _ fun l H1 hl e1 ⟨refs, h1, h2, h3⟩ => ⟨l, _, rfl, .inl ⟨sq_of h1, fun t nt => q t _ (fresh_back e1 nt) (e1.trans (Ex.new nt)) ⟨refs, st_of upd_same, by omega, fun i b hb => ex_t (Ex.new nt) (st_of (h3 i b hb).2)⟩⟩⟩
/-- over zip, of numbers told by the turn -/
theorem el_lcZ {t1 t2 : Bool} {ta : TA} {a b : Addr} {xs ys : List V} {i j : Nat} {vs : List Nat} (v : Nat → V) (h : EvA ta σ H [.ref a, .ref b]) (hx : SqB t1 K H a xs) (hy : SqB t2 K H b ys) (hl : xs.length = ys.length) (hn : xs.length ≤ 40000)
    (hw : ∀ x y, wipe (((wipe σ vs).set i (some x)).set j (some y)) vs = wipe σ vs) (sB : ∀ t a xs (H' : Hp), Ex H H' → SqB t K H a xs → SqB t K H' a xs)
    (he : ∀ m x y H1, Ex H H1 → xs[m]? = some x → ys[m]? = some y → Ev te (((wipe σ vs).set i (some x)).set j (some y)) H1 (v m)) : EvL (tLc (iZipB t1 t2 K ta) (gTup K 2 (gCons (gName i) (gCons (gName j) gNil))) tYes te vs) σ H ((List.range xs.length).map v) :=
  fun H0 e Q q => h H0 e _ fun H1 e1 => ⟨a, b, xs, ys, rfl, sB _ _ _ _ (e.trans e1) hx, sB _ _ _ _ (e.trans e1) hy, fun Dl hD =>
    lc_it (n := xs.length) (walk_zipB (by omega)) (fun i H' => H1 Dl = none ∧ Ex H1 H' ∧ H' Dl = some (.lst ((List.range i).map v))) ⟨hD, Ex.new hD, upd_same⟩ (fun m H' _ p => ⟨sB _ _ _ _ ((e.trans e1).trans p.2.1) hx, sB _ _ _ _ ((e.trans e1).trans p.2.1) hy⟩)
      (fun m z H2 H3 hm => by
        rintro ⟨p1, p2, p3⟩ ⟨T, x, y, rfl, hT, rfl, h1, h2⟩
        have nT : Dl ≠ T := fun z => by rw [z, hT] at p3; cases p3
        refine ⟨T, _, rfl, st_of upd_same, rfl, x, _, rfl, y, _, rfl, rfl, hw x y, ?_⟩
        refine yesT ?_
        have e2 : Ex H1 (upd H2 T (.tup [x, y])) := p2.trans (Ex.new hT)
        refine he m x y _ ((e.trans e1).trans e2) h1 h2 _ (.refl _) _ fun H4 e4 => ⟨_, e4 _ _ (by rw [upd_ne nT]; exact p3), sz_lt (by simp; omega), p1, Ex.mut (e2.trans e4) p1, ?_⟩
        rw [upd_same, List.range_succ, List.map_append]
        rfl)
      (fun H' p => q Dl H' (fresh_back e1 p.1) (e1.trans p.2.1) p.2.2)⟩
theorem ex_B {t : Bool} {a : Addr} {xs : List V} (e : Ex H H') (h : SqB t K H a xs) : SqB t K H' a xs := by
  cases t
  · exact ex_l e h
  · exact ex_t e h
theorem q_asgN {i : Nat} {P : Addr → Hp → Prop} (h : EvN te σ H P) (k : ∀ l H1, H l = none → Ex H H1 → P l H1 → tz D (σ.set i (some (.ref l))) H1) : tSeq (tAsg te (gName i)) tz D σ H := h H (.refl H) _ k
theorem s_retN {P : Addr → Hp → Prop} (h : EvN te σ H P) (k : ∀ l H1, H l = none → Ex H H1 → P l H1 → D.rt (.ref l) H1) : tRet te D σ H := h H (.refl H) _ k
end
end Own


namespace Own
open PySem PySem.Spec PyProof.Rows L2
open Evl
section
variable {K : PySem.W.Frag} {σ : L2.St} {H H' : Hp} {te ta tb tl : TE} {x y z w : V} {D : Ends} {tz tu t : TS} {R M : Mx} {l m : Addr} {refs : List Addr}
/-- for i, x in enumerate(xs) -/
theorem s_forE {b : Bool} {ta : TA} {a : Addr} {xs : List V} {i j : Nat} (h : EvA ta σ H [.ref a]) (hx : SqB b K H a xs) (Pv : Nat → L2.St → Hp → Prop) (h0 : ∀ H1, Ex H H1 → Pv 0 σ H1) (hG : ∀ m σ' H', Pv m σ' H' → SqB b K H' a xs)
    (hs : ∀ m x σ' H' H2, xs[m]? = some x → Pv m σ' H' → Ex H' H2 → tu { D with nx := Pv (m + 1), ct := Pv (m + 1), bk := D.nx } ((σ'.set i (some (.int (m : Int)))).set j (some x)) H2) (hd : ∀ σ' H', Pv xs.length σ' H' → D.nx σ' H') :
    tFor (iEnumB b K ta) (gTup K 2 (gCons (gName i) (gCons (gName j) gNil))) tu D σ H :=
  h H (.refl H) _ fun H1 e1 => ⟨a, xs, rfl, ex_B e1 hx, for_it walk_enumB Pv (h0 H1 e1) (fun m σ' H' _ p => hG m σ' H' p)
    (fun m v σ' H2 H3 hm p => by
      rintro ⟨T, x, y, rfl, hT, rfl, h1, h2⟩
      injection h1 with h1
      subst h1
      exact ⟨T, _, rfl, st_of upd_same, rfl, _, _, rfl, y, _, rfl, rfl, hs m y σ' H2 _ h2 p (Ex.new hT)⟩) hd⟩
theorem q_forE {b : Bool} {ta : TA} {a : Addr} {xs : List V} {i j : Nat} (h : EvA ta σ H [.ref a]) (hx : SqB b K H a xs) (Pv : Nat → L2.St → Hp → Prop) (h0 : ∀ H1, Ex H H1 → Pv 0 σ H1) (hG : ∀ m σ' H', Pv m σ' H' → SqB b K H' a xs)
    (hs : ∀ m x σ' H' H2, xs[m]? = some x → Pv m σ' H' → Ex H' H2 → tu { D with nx := Pv (m + 1), ct := Pv (m + 1), bk := tz D } ((σ'.set i (some (.int (m : Int)))).set j (some x)) H2) (hd : ∀ σ' H', Pv xs.length σ' H' → tz D σ' H') :
    tSeq (tFor (iEnumB b K ta) (gTup K 2 (gCons (gName i) (gCons (gName j) gNil))) tu) tz D σ H := s_forE (D := { D with nx := tz D }) h hx Pv h0 hG hs hd
/-- for x, y in zip(xs, ys), of one length -/
theorem s_forZ {b1 b2 : Bool} {ta : TA} {a c : Addr} {xs ys : List V} {i j : Nat} (h : EvA ta σ H [.ref a, .ref c]) (hx : SqB b1 K H a xs) (hy : SqB b2 K H c ys) (hl : xs.length = ys.length) (Pv : Nat → L2.St → Hp → Prop) (h0 : ∀ H1, Ex H H1 → Pv 0 σ H1)
    (hG : ∀ m σ' H', Pv m σ' H' → SqB b1 K H' a xs ∧ SqB b2 K H' c ys)
    (hs : ∀ m x y σ' H' H2, xs[m]? = some x → ys[m]? = some y → Pv m σ' H' → Ex H' H2 → tu { D with nx := Pv (m + 1), ct := Pv (m + 1), bk := D.nx } ((σ'.set i (some x)).set j (some y)) H2) (hd : ∀ σ' H', Pv xs.length σ' H' → D.nx σ' H') :
    tFor (iZipB b1 b2 K ta) (gTup K 2 (gCons (gName i) (gCons (gName j) gNil))) tu D σ H :=
  h H (.refl H) _ fun H1 e1 => ⟨a, c, xs, ys, rfl, ex_B e1 hx, ex_B e1 hy, for_it (walk_zipB (n := xs.length) (by omega)) Pv (h0 H1 e1) (fun m σ' H' _ p => hG m σ' H' p)
    (fun m v σ' H2 H3 hm p => by
      rintro ⟨T, x, y, rfl, hT, rfl, h1, h2⟩
      exact ⟨T, _, rfl, st_of upd_same, rfl, x, _, rfl, y, _, rfl, rfl, hs m x y σ' H2 _ h1 h2 p (Ex.new hT)⟩) hd⟩
theorem q_forZ {b1 b2 : Bool} {ta : TA} {a c : Addr} {xs ys : List V} {i j : Nat} (h : EvA ta σ H [.ref a, .ref c]) (hx : SqB b1 K H a xs) (hy : SqB b2 K H c ys) (hl : xs.length = ys.length) (Pv : Nat → L2.St → Hp → Prop) (h0 : ∀ H1, Ex H H1 → Pv 0 σ H1)
    (hG : ∀ m σ' H', Pv m σ' H' → SqB b1 K H' a xs ∧ SqB b2 K H' c ys)
    (hs : ∀ m x y σ' H' H2, xs[m]? = some x → ys[m]? = some y → Pv m σ' H' → Ex H' H2 → tu { D with nx := Pv (m + 1), ct := Pv (m + 1), bk := tz D } ((σ'.set i (some x)).set j (some y)) H2) (hd : ∀ σ' H', Pv xs.length σ' H' → tz D σ' H') :
    tSeq (tFor (iZipB b1 b2 K ta) (gTup K 2 (gCons (gName i) (gCons (gName j) gNil))) tu) tz D σ H := s_forZ (D := { D with nx := tz D }) h hx hy hl Pv h0 hG hs hd
/-- a call that returns something new -/
def SpN (sp : Sp) (vs : List V) (H : Hp) (P : Addr → Hp → Prop) : Prop := ∀ H1, Ex H H1 → ∀ Q : VK, (∀ l H2, H1 l = none → Ex H1 H2 → P l H2 → Q (.ref l) H2) → ∀ E : XK, sp vs H1 Q E
theorem en_call {sp : Sp} {vs : List V} {E : XK} {ta : TA} {P : Addr → Hp → Prop} (h : EvA ta σ H vs) (hs : SpN sp vs H P) : EvN (tCall sp [] E ta) σ H P := fun H1 e Q q =>
  h H1 e _ fun H2 e2 => by rw [List.append_nil]; exact hs H2 (e.trans e2) Q (fun l H3 hl e3 p => q l H3 (fresh_back e2 hl) (e2.trans e3) p) E
/-- [e] * k -/
theorem rep_one {v : V} : ∀ k : Nat, (List.replicate k [v]).flatten = List.replicate k v
  | 0 => rfl
  | k + 1 => by rw [List.replicate_succ, List.flatten_cons, rep_one k, List.replicate_succ]; rfl
theorem el_rep {v : V} {k : Int} (h : Ev te σ H v) (hk : Ev tb σ H (.int k)) (h0 : 0 ≤ k) (h1 : k ≤ 1000) : EvL (tOp rRep (tLst (tCons te tNil)) tb) σ H (List.replicate k.toNat v) := fun H1 e Q q =>
  (el_lst (ea_1 h) (by show 1 ≤ 100000; decide)) H1 e _ fun p H2 hp e2 hx => hk H2 (e.trans e2) _ fun H3 e3 => ⟨p, k, [v], rfl, rfl, e3 _ _ hx, by omega, by omega, sz_of (by show 1 * k.toNat ≤ 100000; omega), fun r hr => by
    rw [rep_one]
    exact q r _ (fresh_back (e2.trans e3) hr) ((e2.trans e3).trans (Ex.new hr)) upd_same⟩
theorem rep_ints {k : Nat} : List.replicate k (V.int 0) = (List.replicate k (0 : Int)).map V.int := by rw [List.map_replicate]
def ofN (S : List Nat) : List V := S.map fun (s : Nat) => V.int (s : Int)
theorem inV_nat {f : Nat} {S : List Nat} : inV (.int (f : Int)) (ofN S) = decide (f ∈ S) := by
  unfold inV ofN
  induction S with
  | nil => simp
  | cons s S ih =>
    rw [List.map_cons, List.any_cons, ih]
    show (((s : Int) == (f : Int)) || decide (f ∈ S)) = _
    by_cases e : s = f
    · subst e; simp
    · have e1 : ((s : Int) == (f : Int)) = false := by
        rw [beq_eq_false_iff_ne]; omega
      rw [e1, Bool.false_or]
      simp [Ne.symm e]
theorem flat_nat {S : List Nat} : (ofN S).all flatV = true := by
  rw [List.all_eq_true]
  intro v hv
  obtain ⟨s, _, rfl⟩ := List.mem_map.mp hv
  rfl
theorem et_notIn {f : Nat} {S : List Nat} {p : Addr} (ha : Ev ta σ H (.int (f : Int))) (hb : Ev tb σ H (.ref p)) (hs : SqL K H p (ofN S)) : EvT (tTest (tOp (rIn K true) ta tb)) σ H (!decide (f ∈ S)) := by
  rw [← inV_nat]; exact et_test (ev_op ha hb (rv_niL hs rfl flat_nat))
theorem et_in {f : Nat} {S : List Nat} {p : Addr} (ha : Ev ta σ H (.int (f : Int))) (hb : Ev tb σ H (.ref p)) (hs : SqL K H p (ofN S)) : EvT (tTest (tOp (rIn K false) ta tb)) σ H (decide (f ∈ S)) := by
  rw [← inV_nat]; exact et_test (ev_op ha hb (rv_isL hs rfl flat_nat))
/-- the first place of a number that isn't nought -/
def fstP (r : Ro) : Option Nat := (List.range r.length).find? fun i => decide (nth r i ≠ 0)
theorem fstP_some {r : Ro} {i : Nat} (h : i < r.length) (h1 : nth r i ≠ 0) (h2 : ∀ j, j < i → nth r j = 0) : fstP r = some i := by
  unfold fstP
  rw [List.find?_range_eq_some]
  exact ⟨by simp [h1], List.mem_range.mpr h, fun j hj => by simp [h2 j hj]⟩
theorem fstP_none {r : Ro} (h : ∀ j, j < r.length → nth r j = 0) : fstP r = none := by
  unfold fstP
  rw [List.find?_eq_none]
  intro j hj
  simp [h j (List.mem_range.mp hj)]
theorem good_first {p : Int} {n k : Nat} {s : Sta} (g : Good p n k s) (hk : k ≤ n) {r : Nat} (h : r < s.d) : fstP (row s.R r) = some (s.S.getD r 0) := by
  have hr : r < s.R.length := by have := g.dr; omega
  have hS := S_at (S := s.S) (t := r) (by have := g.dl; omega)
  have lt := g.lt _ (List.mem_of_getElem? hS)
  refine fstP_some (by rw [(wf_row g.wf hr).1]; omega) ?_ (g.pre r _ hS)
  have := g.one r _ hS r hr
  rw [if_pos rfl] at this
  show ent s.R r _ ≠ 0
  rw [this]; decide
noncomputable def rr (p : Int) (M : Mx) (n : Nat) : Mx := (red p M n).R.take (red p M n).d
theorem row_take {R : Mx} {d i : Nat} (h : i < d) : row (R.take d) i = row R i := by
  unfold row
  rw [List.getD_eq_getElem?_getD, List.getD_eq_getElem?_getD, List.getElem?_take, if_pos h]
theorem len_rr {p : Int} {M : Mx} {n : Nat} (hp : 1 < p) (hI : HasInv p) (w : WF p n M) : (rr p M n).length = (red p M n).d := by
  unfold rr
  rw [List.length_take]
  have := (good_red hp hI w n).dr
  omega
end
end Own


namespace Own
open PySem PySem.Spec PyProof.Rows L2
open Evl
section
variable {K : PySem.W.Frag} {σ : L2.St} {H H' : Hp} {te ta tb tl : TE} {x y z w : V} {D : Ends} {tz tu t : TS} {R M : Mx} {l m : Addr} {refs : List Addr}
theorem MLr.app {b : Addr} {r : Ro} (h : MLr l refs R H) (nb : b ≠ l) (hb : H b = some (.lst (r.map V.int))) : MLr l (refs ++ [b]) (R ++ [r]) (upd H l (.lst (refs.map V.ref ++ [.ref b]))) := by
  refine ⟨by rw [upd_same]; simp, by simp [h.2.1], fun j c hc => ?_⟩
  have key : c ≠ l ∧ H c = some (.lst ((row (R ++ [r]) j).map V.int)) := by
    by_cases e : j < refs.length
    · rw [List.getElem?_append_left e] at hc
      have er : row (R ++ [r]) j = row R j := by
        unfold row
        rw [List.getD_eq_getElem?_getD, List.getD_eq_getElem?_getD, List.getElem?_append_left (by rw [← h.2.1]; exact e)]
      rw [er]
      exact h.2.2 j c hc
    · rw [List.getElem?_append_right (by omega)] at hc
      have z : j - refs.length = 0 := by
        refine Nat.eq_zero_of_not_pos fun q => ?_
        rw [List.getElem?_eq_none (by simp; omega)] at hc
        cases hc
      rw [z] at hc
      simp at hc
      subst hc
      have er : row (R ++ [r]) j = r := by
        unfold row
        rw [List.getD_eq_getElem?_getD, List.getElem?_append_right (by rw [← h.2.1]; omega), show j - R.length = 0 by rw [← h.2.1]; exact z]
        rfl
      rw [er]
      exact ⟨nb, hb⟩
  exact ⟨key.1, by rw [upd_ne key.1]; exact key.2⟩
/-- a comprehension over zip whose items are new -/
theorem en_lcZ {t1 t2 : Bool} {ta : TA} {a b : Addr} {xs ys : List V} {i j : Nat} {vs : List Nat} {o : Nat → HO} (h : EvA ta σ H [.ref a, .ref b]) (hx : SqB t1 K H a xs) (hy : SqB t2 K H b ys) (hl : xs.length = ys.length) (hn : xs.length ≤ 40000)
    (hw : ∀ x y, wipe (((wipe σ vs).set i (some x)).set j (some y)) vs = wipe σ vs)
    (he : ∀ m x y H1, Ex H H1 → xs[m]? = some x → ys[m]? = some y → EvH te (((wipe σ vs).set i (some x)).set j (some y)) H1 (o m)) : EvN (tLc (iZipB t1 t2 K ta) (gTup K 2 (gCons (gName i) (gCons (gName j) gNil))) tYes te vs) σ H (LsO xs.length o) :=
  fun H0 e Q q => h H0 e _ fun H1 e1 => ⟨a, b, xs, ys, rfl, ex_B (e.trans e1) hx, ex_B (e.trans e1) hy, fun Dl hD =>
    lc_it (n := xs.length) (walk_zipB (by omega)) (fun i H' => Ex H1 H' ∧ LsO i o Dl H') ⟨Ex.new hD, [], upd_same, rfl, fun i y h => by simp at h⟩ (fun m H' _ p => ⟨ex_B ((e.trans e1).trans p.1) hx, ex_B ((e.trans e1).trans p.1) hy⟩)
      (fun m z H2 H3 hm => by
        rintro ⟨p2, rs, hy, hl, hp⟩ ⟨T, x, y, rfl, hT, rfl, h1, h2⟩
        have nT : Dl ≠ T := fun z => by rw [z, hT] at hy; cases hy
        refine ⟨T, _, rfl, st_of upd_same, rfl, x, _, rfl, y, _, rfl, rfl, hw x y, ?_⟩
        refine yesT ?_
        have e2 : Ex H1 (upd H2 T (.tup [x, y])) := p2.trans (Ex.new hT)
        have eT : Ex H2 (upd H2 T (.tup [x, y])) := Ex.new hT
        have hy2 : (upd H2 T (.tup [x, y])) Dl = some (.lst (rs.map V.ref)) := eT _ _ hy
        refine he m x y _ ((e.trans e1).trans e2) h1 h2 _ (.refl _) _ fun p H4 np u4 hpo => ⟨rs.map V.ref, u4 _ _ hy2, sz_lt (by rw [List.length_map]; omega), Ex.mut (e2.trans u4) hD, rs ++ [p], by rw [upd_same]; simp, by simp [hl], fun m' b' hm' => ?_⟩
        have npD : p ≠ Dl := fun z => by rw [z, hy2] at np; cases np
        by_cases c : m' < rs.length
        · rw [List.getElem?_append_left c] at hm'
          obtain ⟨n1, h1⟩ := hp m' b' hm'
          exact ⟨n1, by rw [upd_ne n1]; exact u4 _ _ (eT _ _ h1)⟩
        · rw [List.getElem?_append_right (by omega)] at hm'
          have z : m' - rs.length = 0 := by
            refine Nat.eq_zero_of_not_pos fun q => ?_
            rw [List.getElem?_eq_none (by simp; omega)] at hm'
            cases hm'
          rw [z] at hm'
          simp at hm'
          subst hm'
          have : m' = m := by omega
          subst this
          exact ⟨npD, by rw [upd_ne npD]; exact hpo⟩)
      (fun H' p => q Dl H' (fresh_back e1 hD) (e1.trans p.1) p.2)⟩
theorem el_cat {xs ys : List V} (ha : EvL ta σ H xs) (hb : EvL tb σ H ys) (hz : xs.length + ys.length ≤ 1000) : EvL (tOp rCat ta tb) σ H (xs ++ ys) := fun H1 e Q q =>
  ha H1 e _ fun p H2 hp e2 hx => hb H2 (e.trans e2) _ fun r H3 hr e3 hy => ⟨p, r, xs, ys, rfl, rfl, e3 _ _ hx, hy, sz_of (by omega), fun c hc => q c _ (fresh_back (e2.trans e3) hc) ((e2.trans e3).trans (Ex.new hc)) upd_same⟩
def joined (M : Mx) (right : Ro) : Mx := List.zipWith (fun r x => r ++ [x]) M right
def solT (R : Mx) (S : List Nat) (n : Nat) : Nat → Ro
  | 0 => List.replicate n 0
  | t + 1 => (solT R S n t).set (S.getD t 0) (ent R t n)
noncomputable def sol (p : Int) (M : Mx) (right : Ro) (n : Nat) : Option Ro :=
  if n ∈ (red p (joined M right) (n + 1)).S then none else some (solT (red p (joined M right) (n + 1)).R (red p (joined M right) (n + 1)).S n (red p (joined M right) (n + 1)).d)
theorem len_solT {R : Mx} {S : List Nat} {n : Nat} : ∀ t, (solT R S n t).length = n
  | 0 => by simp [solT]
  | t + 1 => by simp [solT, len_solT t]
theorem len_joined {M : Mx} {right : Ro} (h : right.length = M.length) : (joined M right).length = M.length := by simp [joined, h]
theorem row_joined {M : Mx} {right : Ro} (h : right.length = M.length) {i : Nat} (hi : i < M.length) : row (joined M right) i = row M i ++ [nth right i] := by
  have e : (joined M right)[i]? = some (row M i ++ [nth right i]) := by
    unfold joined
    rw [List.getElem?_zipWith, row_at hi, List.getElem?_eq_getElem (by omega : i < right.length)]
    unfold nth
    rw [getD_lt (by omega)]
  unfold row
  rw [List.getD_eq_getElem?_getD]
  show ((joined M right)[i]?).getD [] = _
  rw [e]; rfl
theorem wf_joined {p : Int} {n : Nat} {M : Mx} {right : Ro} (w : WF p n M) (h : right.length = M.length) (hr : ∀ x ∈ right, 0 ≤ x ∧ x < p) : WF p (n + 1) (joined M right) := fun r hr' => by
  obtain ⟨i, hi, e⟩ := mem_row hr'
  rw [len_joined h] at hi
  rw [row_joined h hi] at e
  subst e
  refine ⟨by rw [List.length_append, (wf_row w hi).1]; rfl, fun x hx => ?_⟩
  rcases List.mem_append.mp hx with q | q
  · exact (wf_row w hi).2 x q
  · rw [List.mem_singleton.mp q]
    unfold nth
    rw [getD_lt (by omega)]
    exact hr _ (List.getElem_mem _)
/-- what solved tells -/
def SolP (K : PySem.W.Frag) (N : Mx) : Option Ro → VP
  | none, v, _ => v = .non
  | some s, v, H => ∃ a x y, v = .ref a ∧ SqT K H a [.ref x, .ref y] ∧ SqT K H x (s.map V.int) ∧ MT K y N H
theorem SolP.ex {N : Mx} {o : Option Ro} {v : V} (e : Ex H H') (h : SolP K N o v H) : SolP K N o v H' := by
  cases o with
  | none => exact h
  | some s =>
    obtain ⟨a, x, y, h1, h2, h3, h4⟩ := h
    exact ⟨a, x, y, h1, ex_t e h2, ex_t e h3, h4.ex e⟩
end
end Own


namespace Own
open PySem PySem.Spec PyProof.Rows L2
/-! ### t * 0 -/
theorem tuple_nought (l : Addr) (items : Array Value) (n : Nat) (dd : Option Addr) (sl : Array (Option Value)) (u : Tok) (hi : items.isEmpty = false) :
    Meets (Builtin.«tuple.__mul__» ⟨[.ref l, .int 0 u], []⟩) (fun _ R s => s.heap.get? l = some { cls := .type "tuple", dict := dd, data := .seq items n, slots := sl } ∧
      R (.ok (.ret (Value.ref s.heap.objs.size))) { s with heap := s.heap.push { cls := Value.type "tuple", data := Data.seq #[] }, toks := s.toks }) :=
  .of_wp fun prog w A R s h => by
    obtain ⟨hp, g, d, tk, os⟩ := s
    obtain ⟨hl, h⟩ := h
    have f1 := AutoSeq1.idx_int
    have c0 : (decide ((0 : Int) < -(2 ^ 63)) || decide ((0 : Int) ≥ 2 ^ 63)) = false := by decide
    have c1 : (items.isEmpty || (0 : Int) == 1) = false := by rw [hi]; rfl
    have c2 : (decide ((0 : Int) ≤ 0) || items.isEmpty) = true := by rw [decide_eq_true (Int.le_refl 0)]; rfl
    wp_walk using wpAny_loadPart' hl
    repeat (first
      | (refine wpAny_ite_false (decide_eq_false (by rw [c0]; exact Bool.false_ne_true)) ?_; wp_walk using wpAny_loadPart' hl)
      | (refine wpAny_ite_false (decide_eq_false (by rw [c1]; exact Bool.false_ne_true)) ?_; wp_walk using wpAny_loadPart' hl)
      | (refine wpAny_ite_true (decide_eq_true c2) ?_; wp_walk using wpAny_loadPart' hl))
    exact ⟨_, rfl, h⟩
def rNought (K : PySem.W.Frag) : R2 := fun x y H Q => ∃ l xs, x = .ref l ∧ y = .int 0 ∧ SqT K H l xs ∧ xs ≠ [] ∧ ∀ p, H p = none → Q (.ref p) (upd H p (.tup []))
theorem op_nought {X : Cx} : OpR X (binaryOp .Mult) (rNought X.K) := by
  intro pins s σ H x y v u Q I rx ry h
  obtain ⟨l, xs, rfl, rfl, hT, hne, q⟩ := h
  cases rx
  obtain ⟨t, rfl⟩ := ry
  obtain ⟨its, r, ⟨⟨cls, dd, data, sl⟩, ho, hc, n, hd⟩, hs⟩ := I.tuple hT
  simp only at hc hd
  subst hc hd
  have hle : its.length = xs.length := r.length.symm
  have hi : its.toArray.isEmpty = false := by
    cases its with
    | nil => exact absurd (List.eq_nil_of_length_eq_zero hle.symm) hne
    | cons a b => rfl
  refine wpAny_binaryOp_repeat_ref (T := "tuple") (U := "int") (by decide) ⟨_, ho, rfl⟩ (fun s' => typeIs_int s' 0 t) noFill_tuple_mul F.fills_int_mul F.slot_int_rmul repeat_tuple F.slot_int_index.lookup
    (call_meets F.slot_int_rmul (typeIs_int s 0 t) F.entry_int_rmul (F.args_int_rmul_2 _ _) (int_rmul_tuple 0 t l its.toArray n dd sl)
      ⟨ho, rfl, ⟨_, ho, rfl⟩, call_meets F.slot_tuple_mul ⟨_, ho, rfl⟩ F.entry_tuple_mul (F.args_tuple_mul_2 _ _) (tuple_nought l its.toArray n dd sl t hi) ⟨ho, ?_⟩⟩)
  refine ⟨.ref s.heap.objs.size, _, I.laid (t' := s.toks) (o := .tup []) (fun b ob q => Heap.get?_push_of_some _ q) (Nat.le_refl _) ?_, rfl, q _ (I.hok.fresh (Nat.le_refl _))⟩
  exact ⟨Nat.zero_le _, [], .nil, IsTup.new _ _⟩
abbrev rTimes0 (K : PySem.W.Frag) : R2 := fun x y H Q => rTimes K x y H Q ∨ rNought K x y H Q
theorem op_times0 {X : Cx} : OpR X (binaryOp .Mult) (rTimes0 X.K) := OpR.or op_times op_nought
/-! ### a list's or a tuple's place -/
abbrev rIxA (K : PySem.W.Frag) : R2 := fun x y H Q => rIxL K x y H Q ∨ rIxT K x y H Q
theorem ix_seq {X : Cx} : IxR X (rIxA X.K) := by
  intro value slice pins s σ H x y v u Q I rx ry h hs
  rcases h with h | h
  · exact ix_list value slice pins s σ H x y v u Q I rx ry h hs
  · exact ix_tup value slice pins s σ H x y v u Q I rx ry h hs
theorem lookup_relabel_cf {env : Env} : ∀ {names : List (Str × NameKind)} {x : Str}, (names.lookup x = some .cell ∨ names.lookup x = some .free) →
    (names.map fun (n, k) => if (k == NameKind.free && env.scope.kind == .function && env.kindOf n == some .cell) then (n, NameKind.cell) else (n, k)).lookup x = some .cell ∨
    (names.map fun (n, k) => if (k == NameKind.free && env.scope.kind == .function && env.kindOf n == some .cell) then (n, NameKind.cell) else (n, k)).lookup x = some .free
  | [], _, h => by simp at h
  | (n, k) :: r, x, h => by
    have ih := @lookup_relabel_cf env r x
    show List.lookup x ((if (k == NameKind.free && env.scope.kind == .function && env.kindOf n == some .cell) = true then (n, NameKind.cell) else (n, k)) :: _) = _ ∨ List.lookup x ((if (k == NameKind.free && env.scope.kind == .function && env.kindOf n == some .cell) = true then (n, NameKind.cell) else (n, k)) :: _) = _
    cases hx : x == n with
    | true =>
      simp only [List.lookup_cons, hx] at h
      by_cases hc : (k == NameKind.free && env.scope.kind == .function && env.kindOf n == some .cell) = true
      · rw [if_pos hc]; simp [List.lookup_cons, hx]
      · rw [if_neg hc]; simpa only [List.lookup_cons, hx] using h
    | false =>
      simp only [List.lookup_cons, hx] at h
      by_cases hc : (k == NameKind.free && env.scope.kind == .function && env.kindOf n == some .cell) = true
      · rw [if_pos hc]; simp only [List.lookup_cons, hx]; exact ih h
      · rw [if_neg hc]; simp only [List.lookup_cons, hx]; exact ih h
theorem blk_relabel {N : List Str} {sc scope : Scope} {own : List (Str × Nat)} {env : Env} (h : BlkOk N sc scope own) : BlkOk N (relabel sc env) scope own :=
  ⟨h.kind, h.uniq, h.ix, fun y hy e => lookup_relabel_cf (h.free y hy e), h.own⟩
/-- a comprehension within a comprehension -/
theorem pe_lcIn {X : Cx} {s : Shared} {H : Hp} {scope0 : Scope} {C : Addr} {cl : List (Str × Addr)} {fp : List Addr} {elt tg iter : Expr} {ifs : List Expr} {scope : Scope} {own : List (Str × Nat)} {pos : Pos} {wi : TI} {g : TG} {tt : TT} {te : TE} (hc : X.calm = true) (hN : X.N.Nodup)
    (hi : PI (X.blk s H scope0 (compEnvC scope0 cl C X.env) fp) tg iter wi) (ok : BlkOk X.N scope0 scope own)
    (hg : ∀ (s' : Shared) (H' : Hp) (C' : Addr) (cl' : List (Str × Addr)) (fp' : List Addr), PG ((X.blk s H scope0 (compEnvC scope0 cl C X.env) fp).blk s' H' scope (compEnvC scope cl' C' (compEnvC scope0 cl C X.env)) fp') tg g)
    (ht : ∀ (s' : Shared) (H' : Hp) (C' : Addr) (cl' : List (Str × Addr)) (fp' : List Addr), L2.PTs ((X.blk s H scope0 (compEnvC scope0 cl C X.env) fp).blk s' H' scope (compEnvC scope cl' C' (compEnvC scope0 cl C X.env)) fp') ifs tt)
    (he : ∀ (s' : Shared) (H' : Hp) (C' : Addr) (cl' : List (Str × Addr)) (fp' : List Addr), PE ((X.blk s H scope0 (compEnvC scope0 cl C X.env) fp).blk s' H' scope (compEnvC scope cl' C' (compEnvC scope0 cl C X.env)) fp') elt te)
    (hs : ∀ x, foldedSetIterable iter (compEnvC scope0 cl C X.env) x = pure x := by intro _; rfl) :
    PE (X.blk s H scope0 (compEnvC scope0 cl C X.env) fp) (.ListComp elt [⟨tg, iter, ifs, 0⟩] scope pos) (tLc wi g tt te (own.map (·.2))) :=
  pe_lc (X := X.blk s H scope0 (compEnvC scope0 cl C X.env) fp) hc hN hi (blk_relabel ok) hg ht he hs
end Own
namespace Own
open PySem PySem.Spec PyProof.Rows L2
open Evl
section
variable {K : PySem.W.Frag} {σ : L2.St} {H H' : Hp} {te ta tb tl : TE} {x y z w v : V} {D : Ends} {tz tu t : TS} {R M : Mx} {l m : Addr} {refs : List Addr}
theorem ev_ixA {a : Addr} {xs : List V} {i : Int} (ha : Ev ta σ H (.ref a)) (hb : Ev tb σ H (.int i)) (hs : SqA K H a xs) (h : atI xs i = some v) : Ev (tOp (rIxA K) ta tb) σ H v :=
  fun H1 e Q q => by
    rcases hs with hs | hs
    · exact ha H1 e _ fun H2 e2 => hb H2 (e.trans e2) _ fun H3 e3 => .inl ⟨a, xs, i, v, rfl, rfl, ex_l ((e.trans e2).trans e3) hs, h, q H3 (e2.trans e3)⟩
    · exact ha H1 e _ fun H2 e2 => hb H2 (e.trans e2) _ fun H3 e3 => .inr ⟨a, xs, i, v, rfl, rfl, ex_t ((e.trans e2).trans e3) hs, h, q H3 (e2.trans e3)⟩
theorem ev_lenA {a : Addr} {xs : List V} (h : Ev ta σ H (.ref a)) (hs : SqA K H a xs) : Ev (tCB (rLenV K) (tCons ta tNil)) σ H (.int (xs.length : Int)) := by
  rcases hs with hs | hs
  · exact ev_lenL h hs
  · exact ev_lenT h hs
theorem ev_sumN {ns : List Int} (h : EvL ta σ H (ns.map V.int)) : Ev (tCB (rSum K) (tCons ta tNil)) σ H (.int ns.sum) := fun H1 e Q q =>
  h H1 e _ fun p H2 _ e2 hp => ⟨p, ns, rfl, sq_of hp, q H2 e2⟩
theorem sum_range {f : Nat → Int} : ∀ n : Nat, ((List.range n).map f).sum = sumTo f n
  | 0 => rfl
  | n + 1 => by rw [List.range_succ, List.map_append, List.sum_append, sum_range n]; simp [sumTo]
/-- (e,) * k, from nought on -/
theorem eh_rep0 {k : Nat} (h : Ev te σ H v) (hb : Ev tb σ H (.int (k : Int))) (hk : k ≤ 1000) : EvH (tOp (rTimes0 K) (tTup (tCons te tNil)) tb) σ H (.tup (List.replicate k v)) := fun H1 e Q q =>
  h H1 e _ fun H2 e2 => ⟨by show 1 ≤ sizeLine; decide, fun p np => hb _ ((e.trans e2).trans (Ex.new np)) _ fun H3 e3 => by
    have hp := e3 _ _ (upd_same (H := H2) (a := p) (o := .tup [v]))
    have E3 : Ex H1 H3 := (e2.trans (Ex.new np)).trans e3
    match k, hk with
    | 0, _ => exact .inr ⟨p, [v], rfl, rfl, st_of hp, (by simp), fun r nr => q r _ (fresh_back E3 nr) (E3.trans (Ex.new nr)) (by rw [upd_same]; rfl)⟩
    | 1, _ => exact .inl (.inr ⟨p, [v], rfl, rfl, st_of hp, q p H3 (fresh_back e2 np) E3 hp⟩)
    | k + 2, hk => exact .inl (.inl ⟨p, ((k + 2 : Nat) : Int), [v], rfl, rfl, st_of hp, (by simp), by omega, by omega, by show 1 ≤ 1000; decide, fun r nr => q r _ (fresh_back E3 nr) (E3.trans (Ex.new nr)) (by rw [upd_same, Int.toNat_natCast, rep_one])⟩)⟩
/-- a list that stands + a new one -/
theorem el_catV {xs ys : List V} {a : Addr} (ha : Ev ta σ H (.ref a)) (hx : H a = some (.lst xs)) (hb : EvL tb σ H ys) (hz : xs.length + ys.length ≤ 1000) : EvL (tOp rCat ta tb) σ H (xs ++ ys) := fun H1 e Q q =>
  ha H1 e _ fun H2 e2 => hb H2 (e.trans e2) _ fun r H3 hr e3 hy => ⟨a, r, xs, ys, rfl, rfl, e3 _ _ (e2 _ _ (e _ _ hx)), hy, sz_of (by omega), fun c hc => q c _ (fresh_back (e2.trans e3) hc) ((e2.trans e3).trans (Ex.new hc)) upd_same⟩
/-- a new tuple of numbers -/
theorem eh_call {sp : Sp} {vs : List V} {E : XK} {ta : TA} {o : HO} (h : EvA ta σ H vs) (hs : SpN sp vs H fun l H' => H' l = some o) : EvH (tCall sp [] E ta) σ H o := fun H1 e Q q => en_call h hs H1 e Q q
/-! ### data of numbers -/
def intsD (r : Ro) : PyData := .tuple (r.map PyData.int)
def matD (M : Mx) : PyData := .tuple (M.map intsD)
theorem gd_ints {r : Ro} {a : Addr} (h : SqT K H a (r.map V.int)) (hl : r.length ≤ 20) (hb : ∀ x ∈ r, x.natAbs < 2 ^ 64) : Gd K H 1 (.ref a) (intsD r) := by
  refine gd_tup h ?_ (by rw [List.length_map]; exact hl)
  have : ∀ (r : Ro), (∀ x ∈ r, x.natAbs < 2 ^ 64) → GdAll K H 0 (r.map V.int) (r.map PyData.int) := fun r => by
    induction r with
    | nil => exact fun _ => .nil
    | cons x r ih => exact fun h => .cons (gd_int (h x List.mem_cons_self)) (ih fun y hy => h y (List.mem_cons_of_mem _ hy))
  exact this r hb
theorem gd_mat {p : Int} {n : Nat} {t : Addr} (h : MT K t M H) (w : WF p n M) (hp : p ≤ 1000003) (hn : n ≤ 20) (hl : M.length ≤ 20) : Gd K H 2 (.ref t) (matD M) := by
  obtain ⟨refs, h1, h2, h3⟩ := h
  refine gd_tup h1 ?_ (by rw [List.length_map]; omega)
  have key : ∀ (M : Mx) (refs : List Addr), refs.length = M.length → (∀ i b, refs[i]? = some b → Gd K H 1 (.ref b) (intsD (row M i))) → GdAll K H 1 (refs.map V.ref) (M.map intsD) := fun M => by
    induction M with
    | nil =>
      intro refs hl _
      rw [List.eq_nil_of_length_eq_zero hl]
      exact .nil
    | cons r M ih =>
      intro refs hl h
      cases refs with
      | nil => cases hl
      | cons b refs => exact .cons (h 0 b rfl) (ih refs (by simpa using hl) fun i c hc => h (i + 1) c (by simpa using hc))
  refine key M refs h2 fun i b hb => ?_
  have hi : i < M.length := by have := (List.getElem?_eq_some_iff.mp hb).1; omega
  have wr := wf_row w hi
  exact gd_ints (h3 i b hb) (by omega) fun x hx => by have := wr.2 x hx; omega
theorem ints_self : ∀ r : Ro, PyData.eqvAll (r.map PyData.int) (r.map PyData.int) = true
  | [] => by simp [PyData.eqvAll]
  | x :: r => by simp [PyData.eqvAll, PyData.eqv, ints_self r]
/-- the text of what a call makes -/
theorem ev_showN {P : Addr → Hp → Prop} {d : PyData} {k : Nat} (h : EvN te σ H P) (hd : ∀ t H', Ex H H' → P t H' → Gd K H' k (.ref t) d) (hk : k ≤ 4) : Ev (tCB (rShow K) (tCons te tNil)) σ H (.str d.shown) := fun H1 e Q q =>
  h H1 e _ fun t H2 _ e2 p => show_d (hd t H2 (e.trans e2) p) hk (q H2 e2)
theorem ev_showV {d : PyData} {k : Nat} (h : Ev te σ H v) (hd : Gd K H k v d) (hk : k ≤ 4) : Ev (tCB (rShow K) (tCons te tNil)) σ H (.str d.shown) := fun H1 e Q q =>
  h H1 e _ fun H2 e2 => show_d (hd.ex (e.trans e2)) hk (q H2 e2)
/-- two texts that are one -/
theorem et_neSame {s : Str} (ha : Ev ta σ H (.str s)) (hb : Ev tb σ H (.str s)) : EvT (tTest (tOp rNe ta tb)) σ H false := by
  have := et_test (ev_op (z := .bl (!decide ((V.str s) = (V.str s)))) ha hb (rv_ne rfl))
  rwa [decide_eq_true rfl] at this
/-- two new tuples of the same numbers -/
theorem ints_shaped (r : Ro) : SeqAt.shaped (intsD r) = true := by
  have h := lay_ints r
  unfold SeqAt.shaped intsD
  rw [show PyData.canLay0 (.tuple (r.map PyData.int)) = true by simpa only [PyData.canLay0] using h.1, decide_eq_true (show (PyData.tuple (r.map PyData.int)).depth ≤ 64 by simp only [PyData.depth]; omega)]
  rfl
theorem ne_ints {a b : Addr} {r : Ro} {Q : VK} (ha : SqT K H a (r.map V.int)) (hb : SqT K H b (r.map V.int)) (q : Q (.bl false) H) : rNeD K (.ref a) (.ref b) H Q :=
  ⟨intsD r, intsD r, .tup ha (dp_ints r), .tup hb (dp_ints r), ints_shaped r, ints_shaped r, by
    have e : PyData.eqv (intsD r) (intsD r) = true := by unfold intsD; simp [PyData.eqv, ints_self r]
    rw [e]
    exact q⟩
theorem ev_neHH {r : Ro} (ha : EvH ta σ H (.tup (r.map V.int))) (hb : EvH tb σ H (.tup (r.map V.int))) : Ev (tOp (rNeD K) ta tb) σ H (.bl false) := fun H1 e Q q =>
  ha H1 e _ fun p H2 _ e2 h2 => hb H2 (e.trans e2) _ fun p' H3 _ e3 h3 => ne_ints (st_of (e3 _ _ h2)) (st_of h3) (q H3 (e2.trans e3))
/-- a, b, c = something new, v, [] -/
theorem q_three {i j k : Nat} {P : Addr → Hp → Prop} (h : EvN te σ H P) (kk : ∀ l H1 s H2, H l = none → Ex H H1 → P l H1 → H1 s = none → Ex H1 H2 → H2 s = some (.lst []) → tz D (((σ.set i (some (.ref l))).set j (some v)).set k (some (.ref s))) H2) :
    tSeq (tAsg (tTup (tCons te (tCons (tC v) (tCons (tLst tNil) tNil)))) (gTup K 3 (gCons (gName i) (gCons (gName j) (gCons (gName k) gNil))))) tz D σ H :=
  h H (.refl H) _ fun l H1 hl e1 p => ⟨Nat.zero_le _, fun s ns => ⟨by show 3 ≤ sizeLine; decide, fun t nt => ⟨t, _, rfl, st_of upd_same, rfl, _, _, rfl, _, _, rfl, _, _, rfl, rfl,
    kk l H1 s _ hl e1 p ns ((Ex.new ns).trans (Ex.new nt)) ((Ex.new nt) _ _ upd_same)⟩⟩⟩
theorem s_parL {i j : Nat} {xs : List V} (h : Ev ta σ H x) (h2 : EvL tb σ H xs) (k : ∀ p H1, H p = none → Ex H H1 → H1 p = some (.lst xs) → D.nx ((σ.set i (some x)).set j (some (.ref p))) H1) : tPar i j (tCons ta (tCons tb tNil)) D σ H :=
  h H (.refl H) _ fun H1 e1 => h2 H1 e1 _ fun p H2 hp e2 hx => ⟨x, .ref p, rfl, k p H2 (fresh_back e1 hp) (e1.trans e2) hx⟩
/-- tuple(t) + (x,) -/
theorem eh_catT {a : Addr} {xs : List V} (h : Ev te σ H (.ref a)) (hx : SqT K H a xs) (h2 : Ev tb σ H v) (hz : xs.length ≤ 1000) : EvH (tOp (rCatA K) (tCB (rTupOf K) (tCons te tNil)) (tTup (tCons tb tNil))) σ H (.tup (xs ++ [v])) := fun H1 e Q q =>
  h H1 e _ fun H2 e2 => ⟨a, xs, rfl, .inr ⟨ex_t (e.trans e2) hx, h2 H2 (e.trans e2) _ fun H3 e3 => ⟨by show 1 ≤ sizeLine; decide, fun p np => ⟨a, p, xs, [v], rfl, rfl, ex_t (((e.trans e2).trans e3).trans (Ex.new np)) hx, st_of upd_same, sz_of (by show xs.length + 1 ≤ 100000; omega),
    fun z => q p _ (fresh_back (e2.trans e3) np) ((e2.trans e3).trans (Ex.new np)) (by rw [upd_same, z]; rfl), (fun _ z => by cases z), fun _ _ r nr => q r _ (fresh_back ((e2.trans e3).trans (Ex.new np)) nr) (((e2.trans e3).trans (Ex.new np)).trans (Ex.new nr)) upd_same⟩⟩⟩⟩
/-- xs.append(a new thing) -/
theorem s_appH {l : Addr} {xs : List V} {o : HO} (hl : H l = some (.lst xs)) (ha : Ev ta σ H (.ref l)) (h : EvH te σ H o) (hz : xs.length < 100000) (k : ∀ p H1, H p = none → Ex H H1 → H1 p = some o → D.nx σ (upd H1 l (.lst (xs ++ [.ref p])))) :
    tDrop (tBM K "list" rAppend ta (tCons te tNil)) D σ H := ha H (Ex.refl H) _ fun H1 e1 =>
  ⟨Or.inl ⟨rfl, xs, sq_of (e1 l _ hl)⟩, h H1 e1 _ fun p H2 hp e2 h2 => ⟨l, xs, .ref p, rfl, rfl, e2 l _ (e1 l _ hl), sz_lt hz, k p H2 (fresh_back e1 hp) (e1.trans e2) h2⟩⟩
theorem MT.kp (e : Kp H H') (h : MT K m M H) : MT K m M H' := let ⟨r, h1, h2, h3⟩ := h; ⟨r, e.sqT h1, h2, fun i b hb => e.sqT (h3 i b hb)⟩
/-- [e for j in range(n)], e drawing: a new list of n -/
def PLsF (H0 : Hp) (a : Addr) (n : Nat) (P : VP) : VP := fun v H => ∃ b xs, v = .ref b ∧ H0 b = none ∧ b ≠ a ∧ H b = some (.lst xs) ∧ xs.length = n ∧ ∀ x ∈ xs, P x H
theorem up_back {a b : Addr} (u : Up a H H') (n : b ≠ a) (h : H' b = none) : H b = none := by
  cases e : H b with
  | none => rfl
  | some o => rw [u.keep b o n e] at h; cases h
theorem es_lcN {a : Addr} {P : VP} {elt : TE} {j i n : Nat} {vs : List Nat} (e0 : σ[i]? = some (some (.int (n : Int)))) (hn : n ≤ 1000) (hw : ∀ x, wipe ((wipe σ vs).set j (some x)) vs = wipe σ vs)
    (he : ∀ (i : Nat) H1, Up a H H1 → i < n → EvS a elt ((wipe σ vs).set j (some (.int (i : Int)))) H1 P) (mk : MonoK P) : EvS a (tLc (iRng1 (tCons (tVar i) tNil)) (gName j) tYes elt vs) σ H (PLsF H a n P) :=
  fun H2 u Q q => ⟨_, e0, (n : Int), rfl, by omega, by omega, fun Dl hD =>
    lc_range (lo := 0) (n := (n : Int).toNat) (fun i H' => Up a H2 H' ∧ ∃ acc, H' Dl = some (.lst acc) ∧ acc.length = i ∧ ∀ x ∈ acc, P x H') ⟨.ex (Ex.new hD) u.src, [], upd_same, rfl, fun _ z => absurd z List.not_mem_nil⟩
      (fun i H' hi ⟨u3, acc, hacc, hl, hp⟩ => by
        show wipe ((wipe σ vs).set j (some (.int ((0 : Int) + (i : Int))))) vs = wipe σ vs ∧ elt ((wipe σ vs).set j (some (.int ((0 : Int) + (i : Int))))) H' fun y H4 => ∃ acc, H4 Dl = some (.lst acc) ∧ acc.length < sizeLine ∧ (Up a H2 (upd H4 Dl (.lst (acc ++ [y]))) ∧ ∃ ac2, (upd H4 Dl (.lst (acc ++ [y]))) Dl = some (.lst ac2) ∧ ac2.length = i + 1 ∧ ∀ x ∈ ac2, P x (upd H4 Dl (.lst (acc ++ [y]))))
        rw [Int.zero_add]
        have nD : Dl ≠ a := u.src.new hD
        refine ⟨hw _, he i H' (u.trans u3) (by omega) H' (.refl u3.src) _ fun y H4 u4 py => ?_⟩
        have h4 := u4.keep Dl _ nD hacc
        have kp : Kp H' (upd H4 Dl (.lst (acc ++ [y]))) := (u4.kp u3.src).trans (.lst h4)
        refine ⟨acc, h4, sz_lt (by omega), ⟨fun b o nb hb => ?_, ?_⟩, _, upd_same, by rw [List.length_append, hl]; rfl, fun x hx => ?_⟩
        · rw [upd_ne (ne_of_none hb hD)]
          exact u4.keep b o nb (u3.keep b o nb hb)
        · obtain ⟨big, mixed, e, r⟩ := u4.src
          exact ⟨big, mixed, by rw [upd_ne nD.symm]; exact e, r⟩
        · rcases List.mem_append.mp hx with z | z
          · exact mk x _ _ kp (hp x z)
          · rw [List.mem_singleton.mp z]
            exact mk y _ _ (.lst h4) py)
      (fun H' ⟨u3, acc, hacc, hl, hp⟩ => q _ _ u3 ⟨Dl, acc, rfl, up_back u (u.src.new hD) hD, u.src.new hD, hacc, by omega, hp⟩)⟩
/-- rows against none -/
theorem dp_rows : ∀ (refs : List Addr) (R : Mx), refs.length = R.length → (∀ i b, refs[i]? = some b → H b = some (.lst ((row R i).map V.int))) → DpAll K H (refs.map V.ref) (R.map fun r => PyData.list (r.map PyData.int))
  | [], [], _, _ => .nil
  | b :: refs, r :: R, hl, h => .cons (.lst (sq_of (h 0 b rfl)) (dp_ints r)) (dp_rows refs R (by simpa using hl) fun i c hc => h (i + 1) c (by simpa using hc))
  | [], _ :: _, hl, _ => by cases hl
  | _ :: _, [], hl, _ => by cases hl
theorem lay_rows : ∀ R : Mx, PyData.canLayAll0 (R.map fun r => PyData.list (r.map PyData.int)) = true ∧ PyData.depthAll (R.map fun r => PyData.list (r.map PyData.int)) ≤ 2
  | [] => ⟨rfl, by simp [PyData.depthAll]⟩
  | r :: R => ⟨by simp [PyData.canLayAll0, PyData.canLay0, (lay_ints r).1, (lay_rows R).1], by have := (lay_rows R).2; have := (lay_ints r).2; simp only [List.map_cons, PyData.depthAll, PyData.depth]; omega⟩
theorem shaped_rows (R : Mx) : SeqAt.shaped (.list (R.map fun r => PyData.list (r.map PyData.int))) = true := by
  have h := lay_rows R
  unfold SeqAt.shaped
  rw [show PyData.canLay0 (.list (R.map fun r => PyData.list (r.map PyData.int))) = true by simpa only [PyData.canLay0] using h.1, decide_eq_true (show (PyData.list (R.map fun r => PyData.list (r.map PyData.int))).depth ≤ 64 by simp only [PyData.depth]; omega)]
  rfl
theorem et_neRows (h : Ev ta σ H (.ref l)) (hs : MLr l refs R H) : EvT (tTest (tOp (rNeD K) ta (tLst tNil))) σ H (!R.isEmpty) :=
  et_test (ev_opL h (el_lst ea_nil (Nat.zero_le _)) fun q H1 hq e H2 e2 Q w => ⟨_, .list [], .lst (sq_of (hs.ex (e.trans e2)).1) (dp_rows _ _ hs.2.1 fun i b hb => ((hs.ex (e.trans e2)).2.2 i b hb).2), .lst (sq_of (e2 q _ hq)) .nil, shaped_rows R, rfl, by
    have z : PyData.eqv (.list (R.map fun r => PyData.list (r.map PyData.int))) (.list []) = R.isEmpty := by cases R <;> simp [PyData.eqv, PyData.eqvAll]
    rw [z]
    exact w H2 (.refl _)⟩)
theorem ev_chainLt {i j k : Int} {tc : TE} (ha : Ev ta σ H (.int i)) (hb : Ev tb σ H (.int j)) (hc : Ev tc σ H (.int k)) : Ev (tChain rLtI rLtI ta tb tc) σ H (.bl (decide (i < j) && decide (j < k))) :=
  fun H1 e Q q => ha H1 e _ fun H2 e2 => hb H2 (e.trans e2) _ fun H3 e3 => ⟨i, j, rfl, rfl, _, rfl, by
    by_cases c : i < j
    · rw [decide_eq_true c]
      exact iteT (hc H3 ((e.trans e2).trans e3) _ fun H4 e4 => ⟨j, k, rfl, rfl, by simpa [c] using q H4 ((e2.trans e3).trans e4)⟩)
    · rw [decide_eq_false c]
      exact iteF (by simpa [c] using q H3 (e2.trans e3))⟩
theorem es_mulN {a : Addr} {h1 h2 : Int} (ha : EvS a ta σ H (PInt 0 h1)) (hb : EvS a tb σ H (PInt 0 h2)) (z : h1 ≤ 1000003) (z2 : 0 ≤ h1) : EvS a (tOp rMulI ta tb) σ H (PInt 0 (h1 * h2)) :=
  es_op ha hb mono_int fun x y H1 u ⟨i, ei, a1, a2⟩ ⟨j, ej, b1, b2⟩ Q q => ⟨i, j, ei, ej, .inl ⟨by omega, by omega⟩, q _ H1 (.refl u.src) ⟨_, rfl, Int.mul_nonneg a1 b1, Int.mul_le_mul a2 b2 b1 z2⟩⟩
theorem ev_showX {P : VP} {d : PyData} {k : Nat} (h : EvX te σ H P) (hd : ∀ v H', Ex H H' → P v H' → Gd K H' k v d) (hk : k ≤ 4) : Ev (tCB (rShow K) (tCons te tNil)) σ H (.str d.shown) := fun H1 e Q q =>
  h H1 e _ fun t H2 e2 p => show_d (hd t H2 (e.trans e2) p) hk (q H2 e2)
theorem given_none (n : Nat) (v : Nat → V) : given n (fun _ => false) v = [] := by
  unfold given
  rw [List.filter_eq_nil_iff.mpr (by simp)]
  rfl
theorem wf_take {p : Int} {n d : Nat} (w : WF p n R) : WF p n (R.take d) := fun r hr => w r (List.mem_of_mem_take hr)
theorem wf_rr {p : Int} {n : Nat} (hp : 1 < p) (hI : HasInv p) (w : WF p n M) : WF p n (rr p M n) := wf_take (good_red hp hI w n).wf
theorem wf_ker {p : Int} {n : Nat} (hp : 1 < p) (hI : HasInv p) : WF p n (ker p M n) := wf_take (good_red hp hI (wf_kerM hp) n).wf
theorem len_ker {p : Int} {n : Nat} (hp : 1 < p) (hI : HasInv p) : (ker p M n).length ≤ n := by
  unfold ker
  rw [List.length_take]
  have h1 := len_red (p := p) (M := kerM p M n) n
  have h2 : (kerM p M n).length ≤ n := by
    simp only [kerM, List.length_map]
    have := List.length_filter_le (fun k => !decide (k ∈ (red p M n).S)) (List.range n)
    rw [List.length_range] at this
    exact this
  omega
theorem solT_bd {p : Int} {n : Nat} {S : List Nat} (hp : 0 < p) (w : WF p (n + 1) R) : ∀ t, ∀ x ∈ solT R S n t, 0 ≤ x ∧ x < p
  | 0 => fun x hx => by
    have := (List.mem_replicate.mp hx).2
    omega
  | t + 1 => fun x hx => by
    rcases List.mem_or_eq_of_mem_set hx with q | q
    · exact solT_bd hp w t x q
    · rw [q]; exact wf_nth w hp t n
theorem sol_bd {p : Int} {n : Nat} {right s : Ro} (P : Prm p) (hI : HasInv p) (w : WF p n M) (hr : right.length = M.length) (hb : ∀ x ∈ right, 0 ≤ x ∧ x < p) (h : sol p M right n = some s) : s.length = n ∧ ∀ x ∈ s, 0 ≤ x ∧ x < p := by
  have p5 := P.1
  have wj := wf_joined w hr hb
  have g := good_red (show 1 < p by omega) hI wj (n + 1)
  unfold sol at h
  split at h
  · cases h
  · injection h with h
    subst h
    exact ⟨len_solT _, solT_bd (by omega) g.wf _⟩
/-- a right side: n numbers below p, in a tuple -/
def Rig (K : PySem.W.Frag) (p : Int) (n : Nat) (v : V) (H : Hp) : Prop := ∃ (c : Addr) (r : Ro), v = .ref c ∧ SqT K H c (r.map V.int) ∧ r.length = n ∧ ∀ x ∈ r, 0 ≤ x ∧ x < p
theorem Rig.ex {p : Int} {n : Nat} {v : V} (e : Ex H H') (h : Rig K p n v H) : Rig K p n v H' := let ⟨c, r, h1, h2, h3⟩ := h; ⟨c, r, h1, ex_t e h2, h3⟩
theorem monoK_rig {p : Int} {n : Nat} : MonoK (Rig K p n) := fun _ _ _ e ⟨c, r, h1, h2, h3⟩ => ⟨c, r, h1, e.sqT h2, h3⟩
theorem ints_of {lo hi : Int} : ∀ {xs : List V}, (∀ x ∈ xs, PInt lo hi x H) → ∃ r : Ro, xs = r.map V.int ∧ r.length = xs.length ∧ ∀ x ∈ r, lo ≤ x ∧ x ≤ hi
  | [], _ => ⟨[], rfl, rfl, fun _ h => absurd h List.not_mem_nil⟩
  | x :: xs, h => by
    obtain ⟨i, e, h1, h2⟩ := h x List.mem_cons_self
    obtain ⟨r, e2, hl, hr⟩ := ints_of fun y hy => h y (List.mem_cons_of_mem _ hy)
    exact ⟨i :: r, by rw [e, e2]; rfl, by simp [hl], fun y hy => by
      rcases List.mem_cons.mp hy with z | z
      · rw [z]; exact ⟨h1, h2⟩
      · exact hr y z⟩
theorem es_ofH {a : Addr} {P : VP} {o : HO} (h : ∀ H1, Up a H H1 → EvH te σ H1 o) (i : ∀ p H1, H1 p = some o → P (.ref p) H1) : EvS a te σ H P :=
  fun H1 u Q q => h H1 u H1 (.refl H1) _ fun p H2 _ e hp => q _ H2 (.ex e u.src) (i p H2 hp)
theorem es_tupR {a : Addr} {H0 : Hp} {p : Int} {n : Nat} (h : EvS a te σ H (PLsF H0 a n (PInt 0 (p - 1)))) : EvS a (tCB (rTupOf K) (tCons te tNil)) σ H (Rig K p n) :=
  fun H1 u Q q => h H1 u _ fun v H2 u2 ⟨b, xs, ev, _, _, hb, hl, hp⟩ => by
    obtain ⟨r, rfl, hl2, hr⟩ := ints_of hp
    exact ⟨b, _, by rw [ev], .inl ⟨sq_of hb, fun t nt => q _ _ (u2.trans (.ex (Ex.new nt) u2.src)) ⟨t, r, rfl, st_of upd_same, by omega, fun x hx => by have := hr x hx; omega⟩⟩⟩
/-- for x in a new list whose items are drawn -/
theorem q_forS {a : Addr} {P : VP} {j n : Nat} (s : Src H a) (h : EvS a tl σ H (PLst a n P)) (Pv : Hp → Nat → L2.St → Hp → Prop) (h0 : ∀ HL, Up a H HL → Pv HL 0 σ HL) (hE : ∀ HL i σ' H', Pv HL i σ' H' → Ex HL H')
    (hs : ∀ HL i x σ' H', Up a H HL → P x HL → i < n → Pv HL i σ' H' → tu { D with nx := Pv HL (i + 1), ct := Pv HL (i + 1), bk := tz D } (σ'.set j (some x)) H') (hd : ∀ HL σ' H', Up a H HL → Pv HL n σ' H' → tz D σ' H') :
    tSeq (tFor (iList K tl) (gName j) tu) tz D σ H :=
  h H (.refl s) _ fun v HL u ⟨L, xs, ev, nL, hL, hl, hp⟩ => ⟨L, ev, ⟨xs, sq_of hL⟩, for_list (xs := xs) (Pv HL) (h0 HL u) (fun i σ' H' _ p => sq_of (hE HL i σ' H' p _ _ hL))
    (fun i x σ' H' hx p => hs HL i x σ' H' u (hp x (List.mem_of_getElem? hx)) (by have := (List.getElem?_eq_some_iff.mp hx).1; omega) p) (fun σ' H' p => hd HL σ' H' u (by rw [← hl]; exact p))⟩
end
end Own


set_option maxHeartbeats 1000000
namespace Own
open PySem PySem.Spec PyProof.Rows L2
/-! ### try .. with several clauses, each of which names the error (slot i) -/
abbrev Suites := List (Value × (Addr → Value → Option Addr → TS))
/-- the wishes behind a suite: the name is gone -/
def Ends.less (D : Ends) (i : Nat) : Ends := { nx := fun z G => D.nx (z.set i none) G, rt := D.rt, bk := fun z G => D.bk (z.set i none) G, ct := fun z G => D.ct (z.set i none) G }
def wNamed (K : PySem.W.Frag) (i : Nat) (out : WX) (D : Ends) : Suites → WX
  | [] => out
  | c :: rest => fun cls dd z G => ∃ yes, PySem.W.exmOne K cls c.1 = some yes ∧ (yes = true → ∀ a, G a = none → c.2 a cls dd (Ends.less D i) (z.set i (some (.ref a))) G) ∧ (yes = false → wNamed K i out D rest cls dd z G)
inductive NamedOk (X : Cx) (n : Str) : List ExceptHandler → Suites → Prop
  | nil : NamedOk X n [] []
  | cons {x : Str} {c : Value} {ts : Addr → Value → Option Addr → TS} {first : Stmt} {more : List Stmt} {q1 q2 : Pos} {hs : List ExceptHandler} {cs : Suites} (hc : Names X x c)
      (hsu : ∀ (a : Addr) (oe : Obj) (cls : Value) (dd : Option Addr) (pn : List (Addr × Obj)), Zc cls dd oe → (∃ vs, oe.data = .fields vs) → PSs (X.suite a ((a, oe) :: pn)) (first :: more) (ts a cls dd)) (tl : NamedOk X n hs cs) :
      NamedOk X n (.ExceptHandler (some (.Name x q1)) (some n) (first :: more) q2 :: hs) ((c, ts) :: cs)
section
variable {X : Cx} {n : Str} {i : Nat} {body : List Stmt} {hd₀ : ExceptHandler} {hs : List ExceptHandler} {cs : Suites} {pos : Pos} {tb : WX → TS} {out : WX}
theorem ps_try_named (hst : X.stack = X.env :: X.outer) (hfr : X.env.frame = some X.env.locals) (hN : X.N.Nodup) (hi : X.N[i]? = some n) (hln : X.env.kindOf n = some .local) (tk : Takes X out)
    (hb : ∀ (W : WX) (pn : List (Addr × Obj)) (xe : Value → Shared → Prop), Takes (X.tr pn xe) W → PassesOwn (model X.prog X.w) X.A X.env xe → PSs (X.tr pn xe) body (tb W))
    (hh : NamedOk X n (hd₀ :: hs) cs) : PS X (.Try body (hd₀ :: hs) [] [] pos) (fun D z G => tb (wNamed X.K i out D cs) D z G) := by
  refine ⟨fun pins s z G D I wish => ?_⟩
  have ok := I.ok
  have frames : X.A.frames = some (X.env :: X.outer) := ok.frames.trans (by rw [hst])
  refine wpAny_Try_except (wpAny_mono ((hb (wNamed X.K i out D cs) (X.pn ++ pins) _ (fun u s' thrown => ?_) PassesOwn.looking).run [] s z G D (I.toTry _) wish) (fun fl s1 gone => ?_) (fun _ _ far => far))
  · obtain ⟨a, B, sI, pins', z', G', cls, dd, rfl, J0, nb, up, sky, na, os, ag, w⟩ := thrown
    have J : Inv X pins z' G' sI := J0.ofTry ok
    have sky1 : Sky B (X.env :: X.outer) a (Zc cls dd) X.env.locals s'.heap := hst ▸ sky
    show wpAny (model X.prog X.w) X.A (noteFrame (.ref a) X.env) _ _ _
    refine Sky.land Zc.steady frames hfr sky1 fun h3 fl3 up3 => ?_
    have J3 : Inv X pins z' G' { s' with heap := h3 } := J.landed nb fl3.1 (up.trans up3) os ag
    obtain ⟨oe3, vs3, at3, hz3, hd3⟩ := fl3.there
    have apart : a ∉ frs (X.env :: X.outer) := fun hm => by
      obtain ⟨_, o', e', no⟩ := fl3.2.2.1.mem hm
      rw [at3] at e'
      cases e'
      exact no _ hd3
    have nL : a ≠ X.env.locals := fun q => apart (List.mem_filterMap.mpr ⟨X.env, List.mem_cons_self, by rw [hfr, q]⟩)
    have nF : a ∉ X.fs := fun hm => let ⟨e, he, q⟩ := List.mem_filterMap.mp hm; apart (List.mem_filterMap.mpr ⟨e, List.mem_cons_of_mem _ he, q⟩)
    have S3 := J3.suite at3 hd3 na nL nF
    have LT : PySem.W.Looks (model X.prog X.w) h3 (typeOf (.ref a)) cls := fun A Q E s k q => wpAny_typeOf_ref (k _ _ at3) (by rw [hz3.1]; exact q)
    suffices go : ∀ {hs' : List ExceptHandler} {cs' : Suites}, NamedOk X n hs' cs' → wNamed X.K i out D cs' cls dd z' G' → wpAny (model X.prog X.w) X.A (handleBy (.ref a) X.env hs') (SP X pins D) X.xe { s' with heap := h3 } from go hh w
    intro hs' cs' okc
    induction okc with
    | nil =>
      intro w
      refine wpAny_handleBy_nil ?_
      obtain ⟨_, _, _, oe, vs, Tb, oT, ts', he, hz, hd, h1, hr⟩ := id fl3
      unfold PySem.passOn
      refine wpAny_bind (wpAny_field he hd h1 ?_)
      rw [if_neg (show ¬ ((Value.ref Tb == Value.none) = true) from by simp)]
      have leave : wpAny (model X.prog X.w) X.A (setFlight (.ref a) X.env.frame) (fun _ s4 => wpAny (model X.prog X.w) X.A (throw (.ref a) : Sem Flow) (SP X pins D) X.xe s4) X.xe { s' with heap := h3 } := by
        rw [hfr]
        exact HandSPX.setFlight_upZ fl3 fun h4 hh4 up4 => wpAny_throw (tk _ _ ⟨a, B, sI, pins, z', G', cls, dd, rfl, J, nb, (up.trans up3).trans up4, .inr (.inr (by rw [hst]; exact hh4)), na, os, ag, w⟩)
      first
        | exact wpAny_bind (wpAny_pure (wpAny_bind leave))
        | exact wpAny_bind leave
    | cons hc hsu tl ih =>
      intro w
      obtain ⟨yes, hy, w1, w2⟩ := w
      have asked := PySem.W.exm_one (M := model X.prog X.w) (J3.kIn) LT hy
      refine wpAny_handleBy_cons (codeAny_handlers_test ?_) (fun q => nomatch q)
      have reads : ∀ {Q : Value → Shared → Prop} {E : Value → Shared → Prop} {x : Str} {c : Value} {q1 : Pos}, Names X x c → Q c { s' with heap := h3 } → wpAny (model X.prog X.w) (X.A.mark (some (.ref a))) (eval (.Name x q1) X.env) Q E { s' with heap := h3 } := fun {Q E x c q1} nm q => by
        obtain ⟨hg, hdbg, hm | ⟨hm, hv, hnn⟩⟩ := nm
        · exact ld_glob (X := X.suite a ((a, oe3) :: (X.pn ++ pins))) S3 hg hm q hdbg
        · exact ld_blt (X := X.suite a ((a, oe3) :: (X.pn ++ pins))) S3 hg hm hv q hnn hdbg
      refine reads hc (asked.here ?_)
      cases yes with
      | false => exact ih (w2 rfl)
      | true =>
        refine codeAny_handlers_suite_as (HandSPX.lands_againZ fl3 fun h4 fl4 up4 => ?_)
        obtain ⟨oe4, vs4, at4, hz4, hd4⟩ := fl4.there
        have S4 := (J.landed (s' := { s' with heap := h4 }) nb fl4.1 ((up.trans up3).trans up4) os ag).suite at4 hd4 na nL nF
        refine store_ok (X := X.suite a ((a, oe4) :: (X.pn ++ pins))) (v := .ref a) S4 hN hi (.inl hln) rfl (fun s5 S5 => ?_) (.inr hln)
        refine wpAny_mono ((hsu a oe4 cls dd (X.pn ++ pins) hz4 ⟨_, hd4⟩).run [] s5 _ G' _ S5 (w1 rfl a na)) (fun fl s6 gone => ?_) (fun _ _ far => False.elim far)
        have free : ∀ {z6 : L2.St} {G6 : Hp} {Q : Shared → Prop} {q2 : Pos}, Inv (X.suite a ((a, oe4) :: (X.pn ++ pins))) [] z6 G6 s6 → (∀ s7, Inv X pins (z6.set i none) G6 s7 → Q s7) →
            wpAny (model X.prog X.w) X.A (do bindName X.env n .none; unbindBehindTheSuite X.env n q2) (fun _ s7 => Q s7) X.xe s6 := fun S6 hq => gone_ok (S6.unsuite ok) hN hi hln hq
        match fl, gone with
        | .next, ⟨_, _, S6, q6⟩ => exact free S6 fun s7 J7 => ⟨_, _, J7, q6⟩
        | .brk, ⟨_, _, S6, q6⟩ => exact free S6 fun s7 J7 => ⟨_, _, J7, q6⟩
        | .cont, ⟨_, _, S6, q6⟩ => exact free S6 fun s7 J7 => ⟨_, _, J7, q6⟩
        | .ret u, ⟨_, _, _, S6, r6, q6⟩ => exact free S6 fun s7 J7 => ⟨_, _, _, J7, r6, q6⟩
  · match fl, gone with
    | .next, ⟨_, _, J, q⟩ => exact wpAny_execs_nil ⟨_, _, J.ofTry ok, q⟩
    | .brk, ⟨_, _, J, q⟩ => exact ⟨_, _, J.ofTry ok, q⟩
    | .cont, ⟨_, _, J, q⟩ => exact ⟨_, _, J.ofTry ok, q⟩
    | .ret u, ⟨_, _, _, J, r, q⟩ => exact ⟨_, _, _, J.ofTry ok, r, q⟩
end
def tTryN (K : PySem.W.Frag) (i : Nat) (tb : WX → TS) (cs : Suites) : TS := fun D σ H => tb (wNamed K i (fun _ _ _ _ => False) D cs) D σ H
abbrev rStrI : List V → Hp → VK → Prop := fun xs H Q => ∃ i, xs = [.int i] ∧ i.natAbs.log2 < 1920 ∧ Q (.str (toString i)) H
end Own


set_option maxHeartbeats 1000000
namespace Own
open PySem PySem.Spec PyProof.Rows L2
open Evl
/-! ### shapes that are right, as objects -/
structure Shp where
  p : Int
  w : Nat
  n : Nat
  k : Nat
  e : Nat
  m : Nat
  t : Mx
def Shp.c (s : Shp) : Nat := s.t.length
structure Shp.Ok (s : Shp) : Prop where
  p : Prm s.p
  w : 1 ≤ s.w ∧ s.w ≤ 16
  n : 1 ≤ s.n ∧ s.n ≤ 8
  k : 1 ≤ s.k ∧ s.k ≤ 3 ∧ s.k ≤ s.n
  e : s.e ≤ 2
  m : s.m ≤ 1 ∧ (s.m = 1 → s.e = 0)
  c : s.t.length ≤ 8
  t : WF s.p s.n s.t
def shD (s : Shp) : PyData := .tuple [.int s.p, .int s.w, .int s.n, .int s.k, .int s.e, .int s.m, matD s.t]
def Sh (K : PySem.W.Frag) (sh : Addr) (s : Shp) (H : Hp) : Prop := ∃ tb, SqT K H sh [.int s.p, .int s.w, .int s.n, .int s.k, .int s.e, .int s.m, .ref tb] ∧ MT K tb s.t H
section
variable {K : PySem.W.Frag} {σ : L2.St} {H H' : Hp} {te ta tb : TE} {sh : Addr} {s : Shp}
theorem Sh.ex (e : Ex H H') (h : Sh K sh s H) : Sh K sh s H' := let ⟨b, h1, h2⟩ := h; ⟨b, ex_t e h1, h2.ex e⟩
theorem Sh.kp (e : Kp H H') (h : Sh K sh s H) : Sh K sh s H' := let ⟨b, h1, h2⟩ := h; ⟨b, e.sqT h1, h2.kp e⟩
theorem Sh.gd (h : Sh K sh s H) (o : s.Ok) : Gd K H 3 (.ref sh) (shD s) := by
  obtain ⟨b, h1, h2⟩ := h
  have p1 := o.p.1
  have p2 := o.p.2.1
  have := o.w; have := o.n; have := o.k; have := o.e; have := o.m.1; have := o.c
  have gi : ∀ {i : Int}, i.natAbs < 2 ^ 64 → Gd K H 2 (.int i) (.int i) := fun h => (gd_int h).up (by decide)
  exact gd_tup h1 (.cons (gi (by omega)) (.cons (gi (by omega)) (.cons (gi (by omega)) (.cons (gi (by omega)) (.cons (gi (by omega)) (.cons (gi (by omega)) (.cons (gd_mat h2 o.t p2 (by omega) (by omega)) .nil))))))) (by show 7 ≤ 20; decide)
theorem sh_p (h : Sh K sh s H) (ha : Ev ta σ H (.ref sh)) : Ev (tOp (rIxT K) ta (tC (.int 0))) σ H (.int s.p) := let ⟨_, h1, _⟩ := h; ev_ixT ha ev_c h1 (atI_nat (j := 0) rfl)
theorem sh_w (h : Sh K sh s H) (ha : Ev ta σ H (.ref sh)) : Ev (tOp (rIxT K) ta (tC (.int 1))) σ H (.int s.w) := let ⟨_, h1, _⟩ := h; ev_ixT ha ev_c h1 (atI_nat (j := 1) rfl)
theorem sh_n (h : Sh K sh s H) (ha : Ev ta σ H (.ref sh)) : Ev (tOp (rIxT K) ta (tC (.int 2))) σ H (.int s.n) := let ⟨_, h1, _⟩ := h; ev_ixT ha ev_c h1 (atI_nat (j := 2) rfl)
theorem sh_k (h : Sh K sh s H) (ha : Ev ta σ H (.ref sh)) : Ev (tOp (rIxT K) ta (tC (.int 3))) σ H (.int s.k) := let ⟨_, h1, _⟩ := h; ev_ixT ha ev_c h1 (atI_nat (j := 3) rfl)
theorem sh_e (h : Sh K sh s H) (ha : Ev ta σ H (.ref sh)) : Ev (tOp (rIxT K) ta (tC (.int 4))) σ H (.int s.e) := let ⟨_, h1, _⟩ := h; ev_ixT ha ev_c h1 (atI_nat (j := 4) rfl)
theorem sh_m (h : Sh K sh s H) (ha : Ev ta σ H (.ref sh)) : Ev (tOp (rIxT K) ta (tC (.int 5))) σ H (.int s.m) := let ⟨_, h1, _⟩ := h; ev_ixT ha ev_c h1 (atI_nat (j := 5) rfl)
theorem sh_t (h : Sh K sh s H) : ∃ t, MT K t s.t H ∧ ∀ (σ : L2.St) (ta : TE) H1, Ex H H1 → Ev ta σ H1 (.ref sh) → Ev (tOp (rIxT K) ta (tC (.int 6))) σ H1 (.ref t) := let ⟨b, h1, h2⟩ := h; ⟨b, h2, fun _ _ _ e ha => ev_ixT ha ev_c (ex_t e h1) (atI_nat (j := 6) rfl)⟩
theorem mt_len {t : Addr} {M : Mx} (h : MT K t M H) (ha : Ev ta σ H (.ref t)) : Ev (tCB (rLenV K) (tCons ta tNil)) σ H (.int (M.length : Int)) := by
  obtain ⟨refs, h1, h2, _⟩ := h
  have := ev_lenT ha h1
  rwa [List.length_map, h2] at this
/-- len(shape[6]) -/
theorem sh_c (h : Sh K sh s H) (ha : Ev ta σ H (.ref sh)) : Ev (tCB (rLenV K) (tCons (tOp (rIxT K) ta (tC (.int 6))) tNil)) σ H (.int s.c) := by
  obtain ⟨t, h1, h2⟩ := sh_t h
  exact mt_len h1 (h2 _ _ _ (.refl H) ha)
end
/-! ### rising numbers, rows, as data -/
def risD : Int → List PyData → Int → Bool
  | _, [], _ => true
  | lo, .int i :: ds, top => decide (lo ≤ i) && decide (i ≤ top - 1) && risD (i + 1) ds top
  | _, _ :: _, _ => false
def risingD (d : PyData) (top : Int) : Bool := match d with
  | .tuple ds => risD 0 ds top
  | _ => false
def tItems : PyData → List PyData
  | .tuple ds => ds
  | _ => []
def numD : PyData → Int
  | .int i => i
  | _ => 0
section
variable {K : PySem.W.Frag} {σ : L2.St} {H H' : Hp} {te ta tb : TE} {x y z v : V} {D : Ends} {tz tu : TS} {k j : Nat} {d e : PyData}
/-- a, b = a pair that stands -/
theorem q_unp2 {i j : Nat} {a : Addr} (h : Ev te σ H (.ref a)) (hs : SqT K H a [x, y]) (k : ∀ H1, Ex H H1 → tz D ((σ.set i (some x)).set j (some y)) H1) : tSeq (tAsg te (gTup K 2 (gCons (gName i) (gCons (gName j) gNil)))) tz D σ H :=
  h H (.refl H) _ fun H1 e1 => ⟨a, _, rfl, ex_t e1 hs, rfl, _, _, rfl, _, _, rfl, rfl, k H1 e1⟩
theorem q_unp3 {i j l : Nat} {a : Addr} (h : Ev te σ H (.ref a)) (hs : SqT K H a [x, y, z]) (k : ∀ H1, Ex H H1 → tz D (((σ.set i (some x)).set j (some y)).set l (some z)) H1) : tSeq (tAsg te (gTup K 3 (gCons (gName i) (gCons (gName j) (gCons (gName l) gNil))))) tz D σ H :=
  h H (.refl H) _ fun H1 e1 => ⟨a, _, rfl, ex_t e1 hs, rfl, _, _, rfl, _, _, rfl, _, _, rfl, rfl, k H1 e1⟩
/-- == of data -/
theorem eqG (g : Gd K H k x d) (g2 : Gd K H j y e) (hk : k ≤ 60) (hj : j ≤ 60) {Q : VK} (q : Q (.bl (PyData.eqv d e)) H) : rEqD K x y H Q := ⟨d, e, g.dp, g2.dp, fine_shaped hk g.fn, fine_shaped hj g2.fn, q⟩
theorem neG (g : Gd K H k x d) (g2 : Gd K H j y e) (hk : k ≤ 60) (hj : j ≤ 60) {Q : VK} (q : Q (.bl (!PyData.eqv d e)) H) : rNeD K x y H Q := ⟨d, e, g.dp, g2.dp, fine_shaped hk g.fn, fine_shaped hj g2.fn, q⟩
theorem ev_eqG (ha : Ev ta σ H x) (hb : Ev tb σ H y) (g : Gd K H k x d) (g2 : Gd K H j y e) (hk : k ≤ 60) (hj : j ≤ 60) : Ev (tOp (rEqD K) ta tb) σ H (.bl (PyData.eqv d e)) := fun H1 e1 Q q =>
  ha H1 e1 _ fun H2 e2 => hb H2 (e1.trans e2) _ fun H3 e3 => eqG (g.ex ((e1.trans e2).trans e3)) (g2.ex ((e1.trans e2).trans e3)) hk hj (q H3 (e2.trans e3))
theorem ev_neG (ha : Ev ta σ H x) (hb : Ev tb σ H y) (g : Gd K H k x d) (g2 : Gd K H j y e) (hk : k ≤ 60) (hj : j ≤ 60) : Ev (tOp (rNeD K) ta tb) σ H (.bl (!PyData.eqv d e)) := fun H1 e1 Q q =>
  ha H1 e1 _ fun H2 e2 => hb H2 (e1.trans e2) _ fun H3 e3 => neG (g.ex ((e1.trans e2).trans e3)) (g2.ex ((e1.trans e2).trans e3)) hk hj (q H3 (e2.trans e3))
theorem inV_ints {i : Int} {l : List Int} : inV (.int i) (l.map V.int) = decide (i ∈ l) := by
  unfold inV
  induction l with
  | nil => simp
  | cons s l ih =>
    rw [List.map_cons, List.any_cons, ih]
    show ((s == i) || decide (i ∈ l)) = _
    by_cases c : s = i
    · subst c; simp
    · have : (s == i) = false := by rw [beq_eq_false_iff_ne]; exact c
      rw [this, Bool.false_or]
      simp [Ne.symm c]
theorem flat_ints (l : List Int) : (l.map V.int).all flatV = true := by
  rw [List.all_eq_true]
  intro v hv
  obtain ⟨s, _, rfl⟩ := List.mem_map.mp hv
  rfl
theorem ev_inL {i : Int} {l : List Int} {p : Addr} (ha : Ev ta σ H (.int i)) (hb : Ev tb σ H (.ref p)) (hs : SqL K H p (l.map V.int)) : Ev (tOp (rIn K false) ta tb) σ H (.bl (decide (i ∈ l))) := by
  rw [← inV_ints]; exact ev_op ha hb (rv_isL hs rfl (flat_ints l))
theorem ev_inT {i : Int} {l : List Int} {p : Addr} (ha : Ev ta σ H (.int i)) (hb : Ev tb σ H (.ref p)) (hs : SqT K H p (l.map V.int)) : Ev (tOp (rIn K false) ta tb) σ H (.bl (decide (i ∈ l))) := by
  rw [← inV_ints]; exact ev_op ha hb (rv_isT hs rfl (flat_ints l))
theorem ev_ninL {i : Int} {l : List Int} {p : Addr} (ha : Ev ta σ H (.int i)) (hb : Ev tb σ H (.ref p)) (hs : SqL K H p (l.map V.int)) : Ev (tOp (rIn K true) ta tb) σ H (.bl (!decide (i ∈ l))) := by
  rw [← inV_ints]; exact ev_op ha hb (rv_niL hs rfl (flat_ints l))
/-- a list of ints against [] -/
theorem ev_eqInts {p : Addr} {ns : List Int} (h : Ev ta σ H (.ref p)) (hs : SqL K H p (ns.map V.int)) : Ev (tOp (rEqD K) ta (tLst tNil)) σ H (.bl ns.isEmpty) :=
  ev_opL h (el_lst ea_nil (Nat.zero_le _)) fun q H1 hq e H2 e2 Q w => ⟨.list (ns.map .int), .list [], .lst (ex_l (e.trans e2) hs) (dp_ints ns), .lst (sq_of (e2 q _ hq)) .nil, shaped_ints ns, rfl, by
    have z : PyData.eqv (.list (ns.map .int)) (.list []) = ns.isEmpty := by cases ns <;> simp [PyData.eqv, PyData.eqvAll]
    rw [z]
    exact w H2 (.refl _)⟩
/-- a comprehension over a tuple of pairs -/
theorem el_lcTp2 {t : TT} {a : Addr} {xs : List V} {tl : TE} {i j : Nat} {vs : List Nat} (f : Nat → Bool) (v : Nat → V) (h : Ev tl σ H (.ref a)) (hx : SqT K H a xs) (hz : xs.length ≤ 40000) (hw : ∀ x y, wipe (((wipe σ vs).set i (some x)).set j (some y)) vs = wipe σ vs)
    (hp : ∀ (m : Nat) (x : V), xs[m]? = some x → ∃ b x1 x2, x = .ref b ∧ SqT K H b [x1, x2] ∧ (∀ H1, Ex H H1 → EvT t (((wipe σ vs).set i (some x1)).set j (some x2)) H1 (f m)) ∧ (∀ H1, Ex H H1 → f m = true → Ev te (((wipe σ vs).set i (some x1)).set j (some x2)) H1 (v m))) :
    EvL (tLc (iTup K tl) (gTup K 2 (gCons (gName i) (gCons (gName j) gNil))) t te vs) σ H (given xs.length f v) := fun H0 e Q q => h H0 e _ fun H1 e1 => ⟨a, rfl, ⟨xs, ex_t (e.trans e1) hx⟩, fun Dl hD =>
  lc_tup (xs := xs) (Cw H1 f v Dl) ⟨hD, Ex.new hD, upd_same⟩ (fun i H' _ p => ex_t ((e.trans e1).trans p.2.1) hx)
    (fun m x H' hi p => by
      obtain ⟨b, x1, x2, rfl, hb, ht, he⟩ := hp m x hi
      exact ⟨b, _, rfl, ex_t ((e.trans e1).trans p.2.1) hb, rfl, x1, _, rfl, x2, _, rfl, rfl, hw _ _, cw_turn p (by have := (List.getElem?_eq_some_iff.mp hi).1; omega) (ht H1 (e.trans e1)) (fun hf => he H1 (e.trans e1) hf)⟩) (fun H' p => q Dl H' (fresh_back e1 p.1) (e1.trans p.2.1) p.2.2)⟩
end
theorem range_get {α : Type} (l : List α) (z : α) : (List.range l.length).map (fun i => l.getD i z) = l := by
  have := range_getD l z (fun x => x)
  rwa [List.map_id'] at this
theorem given_filter (l : List Int) (g : Int → Bool) : given l.length (fun i => g (l.getD i 0)) (fun i => V.int (l.getD i 0)) = (l.filter g).map V.int := by
  unfold given
  conv => rhs; rw [← range_get l 0, List.filter_map, List.map_map]
  rfl
theorem given_ints (n : Nat) (v : Nat → Int) : given n (fun _ => true) (fun i => V.int (v i)) = ((List.range n).map v).map V.int := by
  rw [given_true, List.map_map]; rfl
theorem map_ints {l : List Int} {f : Int → Int} : (List.range l.length).map (fun i => f (l.getD i 0)) = l.map f := range_getD l 0 f
theorem rf_at {refs : List Addr} {i : Nat} {x : V} (h : (refs.map V.ref)[i]? = some x) : ∃ b, refs[i]? = some b ∧ x = .ref b := by
  rw [List.getElem?_map] at h
  cases e : refs[i]? with
  | none => rw [e] at h; cases h
  | some b => rw [e] at h; injection h with h; exact ⟨b, rfl, h.symm⟩
/-- two rising lots with the same members are one -/
theorem pw_ext : ∀ {a b : List Nat}, a.Pairwise (· < ·) → b.Pairwise (· < ·) → (∀ i, i ∈ a ↔ i ∈ b) → a = b
  | [], [], _, _, _ => rfl
  | [], y :: b, _, _, h => absurd ((h y).mpr List.mem_cons_self) List.not_mem_nil
  | x :: a, [], _, _, h => absurd ((h x).mp List.mem_cons_self) List.not_mem_nil
  | x :: a, y :: b, ha, hb, h => by
    rw [List.pairwise_cons] at ha hb
    have e : x = y := by
      rcases List.mem_cons.mp ((h x).mp List.mem_cons_self) with q | q
      · exact q
      · rcases List.mem_cons.mp ((h y).mpr List.mem_cons_self) with r | r
        · exact r.symm
        · have := ha.1 y r; have := hb.1 x q; omega
    subst e
    rw [pw_ext ha.2 hb.2 fun i => ?_]
    constructor
    · intro hi
      rcases List.mem_cons.mp ((h i).mp (List.mem_cons_of_mem _ hi)) with q | q
      · have := ha.1 i hi; omega
      · exact q
    · intro hi
      rcases List.mem_cons.mp ((h i).mpr (List.mem_cons_of_mem _ hi)) with q | q
      · have := hb.1 i hi; omega
      · exact q
/-! ### sums of rows -/
def wsumT (p : Int) (w : Nat) (wt : Ro) (R : Mx) (k : Nat) : Ro := (List.range w).map fun i => sumTo (fun x => nth wt x * ent R x i) k % p
def wsum (s : Shp) (wt : Ro) (R : Mx) : Ro := wsumT s.p s.w wt R s.n
def sumsM (s : Shp) (R : Mx) : Mx := s.t.map fun wt => wsum s wt R
def stripeM (s : Shp) (R : Mx) : Mx := sumsM s R ++ R
theorem len_wsumT {p : Int} {w : Nat} {wt : Ro} {R : Mx} {k : Nat} : (wsumT p w wt R k).length = w := by simp [wsumT]
theorem nth_wsumT {p : Int} {w : Nat} {wt : Ro} {R : Mx} {k i : Nat} (h : i < w) : nth (wsumT p w wt R k) i = sumTo (fun x => nth wt x * ent R x i) k % p := by
  show (wsumT p w wt R k).getD i 0 = _
  rw [getD_lt (by rw [len_wsumT]; exact h)]
  unfold wsumT
  rw [List.getElem_map, List.getElem_range]
theorem wf_wsumT {p : Int} {w : Nat} {wt : Ro} {R : Mx} {k : Nat} (hp : 0 < p) : ∀ x ∈ wsumT p w wt R k, 0 ≤ x ∧ x < p := fun x hx => by
  obtain ⟨i, _, rfl⟩ := List.mem_map.mp hx
  exact ⟨Int.emod_nonneg _ (by omega), Int.emod_lt_of_pos _ hp⟩
theorem wsumT_zero {p : Int} {w : Nat} {wt : Ro} {R : Mx} : wsumT p w wt R 0 = List.replicate w 0 := by
  unfold wsumT
  rw [List.eq_replicate_iff]
  refine ⟨by simp, fun x hx => ?_⟩
  obtain ⟨i, _, rfl⟩ := List.mem_map.mp hx
  exact Int.zero_emod p
theorem wsumT_step {p : Int} {w : Nat} {wt : Ro} {R : Mx} {k i : Nat} (h : i < w) : (nth (wsumT p w wt R k) i + nth wt k * ent R k i) % p = nth (wsumT p w wt R (k + 1)) i := by
  rw [nth_wsumT h, nth_wsumT h, Int.emod_add_emod]
  rfl
theorem len_sumsM {s : Shp} {R : Mx} : (sumsM s R).length = s.c := by simp [sumsM, Shp.c]
theorem row_sumsM {s : Shp} {R : Mx} {j : Nat} (h : j < s.c) : row (sumsM s R) j = wsum s (row s.t j) R := by
  unfold sumsM
  show (List.map _ _).getD j [] = _
  rw [getD_lt (by rw [List.length_map]; exact h), List.getElem_map]
  show wsum s _ R = wsum s (s.t.getD j []) R
  rw [getD_lt (show j < s.t.length from h)]
theorem len_stripeM {s : Shp} {R : Mx} : (stripeM s R).length = s.c + R.length := by simp [stripeM, len_sumsM]
theorem wf_stripeM {s : Shp} {R : Mx} (hp : 0 < s.p) (w : WF s.p s.w R) : WF s.p s.w (stripeM s R) := fun r hr => by
  rcases List.mem_append.mp hr with h | h
  · obtain ⟨wt, _, rfl⟩ := List.mem_map.mp h
    exact ⟨len_wsumT, wf_wsumT hp⟩
  · exact w r h
/-! ### changes, stories, as objects -/
def setAll (R : Mx) : List (Nat × Ro) → Mx
  | [] => R
  | c :: cs => setAll (R.set c.1 c.2) cs
theorem len_setAll : ∀ {cs : List (Nat × Ro)} {R : Mx}, (setAll R cs).length = R.length
  | [], _ => rfl
  | c :: cs, R => by show (setAll (R.set c.1 c.2) cs).length = _; rw [len_setAll]; simp
theorem wf_set {p : Int} {w i : Nat} {R : Mx} {r : Ro} (h : WF p w R) (hr : r.length = w ∧ ∀ x ∈ r, 0 ≤ x ∧ x < p) : WF p w (R.set i r) := fun x hx => by
  rcases List.mem_or_eq_of_mem_set hx with q | q
  · exact h x q
  · rw [q]; exact hr
theorem wf_setAll {p : Int} {w : Nat} : ∀ {cs : List (Nat × Ro)} {R : Mx}, WF p w R → (∀ c ∈ cs, c.2.length = w ∧ ∀ x ∈ c.2, 0 ≤ x ∧ x < p) → WF p w (setAll R cs)
  | [], _, h, _ => h
  | c :: cs, R, h, hc => wf_setAll (cs := cs) (R := R.set c.1 c.2) (wf_set h (hc c List.mem_cons_self)) fun d hd => hc d (List.mem_cons_of_mem _ hd)
theorem setAll_snoc : ∀ {cs : List (Nat × Ro)} {R : Mx} {c : Nat × Ro}, setAll R (cs ++ [c]) = (setAll R cs).set c.1 c.2
  | [], _, _ => rfl
  | d :: cs, R, c => setAll_snoc (cs := cs) (R := R.set d.1 d.2)
structure Sto where
  r : Mx
  ch : List (Nat × Ro)
  cm : List Nat
def Sto.b (t : Sto) : Mx := setAll t.r t.ch
def natI (l : List Nat) : List Int := l.map fun (i : Nat) => (i : Int)
def chD (ch : List (Nat × Ro)) : PyData := .tuple (ch.map fun c => .tuple [.int c.1, intsD c.2])
def stD (t : Sto) : PyData := .tuple [matD t.r, chD t.ch, intsD (natI t.cm)]
structure Sto.Ok (s : Shp) (t : Sto) : Prop where
  r : WF s.p s.w t.r
  n : t.r.length = s.n
  k : t.ch.length ≤ s.k
  c : ∀ c ∈ t.ch, c.1 < s.n ∧ c.2.length = s.w ∧ (∀ x ∈ c.2, 0 ≤ x ∧ x < s.p) ∧ c.2 ≠ row t.r c.1
  cs : (t.ch.map (·.1)).Pairwise (· < ·)
  m : ∀ i ∈ t.cm, i < s.c + s.n
  ms : t.cm.Pairwise (· < ·)
  mc : ∀ i ∈ t.cm, s.c ≤ i → ∃ c ∈ t.ch, i = s.c + c.1
  w : s.m = 0 ∨ (∀ i ∈ t.cm, i < s.c) ∨ (∀ j, j < s.c → j ∈ t.cm)
def CH (K : PySem.W.Frag) (c : Addr) (ch : List (Nat × Ro)) (H : Hp) : Prop := ∃ refs : List Addr, SqT K H c (refs.map V.ref) ∧ refs.length = ch.length ∧ ∀ (i : Nat) (b : Addr) (x : Nat × Ro), refs[i]? = some b → ch[i]? = some x → ∃ cb, SqT K H b [.int x.1, .ref cb] ∧ SqT K H cb (x.2.map V.int)
def St (K : PySem.W.Frag) (a : Addr) (t : Sto) (H : Hp) : Prop := ∃ r c m, SqT K H a [.ref r, .ref c, .ref m] ∧ MT K r t.r H ∧ CH K c t.ch H ∧ SqT K H m ((natI t.cm).map V.int)
/-- a list of cells that may be set -/
def MTl (K : PySem.W.Frag) (l : Addr) (M : Mx) (H : Hp) : Prop := ∃ refs : List Addr, H l = some (.lst (refs.map V.ref)) ∧ refs.length = M.length ∧ ∀ i b, refs[i]? = some b → SqT K H b ((row M i).map V.int)
def CellV (K : PySem.W.Frag) (H : Hp) (v : V) : Option Ro → Prop
  | none => v = .non
  | some r => ∃ b, v = .ref b ∧ SqT K H b (r.map V.int)
/-- a list, a tuple of N cells or Nones -/
def LO (K : PySem.W.Frag) (l : Addr) (N : Nat) (f : Nat → Option Ro) (H : Hp) : Prop := ∃ vs, H l = some (.lst vs) ∧ vs.length = N ∧ ∀ i v, vs[i]? = some v → CellV K H v (f i)
def TupO (K : PySem.W.Frag) (l : Addr) (N : Nat) (f : Nat → Option Ro) (H : Hp) : Prop := ∃ vs, SqT K H l vs ∧ vs.length = N ∧ ∀ i v, vs[i]? = some v → CellV K H v (f i)
section
variable {K : PySem.W.Frag} {σ : L2.St} {H H' : Hp} {te ta tb : TE} {x y z v : V} {D : Ends} {tz tu : TS} {a l : Addr} {M : Mx} {N : Nat} {f : Nat → Option Ro} {o : Option Ro}
theorem CellV.kp (e : Kp H H') (h : CellV K H v o) : CellV K H' v o := by
  cases o with
  | none => exact h
  | some r => obtain ⟨b, h1, h2⟩ := h; exact ⟨b, h1, e.sqT h2⟩
theorem CH.kp {c : Addr} {ch : List (Nat × Ro)} (e : Kp H H') (h : CH K c ch H) : CH K c ch H' := let ⟨refs, h1, h2, h3⟩ := h; ⟨refs, e.sqT h1, h2, fun i b x hb hx => let ⟨cb, q1, q2⟩ := h3 i b x hb hx; ⟨cb, e.sqT q1, e.sqT q2⟩⟩
theorem St.kp {t : Sto} (e : Kp H H') (h : St K a t H) : St K a t H' := let ⟨r, c, m, h1, h2, h3, h4⟩ := h; ⟨r, c, m, e.sqT h1, h2.kp e, h3.kp e, e.sqT h4⟩
theorem St.ex {t : Sto} (e : Ex H H') (h : St K a t H) : St K a t H' := h.kp (.ex e)
theorem TupO.kp (e : Kp H H') (h : TupO K l N f H) : TupO K l N f H' := let ⟨vs, h1, h2, h3⟩ := h; ⟨vs, e.sqT h1, h2, fun i v hv => (h3 i v hv).kp e⟩
theorem LO.ex (e : Ex H H') (h : LO K l N f H) : LO K l N f H' := let ⟨vs, h1, h2, h3⟩ := h; ⟨vs, e _ _ h1, h2, fun i v hv => (h3 i v hv).kp (.ex e)⟩
theorem LO.set {j : Nat} (h : LO K l N f H) (hj : j < N) (hv : CellV K H v o) : ∃ vs, H l = some (.lst vs) ∧ j < vs.length ∧ LO K l N (fun i => if i = j then o else f i) (upd H l (.lst (vs.set j v))) := by
  obtain ⟨vs, h1, h2, h3⟩ := h
  refine ⟨vs, h1, by omega, _, upd_same, by rw [List.length_set, h2], fun i w hw => ?_⟩
  rw [List.getElem?_set] at hw
  by_cases c : j = i
  · subst c
    rw [if_pos rfl, if_pos (by omega)] at hw
    injection hw with hw
    subst hw
    show CellV K _ _ (if j = j then o else f j)
    rw [if_pos rfl]
    exact hv.kp (.lst h1)
  · rw [if_neg c] at hw
    show CellV K _ _ (if i = j then o else f i)
    rw [if_neg (Ne.symm c)]
    exact (h3 i w hw).kp (.lst h1)
/-- tuple(l) -/
theorem en_tupO (h : Ev te σ H (.ref l)) (hl : LO K l N f H) : EvN (tCB (rTupOf K) (tCons te tNil)) σ H (fun t H' => TupO K t N f H') := fun H1 e Q q => by
  obtain ⟨vs, h1, h2, h3⟩ := hl
  exact h H1 e _ fun H2 e2 => ⟨l, vs, rfl, .inl ⟨sq_of ((e.trans e2) _ _ h1), fun t nt => q t _ (fresh_back e2 nt) (e2.trans (Ex.new nt)) ⟨vs, st_of upd_same, h2, fun i v hv => (h3 i v hv).kp (.ex ((e.trans e2).trans (Ex.new nt)))⟩⟩⟩
/-- l[j] = v -/
theorem s_setO {j : Nat} (hl : LO K l N f H) (h : Ev te σ H v) (hv : CellV K H v o) (ho : Ev ta σ H (.ref l)) (hi : Ev tb σ H (.int (j : Int))) (hj : j < N) (k : ∀ H1 vs, Ex H H1 → LO K l N (fun i => if i = j then o else f i) (upd H1 l (.lst vs)) → D.nx σ (upd H1 l (.lst vs))) :
    tAsg te (gSub ta tb rSetL) D σ H := by
  obtain ⟨vs, h1, h2, h3⟩ := id hl
  refine s_setL (j := j) h1 h ho hi (by omega) fun H1 e1 => k H1 _ e1 ?_
  obtain ⟨vs', q1, q2, q3⟩ := (hl.ex e1).set hj (hv.kp (.ex e1))
  rw [e1 _ _ h1] at q1
  injection q1 with q1
  injection q1 with q1
  subst q1
  exact q3
end
end Own


set_option maxHeartbeats 1000000
namespace Own
open PySem PySem.Spec PyProof.Rows L2
open Evl
/-! ### comprehensions that draw -/
def PLsX (H0 : Hp) (a : Addr) (n : Nat) (P : Nat → VP) : VP := fun v H => ∃ b xs, v = .ref b ∧ H0 b = none ∧ b ≠ a ∧ H b = some (.lst xs) ∧ xs.length = n ∧ ∀ i x, xs[i]? = some x → P i x H
def PTX (K : PySem.W.Frag) (n : Nat) (P : Nat → VP) : VP := fun v H => ∃ b xs, v = .ref b ∧ SqT K H b xs ∧ xs.length = n ∧ ∀ i x, xs[i]? = some x → P i x H
/-- a new list of some of n things, in their order -/
def PSubF (H0 : Hp) (a : Addr) (n : Nat) (v : Nat → V) : VP := fun x H => ∃ (b : Addr) (S : List Nat), x = .ref b ∧ H0 b = none ∧ b ≠ a ∧ H b = some (.lst (S.map v)) ∧ S.Pairwise (· < ·) ∧ ∀ i ∈ S, i < n
/-- a test that draws -/
def EvST (a : Addr) (tt : TT) (σ : L2.St) (H : Hp) : Prop := ∀ H1, Up a H H1 → ∀ Q : Bool → Hp → Prop, (∀ b H2, Up a H1 H2 → Q b H2) → tt σ H1 Q
section
variable {K : PySem.W.Frag} {a : Addr} {σ : L2.St} {H H' : Hp} {te ta tb tl : TE} {tt uu : TT} {x y z w v : V} {D : Ends} {tz tu t : TS} {P : VP}
theorem up_mut {b : Addr} {o : HO} {H0 : Hp} (u : Up a H0 H) (nb : b ≠ a) (hb : H0 b = none) : Up a H0 (upd H b o) := ⟨fun c q nc hc => by rw [upd_ne (ne_of_none hc hb)]; exact u.keep c q nc hc, let ⟨x, y, h, r⟩ := u.src; ⟨x, y, by rw [upd_ne nb.symm]; exact h, r⟩⟩
theorem snoc_at {α : Type} {l : List α} {y x : α} {i : Nat} (h : (l ++ [y])[i]? = some x) : (i < l.length ∧ l[i]? = some x) ∨ (i = l.length ∧ x = y) := by
  by_cases c : i < l.length
  · rw [List.getElem?_append_left c] at h; exact .inl ⟨c, h⟩
  · rw [List.getElem?_append_right (by omega)] at h
    have z : i - l.length = 0 := by
      refine Nat.eq_zero_of_not_pos fun q => ?_
      rw [List.getElem?_eq_none (by simp; omega)] at h
      cases h
    rw [z] at h
    simp at h
    exact .inr ⟨by omega, h.symm⟩
/-- the step of a comprehension whose item is drawn -/
theorem lcD_step {P : Nat → VP} (mk : ∀ i, MonoK (P i)) {H2 H3 H4 : Hp} {Dl : Addr} {acc : List V} {y : V} {n : Nat} (hD : H2 Dl = none) (nD : Dl ≠ a) (u3 : Up a H2 H3) (hacc : H3 Dl = some (.lst acc)) (hl : acc.length = n) (hp : ∀ i x, acc[i]? = some x → P i x H3) (u4 : Up a H3 H4) (py : P n y H4) :
    Up a H2 (upd H4 Dl (.lst (acc ++ [y]))) ∧ ∃ ac2, (upd H4 Dl (.lst (acc ++ [y]))) Dl = some (.lst ac2) ∧ ac2.length = n + 1 ∧ ∀ i x, ac2[i]? = some x → P i x (upd H4 Dl (.lst (acc ++ [y]))) := by
  have h4 := u4.keep Dl _ nD hacc
  have kp : Kp H3 (upd H4 Dl (.lst (acc ++ [y]))) := (u4.kp u3.src).trans (.lst h4)
  refine ⟨up_mut (u3.trans u4) nD hD, _, upd_same, by rw [List.length_append, hl]; rfl, fun i x hx => ?_⟩
  rcases snoc_at hx with ⟨_, q⟩ | ⟨q1, q2⟩
  · exact mk i x _ _ kp (hp i x q)
  · rw [q1, hl, q2]; exact mk n y _ _ (.lst h4) py
theorem es_lcE {P : Nat → VP} {elt : TE} {j n : Nat} {vs : List Nat} (e0 : ∀ H1, Up a H H1 → Ev te σ H1 (.int (n : Int))) (hn : n ≤ 1000) (hw : ∀ x, wipe ((wipe σ vs).set j (some x)) vs = wipe σ vs)
    (he : ∀ (i : Nat) H1, Up a H H1 → i < n → EvS a elt ((wipe σ vs).set j (some (.int (i : Int)))) H1 (P i)) (mk : ∀ i, MonoK (P i)) : EvS a (tLc (iRng1 (tCons te tNil)) (gName j) tYes elt vs) σ H (PLsX H a n P) :=
  fun H1 u Q q => e0 H1 u H1 (.refl H1) _ fun H2 e2 => ⟨(n : Int), rfl, by omega, by omega, fun Dl hD => by
    have uE := u.trans (.ex e2 u.src)
    have nD : Dl ≠ a := uE.src.new hD
    exact lc_range (lo := 0) (n := (n : Int).toNat) (fun i H' => Up a H2 H' ∧ ∃ acc, H' Dl = some (.lst acc) ∧ acc.length = i ∧ ∀ k x, acc[k]? = some x → P k x H') ⟨.ex (Ex.new hD) uE.src, [], upd_same, rfl, fun k x h => by simp at h⟩
      (fun i H' hi ⟨u3, acc, hacc, hl, hp⟩ => by
        show wipe ((wipe σ vs).set j (some (.int ((0 : Int) + (i : Int))))) vs = wipe σ vs ∧ elt ((wipe σ vs).set j (some (.int ((0 : Int) + (i : Int))))) H' fun y H4 => ∃ acc, H4 Dl = some (.lst acc) ∧ acc.length < sizeLine ∧ (Up a H2 (upd H4 Dl (.lst (acc ++ [y]))) ∧ ∃ ac2, (upd H4 Dl (.lst (acc ++ [y]))) Dl = some (.lst ac2) ∧ ac2.length = i + 1 ∧ ∀ k x, ac2[k]? = some x → P k x (upd H4 Dl (.lst (acc ++ [y]))))
        rw [Int.zero_add]
        exact ⟨hw _, he i H' (uE.trans u3) (by omega) H' (.refl u3.src) _ fun y H4 u4 py => ⟨acc, u4.keep Dl _ nD hacc, sz_lt (by omega), lcD_step mk hD nD u3 hacc hl hp u4 py⟩⟩)
      (fun H' ⟨u3, acc, hacc, hl, hp⟩ => q _ _ ((Up.ex e2 u.src).trans u3) ⟨Dl, acc, rfl, up_back uE nD hD, nD, hacc, by omega, hp⟩)⟩
/-- .. over a list that stands -/
theorem es_lcLi {P : Nat → VP} {elt : TE} {j : Nat} {l : Addr} {xs : List V} {vs : List Nat} (nl : l ≠ a) (hl0 : H l = some (.lst xs)) (e0 : ∀ H1, Up a H H1 → Ev te σ H1 (.ref l)) (hn : xs.length ≤ 1000) (hw : ∀ x, wipe ((wipe σ vs).set j (some x)) vs = wipe σ vs)
    (he : ∀ (i : Nat) (x : V) H1, Up a H H1 → xs[i]? = some x → EvS a elt ((wipe σ vs).set j (some x)) H1 (P i)) (mk : ∀ i, MonoK (P i)) : EvS a (tLc (iList K te) (gName j) tYes elt vs) σ H (PLsX H a xs.length P) :=
  fun H1 u Q q => e0 H1 u H1 (.refl H1) _ fun H2 e2 => ⟨l, rfl, ⟨xs, sq_of (e2 _ _ (u.keep l _ nl hl0))⟩, fun Dl hD => by
    have uE := u.trans (.ex e2 u.src)
    have nD : Dl ≠ a := uE.src.new hD
    exact lc_list (xs := xs) (fun i H' => Up a H2 H' ∧ ∃ acc, H' Dl = some (.lst acc) ∧ acc.length = i ∧ ∀ k x, acc[k]? = some x → P k x H') ⟨.ex (Ex.new hD) uE.src, [], upd_same, rfl, fun k x h => by simp at h⟩
      (fun i H' _ p => sq_of ((uE.trans p.1).keep l _ nl hl0))
      (fun i x H' hi ⟨u3, acc, hacc, hl, hp⟩ => ⟨hw _, yesT (he i x H' (uE.trans u3) hi H' (.refl u3.src) _ fun y H4 u4 py => ⟨acc, u4.keep Dl _ nD hacc, sz_lt (by have := (List.getElem?_eq_some_iff.mp hi).1; omega), lcD_step mk hD nD u3 hacc hl hp u4 py⟩)⟩)
      (fun H' ⟨u3, acc, hacc, hl, hp⟩ => q _ _ ((Up.ex e2 u.src).trans u3) ⟨Dl, acc, rfl, up_back uE nD hD, nD, hacc, by omega, hp⟩)⟩
/-- [v(j) for j in range(n) if a test that draws] -/
theorem es_lcRT {elt : TE} {j n : Nat} {vs : List Nat} (v : Nat → V) (e0 : ∀ H1, Up a H H1 → Ev te σ H1 (.int (n : Int))) (hn : n ≤ 1000) (hw : ∀ x, wipe ((wipe σ vs).set j (some x)) vs = wipe σ vs)
    (ht : ∀ (i : Nat) H1, Up a H H1 → i < n → EvST a tt ((wipe σ vs).set j (some (.int (i : Int)))) H1) (he : ∀ (i : Nat) H1, Up a H H1 → i < n → Ev elt ((wipe σ vs).set j (some (.int (i : Int)))) H1 (v i)) : EvS a (tLc (iRng1 (tCons te tNil)) (gName j) tt elt vs) σ H (PSubF H a n v) :=
  fun H1 u Q q => e0 H1 u H1 (.refl H1) _ fun H2 e2 => ⟨(n : Int), rfl, by omega, by omega, fun Dl hD => by
    have uE := u.trans (.ex e2 u.src)
    have nD : Dl ≠ a := uE.src.new hD
    exact lc_range (lo := 0) (n := (n : Int).toNat) (fun i H' => Up a H2 H' ∧ ∃ S : List Nat, H' Dl = some (.lst (S.map v)) ∧ S.Pairwise (· < ·) ∧ (∀ k ∈ S, k < i) ∧ S.length ≤ i) ⟨.ex (Ex.new hD) uE.src, [], upd_same, .nil, fun k h => absurd h List.not_mem_nil, Nat.le_refl 0⟩
      (fun i H' hi ⟨u3, S, hacc, hS, hlt, hSl⟩ => by
        show wipe ((wipe σ vs).set j (some (.int ((0 : Int) + (i : Int))))) vs = wipe σ vs ∧ tt ((wipe σ vs).set j (some (.int ((0 : Int) + (i : Int))))) H' fun b H3 => if b = true then elt ((wipe σ vs).set j (some (.int ((0 : Int) + (i : Int))))) H3 fun y H4 => ∃ acc, H4 Dl = some (.lst acc) ∧ acc.length < sizeLine ∧ (Up a H2 (upd H4 Dl (.lst (acc ++ [y]))) ∧ ∃ S : List Nat, (upd H4 Dl (.lst (acc ++ [y]))) Dl = some (.lst (S.map v)) ∧ S.Pairwise (· < ·) ∧ (∀ k ∈ S, k < i + 1) ∧ S.length ≤ i + 1)
          else (Up a H2 H3 ∧ ∃ S : List Nat, H3 Dl = some (.lst (S.map v)) ∧ S.Pairwise (· < ·) ∧ (∀ k ∈ S, k < i + 1) ∧ S.length ≤ i + 1)
        rw [Int.zero_add]
        refine ⟨hw _, ht i H' (uE.trans u3) (by omega) H' (.refl u3.src) _ fun b H3 u4 => ?_⟩
        have h3 := u4.keep Dl _ nD hacc
        cases b with
        | false => exact ⟨u3.trans u4, S, h3, hS, fun k hk => by have := hlt k hk; omega, by omega⟩
        | true =>
          refine he i H3 ((uE.trans u3).trans u4) (by omega) H3 (.refl H3) _ fun H4 e4 => ⟨S.map v, e4 _ _ h3, sz_lt (by rw [List.length_map]; omega), up_mut ((u3.trans u4).trans (.ex e4 u4.src)) nD hD, S ++ [i], by rw [upd_same, List.map_append]; rfl, ?_, fun k hk => ?_, by simp; omega⟩
          · rw [List.pairwise_append]
            exact ⟨hS, by simp, fun x hx y hy => by rw [List.mem_singleton.mp hy]; exact hlt x hx⟩
          · rcases List.mem_append.mp hk with q | q
            · have := hlt k q; omega
            · rw [List.mem_singleton.mp q]; omega)
      (fun H' ⟨u3, S, hacc, hS, hlt, _⟩ => q _ _ ((Up.ex e2 u.src).trans u3) ⟨Dl, S, rfl, up_back uE nD hD, nD, hacc, hS, fun k hk => hlt k hk⟩)⟩
/-- [v(x) for x in xs if a test that draws] -/
theorem es_lcLT {elt : TE} {j : Nat} {l : Addr} {xs : List V} {vs : List Nat} (v : Nat → V) (nl : l ≠ a) (hl0 : H l = some (.lst xs)) (e0 : ∀ H1, Up a H H1 → Ev te σ H1 (.ref l)) (hn : xs.length ≤ 1000) (hw : ∀ x, wipe ((wipe σ vs).set j (some x)) vs = wipe σ vs)
    (ht : ∀ (i : Nat) (x : V) H1, Up a H H1 → xs[i]? = some x → EvST a tt ((wipe σ vs).set j (some x)) H1) (he : ∀ (i : Nat) (x : V) H1, Up a H H1 → xs[i]? = some x → Ev elt ((wipe σ vs).set j (some x)) H1 (v i)) : EvS a (tLc (iList K te) (gName j) tt elt vs) σ H (PSubF H a xs.length v) :=
  fun H1 u Q q => e0 H1 u H1 (.refl H1) _ fun H2 e2 => ⟨l, rfl, ⟨xs, sq_of (e2 _ _ (u.keep l _ nl hl0))⟩, fun Dl hD => by
    have uE := u.trans (.ex e2 u.src)
    have nD : Dl ≠ a := uE.src.new hD
    exact lc_list (xs := xs) (fun i H' => Up a H2 H' ∧ ∃ S : List Nat, H' Dl = some (.lst (S.map v)) ∧ S.Pairwise (· < ·) ∧ (∀ k ∈ S, k < i) ∧ S.length ≤ i) ⟨.ex (Ex.new hD) uE.src, [], upd_same, .nil, fun k h => absurd h List.not_mem_nil, Nat.le_refl 0⟩
      (fun i H' _ p => sq_of ((uE.trans p.1).keep l _ nl hl0))
      (fun i x H' hi ⟨u3, S, hacc, hS, hlt, hSl⟩ => by
        have hix := (List.getElem?_eq_some_iff.mp hi).1
        refine ⟨hw _, ht i x H' (uE.trans u3) hi H' (.refl u3.src) _ fun b H3 u4 => ?_⟩
        have h3 := u4.keep Dl _ nD hacc
        cases b with
        | false => exact ⟨u3.trans u4, S, h3, hS, fun k hk => by have := hlt k hk; omega, by omega⟩
        | true =>
          refine he i x H3 ((uE.trans u3).trans u4) hi H3 (.refl H3) _ fun H4 e4 => ⟨S.map v, e4 _ _ h3, sz_lt (by rw [List.length_map]; omega), up_mut ((u3.trans u4).trans (.ex e4 u4.src)) nD hD, S ++ [i], by rw [upd_same, List.map_append]; rfl, ?_, fun k hk => ?_, by simp; omega⟩
          · rw [List.pairwise_append]
            exact ⟨hS, by simp, fun x hx y hy => by rw [List.mem_singleton.mp hy]; exact hlt x hx⟩
          · rcases List.mem_append.mp hk with q | q
            · have := hlt k q; omega
            · rw [List.mem_singleton.mp q]; omega)
      (fun H' ⟨u3, S, hacc, hS, hlt, _⟩ => q _ _ ((Up.ex e2 u.src).trans u3) ⟨Dl, S, rfl, up_back uE nD hD, nD, hacc, hS, fun k hk => hlt k hk⟩)⟩
theorem es_tupX {H0 : Hp} {n : Nat} {P : Nat → VP} (h : EvS a te σ H (PLsX H0 a n P)) (mk : ∀ i, MonoK (P i)) : EvS a (tCB (rTupOf K) (tCons te tNil)) σ H (PTX K n P) :=
  fun H1 u Q q => h H1 u _ fun v H2 u2 ⟨b, xs, ev, _, _, hb, hl, hp⟩ => ⟨b, xs, by rw [ev], .inl ⟨sq_of hb, fun l hl2 => q _ _ (u2.trans (.ex (Ex.new hl2) u2.src)) ⟨l, xs, rfl, st_of upd_same, hl, fun i x hx => mk i x _ _ (.new hl2) (hp i x hx)⟩⟩⟩
theorem monoK_ptx {n : Nat} {P : Nat → VP} (m : ∀ i, MonoK (P i)) : MonoK (PTX K n P) := fun _ _ _ e ⟨b, xs, ev, hb, hl, hp⟩ => ⟨b, xs, ev, e.sqT hb, hl, fun i x hx => m i x _ _ e (hp i x hx)⟩
theorem et_st (h : EvS a te σ H (fun v _ => ∃ b, v = .bl b)) : EvST a (tTest te) σ H := fun H1 u Q q => h H1 u _ fun v H2 u2 ⟨b, e⟩ => ⟨b, e, q b H2 u2⟩
theorem est_or (h : EvST a tt σ H) (h2 : EvST a uu σ H) : EvST a (tOr tt uu) σ H := fun H1 u Q q => h H1 u _ fun b H2 u2 => by
  cases b with
  | true => exact q true H2 u2
  | false => exact h2 H2 (u.trans u2) Q fun b H3 u3 => q b H3 (u2.trans u3)
theorem est_and (h : EvST a tt σ H) (h2 : EvST a uu σ H) : EvST a (tAnd tt uu) σ H := fun H1 u Q q => h H1 u _ fun b H2 u2 => by
  cases b with
  | false => exact q false H2 u2
  | true => exact h2 H2 (u.trans u2) Q fun b H3 u3 => q b H3 (u2.trans u3)
theorem est_of {f : Hp → Bool} (h : ∀ H1, Up a H H1 → EvT tt σ H1 (f H1)) : EvST a tt σ H := fun H1 u Q q => h H1 u H1 (.refl H1) Q fun H2 e2 => q _ H2 (.ex e2 u.src)
/-- number of a draw against one that is written -/
theorem est_cmpEq {lo hi k : Int} (h : EvS a te σ H (PInt lo hi)) : EvST a (tTest (tOp rEq te (tC (.int k)))) σ H := fun H1 u Q q => h H1 u _ fun v H2 u2 ⟨i, e, _⟩ => by
  subst e
  exact ⟨rfl, _, rfl, q _ H2 u2⟩
theorem est_cmpGt {lo hi k : Int} (h : EvS a te σ H (PInt lo hi)) : EvST a (tTest (tOp rGtI te (tC (.int k)))) σ H := fun H1 u Q q => h H1 u _ fun v H2 u2 ⟨i, e, _⟩ => by
  subst e
  exact ⟨i, k, rfl, rfl, _, rfl, q _ H2 u2⟩
/-- a tuple of rows, drawn -/
def PMat (K : PySem.W.Frag) (p : Int) (w n : Nat) : VP := fun v H => ∃ t M, v = .ref t ∧ MT K t M H ∧ WF p w M ∧ M.length = n
theorem monoK_mat {p : Int} {w n : Nat} : MonoK (PMat K p w n) := fun _ _ _ e ⟨t, M, ev, h1, h2⟩ => ⟨t, M, ev, h1.kp e, h2⟩
theorem mat_of {p : Int} {w n : Nat} (h : PTX K n (fun _ => Rig K p w) v H) : PMat K p w n v H := by
  obtain ⟨b, xs, rfl, hb, hl, hp⟩ := h
  have key : ∀ xs : List V, (∀ (i : Nat) x, xs[i]? = some x → Rig K p w x H) → ∃ (refs : List Addr) (M : Mx), xs = refs.map V.ref ∧ refs.length = M.length ∧ WF p w M ∧ ∀ i b, refs[i]? = some b → SqT K H b ((row M i).map V.int) := fun xs => by
    induction xs with
    | nil => exact fun _ => ⟨[], [], rfl, rfl, fun r hr => absurd hr List.not_mem_nil, fun i b hb => by simp at hb⟩
    | cons x xs ih =>
      intro h
      obtain ⟨refs, M, e, hl, w', hr⟩ := ih fun i y hy => h (i + 1) y (by simpa using hy)
      obtain ⟨c, r, rfl, hc, hrl, hrb⟩ := h 0 x rfl
      refine ⟨c :: refs, r :: M, by rw [e]; rfl, by simp [hl], fun y hy => ?_, fun i d hd => ?_⟩
      · rcases List.mem_cons.mp hy with q | q
        · rw [q]; exact ⟨hrl, hrb⟩
        · exact w' y q
      · cases i with
        | zero => simp at hd; subst hd; exact hc
        | succ i => exact hr i d (by simpa using hd)
  obtain ⟨refs, M, rfl, h1, h2, h3⟩ := key xs hp
  exact ⟨b, M, rfl, ⟨refs, hb, h1, h3⟩, h2, by rw [← h1, ← hl, List.length_map]⟩
theorem rig_of {p : Int} {n : Nat} (h : PTX K n (fun _ => PInt 0 (p - 1)) v H) : Rig K p n v H := by
  obtain ⟨b, xs, rfl, hb, hl, hp⟩ := h
  obtain ⟨r, rfl, hl2, hr⟩ := ints_of (lo := 0) (hi := p - 1) (H := H) (xs := xs) fun x hx => by
    obtain ⟨i, hi, e⟩ := List.mem_iff_getElem.mp hx
    exact hp i x (by rw [List.getElem?_eq_getElem hi, e])
  exact ⟨b, r, rfl, hb, by omega, fun x hx => by have := hr x hx; omega⟩
theorem ss_tupPQ {P R : VP} {i j : Nat} (s : Src H a) (h1 : EvS a ta σ H P) (h2 : EvS a tb σ H R) (m : Mono a P) (k : ∀ x y H1 H2, Up a H H1 → Ex H1 H2 → P x H1 → R y H1 → D.nx ((σ.set i (some x)).set j (some y)) H2) :
    tAsg (tTup (tCons ta (tCons tb tNil))) (gTup K 2 (gCons (gName i) (gCons (gName j) gNil))) D σ H :=
  h1 H (.refl s) _ fun x H1 u1 p => h2 H1 u1 _ fun y H2 u2 r => ⟨by show 2 ≤ sizeLine; decide, fun t nt => ⟨t, _, rfl, st_of upd_same, rfl, x, _, rfl, y, _, rfl, rfl, k x y H2 _ (u1.trans u2) (Ex.new nt) (m x H1 H2 u1.src u2 p) r⟩⟩
theorem ss_parPQ {P R : VP} {i j : Nat} (s : Src H a) (h1 : EvS a ta σ H P) (h2 : EvS a tb σ H R) (m : Mono a P) (k : ∀ x y H1, Up a H H1 → P x H1 → R y H1 → D.nx ((σ.set i (some x)).set j (some y)) H1) :
    tPar i j (tCons ta (tCons tb tNil)) D σ H :=
  h1 H (.refl s) _ fun x H1 u1 p => h2 H1 u1 _ fun y H2 u2 r => ⟨x, y, rfl, k x y H2 (u1.trans u2) (m x H1 H2 u1.src u2 p) r⟩
theorem es_ev {P : VP} (h : ∀ H1, Up a H H1 → Ev te σ H1 v) (p : ∀ H1, Up a H H1 → P v H1) : EvS a te σ H P := fun H1 u Q q => h H1 u H1 (.refl H1) _ fun H2 e => q v H2 (.ex e u.src) (p H2 (u.trans (.ex e u.src)))
def PPrm : VP := fun v _ => ∃ p, v = .int p ∧ Prm p
theorem mono_prm : Mono a PPrm := fun _ _ _ _ _ h => h
def numV : V → Int
  | .int i => i
  | _ => 0
/-- an arrangement of numbers is one of numbers -/
theorem perm_ints {ys : List V} {l : List Int} (h : ys.Perm (l.map V.int)) : ∃ ns : List Int, ys = ns.map V.int ∧ ns.Perm l := by
  refine ⟨ys.map numV, ?_, ?_⟩
  · rw [List.map_map]
    refine (List.map_id' ys).symm.trans (List.map_congr_left fun y hy => ?_)
    obtain ⟨i, _, rfl⟩ := List.mem_map.mp (h.mem_iff.mp hy)
    rfl
  · have := h.map numV
    rw [List.map_map] at this
    exact this.trans (by rw [show (numV ∘ V.int) = id from rfl, List.map_id])
/-- rising: from no more than to less than, where none stands twice -/
theorem strict_of : ∀ {l : List Int}, l.Pairwise (· ≤ ·) → l.Nodup → l.Pairwise (· < ·)
  | [], _, _ => .nil
  | x :: l, h, n => by
    rw [List.pairwise_cons] at h
    rw [List.nodup_cons] at n
    exact List.pairwise_cons.mpr ⟨fun y hy => by have := h.1 y hy; have : x ≠ y := fun z => n.1 (z ▸ hy); omega, strict_of h.2 n.2⟩
/-- a, b = two new things -/
theorem q_tupNN {P R : Addr → Hp → Prop} {i j : Nat} (h1 : EvN ta σ H P) (h2 : ∀ H1, Ex H H1 → EvN tb σ H1 R) (k : ∀ a b H1 H2 H3, Ex H H1 → P a H1 → Ex H1 H2 → R b H2 → Ex H2 H3 → tz D ((σ.set i (some (.ref a))).set j (some (.ref b))) H3) :
    tSeq (tAsg (tTup (tCons ta (tCons tb tNil))) (gTup K 2 (gCons (gName i) (gCons (gName j) gNil)))) tz D σ H :=
  h1 H (.refl H) _ fun a H1 _ e1 p => h2 H1 e1 H1 (.refl H1) _ fun b H2 _ e2 r => ⟨by show 2 ≤ sizeLine; decide, fun t nt => ⟨t, _, rfl, st_of upd_same, rfl, _, _, rfl, _, _, rfl, rfl, k a b H1 H2 _ e1 p e2 r (Ex.new nt)⟩⟩
/-! ### exact data, drawn; lots of data -/
theorem gdAll_dp {k : Nat} : ∀ {vs : List V} {ds : List PyData}, DpAll K H vs ds → (∀ d ∈ ds, fine k d = true) → GdAll K H k vs ds
  | _, _, .nil, _ => .nil
  | _, _, .cons h t, f => .cons ⟨h, f _ List.mem_cons_self⟩ (gdAll_dp t fun d hd => f d (List.mem_cons_of_mem _ hd))
def PG (K : PySem.W.Frag) (k : Nat) (d : PyData) : VP := fun v H => Gd K H k v d
def PBad (K : PySem.W.Frag) (k : Nat) (p : PyData → Prop) : VP := fun v H => ∃ d, Gd K H k v d ∧ p d
theorem monoK_g {k : Nat} {d : PyData} : MonoK (PG K k d) := fun _ _ _ e g => g.kp e
theorem monoK_bad {k : Nat} {p : PyData → Prop} : MonoK (PBad K k p) := fun _ _ _ e ⟨d, g, h⟩ => ⟨d, g.kp e, h⟩
variable {k j : Nat} {d d2 d3 : PyData} {tc : TE}
theorem es_bad {p : PyData → Prop} (h : EvS a te σ H (PG K k d)) (hp : p d) : EvS a te σ H (PBad K k p) := es_imp h fun _ _ g => ⟨d, g, hp⟩
theorem es_upG (h : EvS a te σ H (PG K k d)) (l : k ≤ j) : EvS a te σ H (PG K j d) := es_imp h fun _ _ g => Gd.up l g
theorem es_varG {i : Nat} {v : V} (e : σ[i]? = some (some v)) (g : Gd K H k v d) (s : Src H a) : EvS a (tVar i) σ H (PG K k d) := es_var e fun H1 u => g.kp (u.kp s)
theorem es_intG {i : Int} (h : i.natAbs < 2 ^ 64) : EvS a (tC (.int i)) σ H (PG K 0 (.int i)) := es_c fun _ => gd_int h
theorem es_nonG : EvS a (tC .non) σ H (PG K 0 .none) := es_c fun _ => gd_non
theorem es_strG {x : Str} (h : fine 0 (.str x) = true) : EvS a (tC (.str x)) σ H (PG K 0 (.str x)) := es_c fun _ => gd_str h
theorem es_evG {v : V} (h : ∀ H1, Up a H H1 → Ev te σ H1 v) (g : ∀ H1, Up a H H1 → Gd K H1 k v d) : EvS a te σ H (PG K k d) := es_ev h g
theorem es_tup0G : EvS a (tTup tNil) σ H (PG K 1 (.tuple [])) := fun H1 u Q q => ⟨Nat.zero_le _, fun p np => q _ _ (.ex (Ex.new np) u.src) (gd_tup (st_of upd_same) .nil (Nat.zero_le _))⟩
theorem es_tup1G (h : EvS a te σ H (PG K k d)) : EvS a (tTup (tCons te tNil)) σ H (PG K (k + 1) (.tuple [d])) := fun H1 u Q q =>
  h H1 u _ fun v H2 u2 g => ⟨by show 1 ≤ sizeLine; decide, fun p np => q _ _ (u2.trans (.ex (Ex.new np) u2.src)) (gd_tup (st_of upd_same) (.cons (g.kp (.new np)) .nil) (by show 1 ≤ 20; decide))⟩
theorem es_tup2G (h : EvS a te σ H (PG K k d)) (h2 : EvS a tb σ H (PG K k d2)) : EvS a (tTup (tCons te (tCons tb tNil))) σ H (PG K (k + 1) (.tuple [d, d2])) := fun H1 u Q q =>
  h H1 u _ fun v H2 u2 g => h2 H2 (u.trans u2) _ fun w H3 u3 g2 => ⟨by show 2 ≤ sizeLine; decide, fun p np => q _ _ ((u2.trans u3).trans (.ex (Ex.new np) u3.src)) (gd_tup (st_of upd_same) (.cons ((g.kp (u3.kp u2.src)).kp (.new np)) (.cons (g2.kp (.new np)) .nil)) (by show 2 ≤ 20; decide))⟩
theorem es_tup3G (h : EvS a te σ H (PG K k d)) (h2 : EvS a tb σ H (PG K k d2)) (h3 : EvS a tc σ H (PG K k d3)) : EvS a (tTup (tCons te (tCons tb (tCons tc tNil)))) σ H (PG K (k + 1) (.tuple [d, d2, d3])) := fun H1 u Q q =>
  h H1 u _ fun v H2 u2 g => h2 H2 (u.trans u2) _ fun w H3 u3 g2 => h3 H3 ((u.trans u2).trans u3) _ fun x H4 u4 g3 => ⟨by show 3 ≤ sizeLine; decide, fun p np => q _ _ (((u2.trans u3).trans u4).trans (.ex (Ex.new np) u4.src))
    (gd_tup (st_of upd_same) (.cons (((g.kp (u3.kp u2.src)).kp (u4.kp u3.src)).kp (.new np)) (.cons ((g2.kp (u4.kp u3.src)).kp (.new np)) (.cons (g3.kp (.new np)) .nil))) (by show 3 ≤ 20; decide))⟩
/-- a tuple + a tuple, by their data -/
theorem es_catG {ds es : List PyData} (h : EvS a te σ H (PG K (k + 1) (.tuple ds))) (h2 : EvS a tb σ H (PG K (k + 1) (.tuple es))) (hz : ds.length + es.length ≤ 20) : EvS a (tOp (rCatA K) te tb) σ H (PG K (k + 1) (.tuple (ds ++ es))) := fun H1 u Q q =>
  h H1 u _ fun v H2 u2 g => h2 H2 (u.trans u2) _ fun w H3 u3 g2 => by
    have g1 : Gd K H3 (k + 1) v (.tuple ds) := g.kp (u3.kp u2.src)
    have g2 : Gd K H3 (k + 1) w (.tuple es) := g2
    obtain ⟨b, xs, j, rfl, e1, hx, lx, _, ax, fx, _⟩ := g1.tup
    obtain ⟨c, ys, j2, rfl, e2, hy, ly, _, ay, fy, _⟩ := g2.tup
    have ej : k = j := by omega
    have ej2 : k = j2 := by omega
    subst ej ej2
    refine ⟨b, c, xs, ys, rfl, rfl, hx, hy, sz_of (by omega), fun z => ?_, fun _ z => ?_, fun _ _ p np => q _ _ ((u2.trans u3).trans (.ex (Ex.new np) u3.src)) ?_⟩
    · have : ds = [] := List.eq_nil_of_length_eq_zero (by rw [← lx, z]; rfl)
      subst this
      exact q _ _ (u2.trans u3) g2
    · have : es = [] := List.eq_nil_of_length_eq_zero (by rw [← ly, z]; rfl)
      subst this
      rw [List.append_nil] at *
      exact q _ _ (u2.trans u3) g1
    · exact gd_tup (st_of upd_same) (((gdAll_dp ax fx).app (gdAll_dp ay fy)).kp (.new np)) (by rw [List.length_append]; omega)
/-- a slice of a tuple, by its data -/
theorem es_cutG {ds : List PyData} {tl th : L2.TO} {lo hi : Option Int} (h : EvS a te σ H (PG K (k + 1) (.tuple ds))) (hl : ∀ H1, Up a H H1 → ∀ Q : Option Int → Hp → Prop, (∀ H2, Up a H1 H2 → Q lo H2) → tl σ H1 Q) (hh : ∀ H1, Up a H H1 → ∀ Q : Option Int → Hp → Prop, (∀ H2, Up a H1 H2 → Q hi H2) → th σ H1 Q)
    (es : List PyData) (hd : ∀ xs : List V, xs.length = ds.length → ∃ m n, cutV xs lo hi = (xs.drop m).take n ∧ es = (ds.drop m).take n) : EvS a (tSl (rSlA K) te tl th) σ H (PG K (k + 1) (.tuple es)) := fun H1 u Q q =>
  h H1 u _ fun x H2 u2 px => hl H2 (u.trans u2) _ fun H3 u3 => hh H3 ((u.trans u2).trans u3) _ fun H4 u4 => by
    have g : Gd K H4 (k + 1) x (.tuple ds) := Gd.kp ((u3.kp u2.src).trans (u4.kp u3.src)) px
    obtain ⟨b, xs, j, rfl, e1, hx, lx, l20, ax, fx, _⟩ := g.tup
    have ej : k = j := by omega
    subst ej
    obtain ⟨m, n, e2, e3⟩ := hd xs lx
    have U := (u2.trans u3).trans u4
    have dr : ∀ (m : Nat) {xs : List V} {ds : List PyData}, GdAll K H4 k xs ds → GdAll K H4 k (xs.drop m) (ds.drop m) := fun m => by
      induction m with
      | zero => exact fun h => h
      | succ m ih => exact fun h => by cases h with
        | nil => exact .nil
        | cons _ t => exact ih t
    have tk : ∀ (n : Nat) {xs : List V} {ds : List PyData}, GdAll K H4 k xs ds → GdAll K H4 k (xs.take n) (ds.take n) := fun n => by
      induction n with
      | zero => exact fun _ => .nil
      | succ n ih => exact fun h => by cases h with
        | nil => exact .nil
        | cons h t => exact .cons h (ih t)
    have G := tk n (dr m (gdAll_dp ax fx))
    rw [← e3, ← e2] at G
    have le : (cutV xs lo hi).length ≤ 20 := by have := cutV_length xs lo hi; omega
    exact ⟨b, xs, rfl, hx, fun ⟨h1, h2⟩ => q _ H4 U (by rw [cut_whole h1 h2] at G; exact gd_tup hx G (by omega)), fun _ p np => q _ _ (U.trans (.ex (Ex.new np) u4.src)) (gd_tup (st_of upd_same) (G.kp (.new np)) le)⟩
/-- a bag: a list of its own, filled by and by -/
structure Bag (a sl : Addr) (P : VP) (n : Nat) (H : Hp) : Prop where
  ne : sl ≠ a
  all : ∃ ys, H sl = some (.lst ys) ∧ 0 < ys.length ∧ ys.length ≤ n ∧ ∀ y ∈ ys, P y H
theorem Bag.up {sl : Addr} {n : Nat} (s : Src H a) (mk : MonoK P) (u : Up a H H') (B : Bag a sl P n H) : Bag a sl P n H' := let ⟨ys, h1, h2, h3, h4⟩ := B.all; ⟨B.ne, ys, u.keep sl _ B.ne h1, h2, h3, fun y hy => mk y _ _ (u.kp s) (h4 y hy)⟩
theorem Bag.grow {sl : Addr} {n m : Nat} (h : n ≤ m) (B : Bag a sl P n H) : Bag a sl P m H := let ⟨ys, h1, h2, h3, h4⟩ := B.all; ⟨B.ne, ys, h1, h2, by omega, h4⟩
/-- a list of the items, new -/
theorem es_lstF {ta : TA} {n : Nat} (h : EvSA a ta σ H n P) (hn : n ≤ 1000) (m : Mono a P) : EvS a (tLst ta) σ H (PLsF H a n P) :=
  fun H1 u Q q => h H1 u _ fun vs H2 u2 hl hp => ⟨sz_of (by omega), fun p np => q _ _ (u2.trans (.ex (Ex.new np) u2.src))
    ⟨p, vs, rfl, up_back (u.trans u2) (u2.src.new np) np, u2.src.new np, upd_same, hl, fun x hx => m x _ _ u2.src (.ex (Ex.new np) u2.src) (hp x hx)⟩⟩
theorem bag_of {n : Nat} {v : V} {H0 : Hp} (h : PLsF H0 a n P v H) (hn : 0 < n) : ∃ sl, v = .ref sl ∧ H0 sl = none ∧ Bag a sl P n H := let ⟨b, xs, ev, h0, nb, hb, hl, hp⟩ := h; ⟨b, ev, h0, nb, xs, hb, by omega, by omega, hp⟩
theorem bag_add {H0 : Hp} {sl : Addr} {n i : Nat} (nl : H0 sl = none) (u : Up a H0 H) (B : Bag a sl P n H) (hv : σ[i]? = some (some (.ref sl))) (h : EvS a te σ H P) (mk : MonoK P) (hn : n ≤ 1000) (k : ∀ H1, Up a H0 H1 → Kp H H1 → (∀ b o, b ≠ sl → b ≠ a → H b = some o → H1 b = some o) → Bag a sl P (n + 1) H1 → D.nx σ H1) :
    tDrop (tBM K "list" rAppend (tVar i) (tCons te tNil)) D σ H := by
  obtain ⟨ys, h1, h2, h3, h4⟩ := B.all
  refine ss_app u.src B.ne h1 hv h (by omega) fun y H1 u1 p => ?_
  have h1' := u1.keep sl _ B.ne h1
  have kp : Kp H (upd H1 sl (.lst (ys ++ [y]))) := (u1.kp u.src).trans (.lst h1')
  refine k _ (up_mut (u.trans u1) B.ne nl) kp (fun b o nb na hb => by rw [upd_ne nb]; exact u1.keep b o na hb) ⟨B.ne, _, upd_same, by rw [List.length_append]; omega, by rw [List.length_append]; show _ + 1 ≤ _; omega, fun z hz => ?_⟩
  rcases List.mem_append.mp hz with q | q
  · exact mk z _ _ kp (h4 z q)
  · rw [List.mem_singleton.mp q]; exact mk y _ _ (.lst h1') p
theorem q_bag {H0 : Hp} {sl : Addr} {n i : Nat} (nl : H0 sl = none) (u : Up a H0 H) (B : Bag a sl P n H) (hv : σ[i]? = some (some (.ref sl))) (h : EvS a te σ H P) (mk : MonoK P) (hn : n ≤ 1000) (k : ∀ H1, Up a H0 H1 → Kp H H1 → (∀ b o, b ≠ sl → b ≠ a → H b = some o → H1 b = some o) → Bag a sl P (n + 1) H1 → tz D σ H1) :
    tSeq (tDrop (tBM K "list" rAppend (tVar i) (tCons te tNil))) tz D σ H := bag_add (D := { D with nx := tz D }) nl u B hv h mk hn k
/-- bag + [..] -/
theorem es_bagCat {H0 : Hp} {sl : Addr} {n m i : Nat} (u0 : Up a H0 H) (B : Bag a sl P n H) (hv : σ[i]? = some (some (.ref sl))) (mk : MonoK P) (hb : EvS a tb σ H (fun v H' => ∃ c ys, v = .ref c ∧ c ≠ a ∧ H' c = some (.lst ys) ∧ ys.length ≤ m ∧ ∀ y ∈ ys, P y H')) (hz : n + m ≤ 1000) :
    EvS a (tOp rCat (tVar i) tb) σ H (fun v H' => ∃ nl, v = .ref nl ∧ H0 nl = none ∧ Bag a nl P (n + m) H') := fun H1 u Q q => ⟨_, hv, hb H1 u _ fun v H2 u2 ⟨c, ys, ev, nc, hc, ly, py⟩ => by
    subst ev
    obtain ⟨xs, x1, x2, x3, x4⟩ := (B.up u0.src mk (u.trans u2)).all
    refine ⟨sl, c, xs, ys, rfl, rfl, x1, hc, sz_of (by omega), fun p np => q _ _ (u2.trans (.ex (Ex.new np) u2.src)) ⟨p, rfl, up_back ((u0.trans u).trans u2) (u2.src.new np) np, u2.src.new np, xs ++ ys, upd_same, by rw [List.length_append]; omega, by rw [List.length_append]; omega, fun z hz => ?_⟩⟩
    rcases List.mem_append.mp hz with w | w
    · exact mk z _ _ (.new np) (x4 z w)
    · exact mk z _ _ (.new np) (py z w)⟩
theorem es_bagOne {E : XK} {sl : Addr} {n s0 i : Nat} (e0 : σ[s0]? = some (some (.ref a))) (hv : σ[i]? = some (some (.ref sl))) (s : Src H a) (B : Bag a sl P n H) (mk : MonoK P) (hn : n ≤ 1000) : EvS a (tCall (spOne K) [] E (tCons (tVar s0) (tCons (tVar i) tNil))) σ H P :=
  fun H1 u Q q => by
    obtain ⟨xs, x1, x2, x3, x4⟩ := (B.up s mk u).all
    exact ⟨_, e0, _, hv, ⟨a, sl, xs, rfl, B.ne, u.src, sq_of x1, (fun z => by rw [z] at x2; cases x2), by omega, fun x hx H3 u3 => q x H3 u3 (mk x _ _ (u3.kp u.src) (x4 x hx))⟩⟩
/-- for x in a list of items: something that keeps the list -/
theorem q_forB {P : VP} {j n : Nat} (s : Src H a) (h : EvS a tl σ H (PLsF H a n P)) (Pv : Addr → Hp → Nat → L2.St → Hp → Prop) (h0 : ∀ L HL, H L = none → Up a H HL → Pv L HL 0 σ HL)
    (hL : ∀ L HL xs i σ' H', H L = none → HL L = some (.lst xs) → Pv L HL i σ' H' → H' L = some (.lst xs))
    (hs : ∀ L HL i x σ' H', H L = none → Up a H HL → P x HL → i < n → Pv L HL i σ' H' → tu { D with nx := Pv L HL (i + 1), ct := Pv L HL (i + 1), bk := tz D } (σ'.set j (some x)) H') (hd : ∀ L HL σ' H', Up a H HL → Pv L HL n σ' H' → tz D σ' H') :
    tSeq (tFor (iList K tl) (gName j) tu) tz D σ H :=
  h H (.refl s) _ fun v HL u ⟨L, xs, ev, nL, nLa, hLx, hl, hp⟩ => ⟨L, ev, ⟨xs, sq_of hLx⟩, for_list (xs := xs) (Pv L HL) (h0 L HL nL u) (fun i σ' H' _ p => sq_of (hL L HL xs i σ' H' nL hLx p))
    (fun i x σ' H' hx p => hs L HL i x σ' H' nL u (hp x (List.mem_of_getElem? hx)) (by have := (List.getElem?_eq_some_iff.mp hx).1; omega) p) (fun σ' H' p => hd L HL σ' H' u (by rw [← hl]; exact p))⟩
end
end Own


namespace Own
open PySem PySem.Spec PyProof.Rows L2 LamX
/-! ### the law's own call, where defs make lambdas: their tables of code objects are seen, too -/
/-- nothing is seen but the script and empty tables -/
def OnlyT (Ps : List Addr) (H : Hp) : Prop := ∀ b, H b = none ∨ (b ∈ Ps ∧ H b = some (.tbl #[])) ∨ ∃ o xs, H b = some (.frz o (.lst xs))
structure Fresh0 (Ps : List Addr) (K : PySem.W.Frag) (s : Shared) (a : Addr) (ns : List Int) (H : Hp) : Prop where
  only : OnlyT Ps H
  seq : SqL K H a (ns.map V.int)
  tabs : ∀ P ∈ Ps, H P = some (.tbl #[])
  else_ : ∀ b, b ≠ a → b ∉ Ps → H b = none
  own : H a ≠ none → K.lookup a = none
theorem fresh0 {P : Program} {w : World} {K : PySem.W.Frag} {s : Shared} {a : Addr} {vs : List Value} {ns : List Int} {Ps : List Addr} (KX : K.In s.heap)
    (ht : ∀ q ∈ Ps, s.heap.get? q = some { cls := .none, data := .fields #[] }) (ha : s.heap.get? a = some { cls := .type "list", data := .seq vs.toArray }) (hi : IntsAre vs ns) (hl : ns.length ≤ sizeLine) : ∃ H, Fresh0 Ps K s a ns H ∧ HOk P w H s.heap := by
  have na : a ∉ Ps := fun m => by
    have z := ht a m
    rw [ha] at z
    injection z with z
    injection z with _ _ z
    cases z
  obtain ⟨H0, e, hok⟩ := entry_ok (P := P) (w := w) KX ha hi hl
  have z0 : ∀ q ∈ Ps, H0 q = none := fun q hq => e.none_ q fun z => na (z ▸ hq)
  refine ⟨fun b => if b ∈ Ps then some (.tbl #[]) else H0 b, ⟨fun b => ?_, ?_, fun q hq => if_pos hq, fun b nb nq => (if_neg nq).trans (e.none_ b nb), fun z => e.own fun y => z ((if_neg na).trans y)⟩, fun b u h => ?_⟩
  · by_cases m : b ∈ Ps
    · exact .inr (.inl ⟨m, if_pos m⟩)
    · rcases e.only b with z | ⟨o, xs, z⟩
      · exact .inl ((if_neg m).trans z)
      · exact .inr (.inr ⟨o, xs, (if_neg m).trans z⟩)
  · rcases e.seq with (z | ⟨o, z⟩) | z
    · exact .inl (.inl ((if_neg na).trans z))
    · exact .inl (.inr ⟨o, (if_neg na).trans z⟩)
    · exact .inr z
  · by_cases m : b ∈ Ps
    · obtain rfl : HO.tbl #[] = u := Option.some.inj ((if_pos m).symm.trans h)
      exact ht b m
    · have h0 : H0 b = some u := (if_neg m).symm.trans h
      rcases e.only b with z | ⟨o, xs, z⟩
      · rw [z] at h0; cases h0
      · rw [z] at h0
        injection h0 with h0
        subst h0
        exact hok b _ z
theorem lawGT {P : Program} {w : World} {K : PySem.W.Frag} {mg mb : Str → Option Value} {k : Nat} {fa a : Addr} {fd : FuncData} {x : Str} {sp : Sp} {s : Shared} {vs : List Value} {ns : List Int} {cs : List (Addr × Addr)}
    (KX : K.In s.heap) (g1 : s.heap.Ns mainGlobals mg) (g2 : s.heap.Ns builtinsNs mb) (g3 : ∀ x : Str, x ≠ "__name__" → mb x = bootBuiltins x) (g4 : s.heap.NoLimit) (hg : s.gens = #[])
    (g5 : ∃ (bm : Addr) (ob : Obj), mg "__builtins__" = some (.ref bm) ∧ bm ≠ builtinsNs ∧ s.heap.get? bm = some ob ∧ ob.cls = .type "module" ∧ ob.dict = some builtinsNs ∧ ob.data = .plain)
    (t1 : ∀ q ∈ cs, s.heap.get? q.2 = some { cls := .none, data := .fields #[] }) (t2 : ∀ q ∈ cs, K.lookup q.2 = none) (t3 : ∀ q ∈ cs, PySem.W.codeHdIn K q.1 q.2 = true)
    (ha : s.heap.get? a = some { cls := .type "list", data := .seq vs.toArray }) (hi : IntsAre vs ns) (hl : ns.length ≤ sizeLine) (hr : Room k callerA)
    (F : ∀ base : Heap, K.In base → base.Ns mainGlobals mg → (∀ q ∈ cs, TabB base mg q.1 q.2) → FnG P w K mg base CX0 k fa fd [x] sp) (hb : ∀ (s : Shared) (u : Value), BindsTo s fd ⟨[u], []⟩ [(x, u)])
    (hsp : ∀ H : Hp, OnlyT (cs.map (·.2)) H → (∀ q ∈ cs, H q.2 = some (.tbl #[])) → SqL K H a (ns.map V.int) → sp [.ref a] H (fun v _ => v = .bl true) E0) :
    codeAny (model P w) callerA (.call (.ref fa) ⟨[.ref a], []⟩) (fun r s' => r = .ok (.ret (.bool true)) ∧ OldK s.heap s'.heap ∧ s'.os = s.os ∧ AllBare s'.gens) s := by
  have mem : ∀ q ∈ cs, q.2 ∈ cs.map (·.2) := fun q hq => List.mem_map_of_mem hq
  have back : ∀ b ∈ cs.map (·.2), ∃ q ∈ cs, q.2 = b := fun b hb => let ⟨q, h1, h2⟩ := List.mem_map.mp hb; ⟨q, h1, h2⟩
  have tb : ∀ b ∈ cs.map (·.2), s.heap.get? b = some { cls := .none, data := .fields #[] } := fun b hb => let ⟨q, h1, h2⟩ := back b hb; h2 ▸ t1 q h1
  obtain ⟨H, e, hok⟩ := fresh0 (P := P) (w := w) KX tb ha hi hl
  -- what isn't a list and no table isn't seen
  have hid : ∀ {b : Addr} {o : Obj}, s.heap.get? b = some o → (∀ us n, o.data ≠ .seq us n) → o.data ≠ .fields #[] → H b = none := fun {b o} q n1 n2 => by
    refine e.else_ b (fun z => ?_) fun z => ?_
    · subst z
      rw [ha] at q
      injection q with q
      subst q
      exact n1 _ _ rfl
    · rw [tb b z] at q
      injection q with q
      subst q
      exact n2 rfl
  have nsB : ∀ {b : Addr} {m : Str → Option Value}, s.heap.Ns b m → (hidT s.heap H).Ns b m := fun {b m} ⟨o, es, ep, q, d, r⟩ =>
    ⟨o, es, ep, hidT_get q (hid q (fun us n z => by rw [d] at z; cases z) fun z => by rw [d] at z; cases z), d, r⟩
  have KB : K.In (hidT s.heap H) := fun b o q => hidT_get (KX b o q) (by
    by_cases z : b = a
    · subst z
      by_cases y : H b = none
      · exact y
      · have n := e.own y
        rw [q] at n
        cases n
    · refine e.else_ b z fun m => ?_
      obtain ⟨p, h1, h2⟩ := back b m
      have n := t2 p h1
      rw [h2, q] at n
      cases n)
  have TBs : ∀ q ∈ cs, TabB (hidT s.heap H) mg q.1 q.2 := fun q hq => by
    obtain ⟨bm, ob, b1, b2, b3, b4, b5, b6⟩ := g5
    have hm := hid b3 (fun us n z => by rw [b6] at z; cases z) fun z => by rw [b6] at z; cases z
    refine ⟨PySem.W.codeHd_of_K KB (t3 q hq), ⟨bm, ob, b1, b2, fun z => ?_, fun z => ?_, hidT_get b3 hm, b4, b5, b6⟩, fun z => ?_⟩
    · obtain ⟨o, es, ep, y, d, _⟩ := g1
      rw [← z, b3] at y
      injection y with y
      subst y
      rw [b6] at d
      cases d
    · rw [z, e.tabs _ (mem q hq)] at hm
      cases hm
    · obtain ⟨o, es, ep, y, d, _⟩ := g1
      rw [z, t1 q hq] at y
      injection y with y
      subst y
      cases d
  have e0 : Env0 P w K mg (hidT s.heap H) callerA [] s H :=
    ⟨rfl, ⟨KB, nsB g1, ⟨mb, nsB g2, g3⟩, (let ⟨mc, h1, h2⟩ := g4; ⟨mc, nsB h1, h2⟩)⟩, fun b o q => of_hidT q, Nat.le_of_eq (hidT_size _ _), trivial, fun b z => absurd z (List.not_mem_nil), hok, .of_eq hg⟩
  refine codeAny_mono ((F _ KB (nsB g1) TBs).goes callerA [] s H ⟨[.ref a], []⟩ [.ref a] [.ref a] _ _ rfl hr e0 (hb s (.ref a)) (.cons rfl .nil) (hsp H e.only (fun q hq => e.tabs _ (mem q hq)) e.seq)) fun r s' z => ?_
  match r, z with
  | .error _, z => exact z.elim
  | .ok .next, z => exact z.elim
  | .ok .brk, z => exact z.elim
  | .ok .cont, z => exact z.elim
  | .ok (.ret u), z =>
    obtain ⟨v, H', os, bare, ch, hok', ru, q⟩ := z
    have q : v = .bl true := q
    subst q
    have eu : u = Value.bool true := ru
    have grown : ∀ p ∈ cs, ∃ more : Array Value, s'.heap.get? p.2 = some { cls := .none, data := .fields more } := fun p hp =>
      let ⟨more, y⟩ := ch.tbls p.2 #[] (e.tabs _ (mem p hp)); ⟨_, hok' p.2 _ y⟩
    have same : ∀ b o, b ∉ cs.map (·.2) → s.heap.get? b = some o → s'.heap.get? b = some o := fun b o nb q => by
      rcases e.only b with y | ⟨m, _⟩ | ⟨ob, xs, y⟩
      · exact ch.keep b o q y (fun z => by cases z) (fun z => by cases z)
      · exact absurd m nb
      · have o1 := (hok b _ y).1
        have o2 := (hok' b _ (ch.frzs b ob _ y)).1
        rw [q] at o1
        injection o1 with o1
        rw [o1]
        exact o2
    refine ⟨by rw [eu], ⟨fun b o q => ?_, fun b o q => ?_⟩, os, bare⟩
    · by_cases m : b ∈ cs.map (·.2)
      · obtain ⟨p, h1, rfl⟩ := back b m
        obtain ⟨more, y⟩ := grown p h1
        obtain rfl : Obj.mk .none none (.fields #[]) #[] = o := Option.some.inj ((t1 p h1).symm.trans q)
        exact .inr (.inl ⟨((PySem.W.codeHd_of_K KX (t3 p h1)).tab (t1 p h1)).isCodeTable, rfl, #[], more, rfl, by rw [Array.empty_append]; exact y⟩)
      · exact .inl (same b o m q)
    · by_cases m : b ∈ cs.map (·.2)
      · obtain ⟨p, h1, rfl⟩ := back b m
        obtain ⟨more, y⟩ := grown p h1
        exact ⟨_, y⟩
      · exact ⟨o, same b o m q⟩
theorem walkGT {l : PySem.W.OpenLaw} {n k : Nat} {q : Program} {loose : List Str} {XP : (Str → Option Value) → Heap → Prop} {YP : World → Heap → Prop} {d : DefRec} {K : Params → PySem.W.Frag} {sp : List Addr → PySem.W.Frag → Sp} {x : Str} {ts : List Addr}
    (h1 : l.most = some n) (h2 : n ≤ sizeLine) (h3 : d.params.defaults = []) (hr : Room k callerA) (hY : ∀ (w : World) (h : Heap), YP w h → (K w.params).In h ∧ ∀ b ∈ ts, h.get? b = some { cls := .none, data := .fields #[] })
    (F : ∀ (w : World) (mg : Str → Option Value) (fa : Addr) (h : Heap), (K w.params).In h → h.Ns mainGlobals mg → mg d.name = some (.ref fa) →
      ∃ (fd : FuncData) (cs : List (Addr × Addr)), (∀ p ∈ cs, p.2 ∈ ts) ∧ (∀ p ∈ cs, (K w.params).lookup p.2 = none) ∧ (∀ p ∈ cs, PySem.W.codeHdIn (K w.params) p.1 p.2 = true) ∧ (∀ (s : Shared) (u : Value), BindsTo s fd ⟨[u], []⟩ [(x, u)]) ∧
        ∀ base : Heap, (K w.params).In base → base.Ns mainGlobals mg → (∀ p ∈ cs, TabB base mg p.1 p.2) → FnG l.prog w (K w.params) mg base CX0 k fa fd [x] (sp (cs.map (·.2)) (K w.params)))
    (hsp : ∀ (Ps : List Addr) (K : PySem.W.Frag) (H : Hp) (a : Addr) (ns : List Int), ns.length ≤ n → OnlyT Ps H → (∀ b ∈ Ps, H b = some (.tbl #[])) → SqL K H a (ns.map V.int) → sp Ps K [.ref a] H (fun v _ => v = .bl true) E0) :
    PySem.W.WalkO q loose XP YP l.row.toRowW d [] (fun f vs => PySem.call f vs) :=
  Att.attach_call h1 h3 fun w s₀ s₁ mg mb fa o pm cd doc a vs ns G Y ho hd hcd hmg hobj hints hlen hg =>
    let ⟨fd, cs, hts, h4, h5, hb, hF⟩ := F w mg fa _ (hY w _ Y).1 G.T.g hmg
    lawGT (hY w _ Y).1 G.T.g G.T.b G.T.builtins G.T.nolimit hg G.T.bmain (fun p hp => (hY w _ Y).2 _ (hts p hp)) h4 h5 hobj hints (Nat.le_trans hlen h2) hr hF hb
      fun H hO hT hS => hsp _ _ H a ns hlen hO (fun b hb => let ⟨p, q1, q2⟩ := List.mem_map.mp hb; q2 ▸ hT p q1) hS
end Own


namespace Own
open PySem PySem.Spec PyProof.Rows L2 LamX
section
variable {P : Program} {w : World} {K : PySem.W.Frag} {mg : Str → Option Value} {base : Heap}
/-- a def whose code object is known (it makes lambdas) -/
structure FunC (K : PySem.W.Frag) (x qual : Str) (st : Stmt) (f : Addr) (fd : FuncData) (cc : Addr) : Prop where
  ex : ∃ (oc : Value) (od : Option Addr) (kV doc pm : Value) (an : Option Addr) (ct : Value) (osl : Array (Option Value)),
    fd = PySem.W.fnOf x qual (defArgs st) (defBody st) (defScope st) .none kV doc pm an (.ref cc) ct ∧ K.lookup f = some ⟨oc, od, .func fd, osl⟩ ∧ PySem.W.codeIn K (.ref cc) qual = true
theorem fnG_okC {x qual : Str} {st : Stmt} {f cc : Addr} {fd : FuncData} {N ps : List Str} {k : Nat} {sp : Sp} (F : FunC K x qual st f fd cc) (S : FnScope N ps (defScope st)) (sz : ∀ vs H Q E, sp vs H Q E → vs.length = ps.length)
    (hb : ∀ (A : Around) (outer : List Env) (s : Shared) (H : Hp) (vs : List V) (Q : VK) (E : XK),
      (A.deeper (envOfC qual (defScope st) s.heap.objs.size f (.ref cc))).guards = some [] → Room k (A.deeper (envOfC qual (defScope st) s.heap.objs.size f (.ref cc))) → sp vs H Q E →
        ∃ t, PSs (cxOf CX0 P w K mg base N qual (defScope st) f (.ref cc) A outer s H E).nox (defBody st) t ∧ t { nx := fun _ H' => Q .non H', rt := Q } (start N vs) H) :
    FnG P w K mg base CX0 (k + 1) f fd ps sp := by
  obtain ⟨oc, od, kV, doc, pm, an, ct, osl, efd, look, code⟩ := F.ex
  subst efd
  refine ⟨sz, fun A o s H args us vs Q E gA room e0 bind rv pre => ?_⟩
  have inside : K.In s.heap := e0.mod.kin.keeps fun b u q => (e0.bs b u q).1
  have free : s.heap.NoLimit := e0.mod.nolimit.keeps fun b u q => (e0.bs b u q).1
  refine codeAny_call_function room.depth (inside _ _ look) rfl S.co S.gen rfl (PySem.W.codeRec_of inside code) (bind _ _ _ _ ?_)
  refine wpAny_newFunctionEnv_cells S.kind (fun y hy => ?_) fun env he s1 x => ?_
  · have m := (List.of_mem_zip (show (y.1, y.2) ∈ ps.zip us from hy)).1
    exact (S.par y.1 m).elim Or.inl fun q => Or.inr ⟨q, PySem.W.cellsFrom_some _ _ _ (.inl q)⟩
  · subst he
    refine ⟨free.keeps x.toInCall.keep, codeAny_func ?_⟩
    obtain ⟨t, ht, rd⟩ := hb A o s H vs Q E (guards_deeper.trans gA) (room.deeper _) pre
    have I := inv_start (CX := CX0) (P := P) (w := w) (mg := mg) (E := E) (N := N) S room.hd e0 (sz _ _ _ _ pre) rv x
    refine wpAny_mono (ht.nox.run [] s1 (start N vs) H _ I rd) (fun fl s' hs => ?_) fun _ _ z => z
    match fl, hs with
    | .ret u, hs => exact (let ⟨v, _, H', J, r2, q⟩ := hs; ⟨v, H', J.os, J.bare, J.base, J.hok, r2, q⟩)
    | .next, hs => exact (let ⟨_, H', J, q⟩ := hs; ⟨V.non, H', J.os, J.bare, J.base, J.hok, rfl, q⟩)
    | .brk, hs => exact (let ⟨_, _, _, z⟩ := hs; z.elim)
    | .cont, hs => exact (let ⟨_, _, _, z⟩ := hs; z.elim)
end
section
variable {X : Cx}
/-- a text that is read in two ways -/
theorem pss_alt {sts : List Stmt} {t u : TS} (h1 : PSs X sts t) (h2 : PSs X sts u) : PSs X sts (fun D σ H => t D σ H ∨ u D σ H) :=
  ⟨fun pins s σ H D I h => h.elim (h1.run pins s σ H D I) (h2.run pins s σ H D I)⟩
/-- a name that holds one of several defs, which may raise -/
def tCallM (i : Nat) (S : Addr → Sp → Prop) (E : XK) (t : TA) : TE := fun σ H Q => ∃ f sp, σ[i]? = some (some (.ref f)) ∧ S f sp ∧ t σ H fun vs H1 => sp vs H1 Q E
theorem pe_callM {S : Addr → Sp → Prop} {C : CXT} {k i : Nat} {E : XK} {x : Str} {p pos : Pos} {e : Expr} {es : List Expr} {t : TA}
    (A : ∀ f sp, S f sp → ∃ fd ps, FnOk X.prog X.w X.K X.mg X.base C k f fd ps sp ∧ PySem.W.keepIn X.K (.ref f) = true ∧ Binds X.K fd ps []) (hr : Room k X.A) (hN : X.N[i]? = some x) (hv : Vis X.env.scope x) (hx : Passes C X E) (ha : PA X (e :: es) t)
    (h1 : (x == ("__debug__" : Str)) = false := by decide) (h2 : (x == ("__classdict__" : Str)) = false := by decide)
    (h3 : starEach (e :: es) X.env = (false, eval e X.env) :: starEach es X.env := by rfl) (h4 : (backTo pos (starEach es X.env)).any (·.1) = false := by rfl) : PE X (.Call (.Name x p) (e :: es) [] pos) (tCallM i S E t) :=
  ⟨fun pins s σ H Q I ⟨f, sp, hs, hS, ht⟩ => by
    obtain ⟨fd, ps, F, hk, hb⟩ := A f sp hS
    refine (pe_callL (i := i) (f := f) (sp := sp) (dvs := []) (E := E) F hr hN hv hk hb .nil hx ha h1 h2 h3 h4).run pins s σ H Q I ⟨hs, ?_⟩
    simpa only [List.append_nil] using ht⟩
/-- x(lambda: ..), x a def of the text -/
theorem pe_lamF {T : List (Addr × Str)} {TT : (XK → Hp → VK → Prop) → Hp → VK → Prop} {x a : Str} {g c Pt : Addr} {k : Nat} {st : Stmt} {fd : FuncData} {Ng : List Str} {params : Arguments} {body : Expr} {scope : Scope} {t : XK → TE} {p lpos pos : Pos}
    (F : Fun X.K x x st g fd) (hg : Gl X x) (hm : X.mg x = some (.ref g)) (hb : Binds X.K fd [a] []) (Sg : FnScope Ng [a] (defScope st)) (hNg : Ng[0]? = some a) (hva : Vis (defScope st) a)
    (hG : ∀ cdg, GivesTo X Ng x (defScope st) g cdg (defBody st) a (X.env.qual ++ "<lambda>") TT) (TB : TabB X.base X.mg c Pt) (hcode : X.env.code = .ref c) (hmT : (Pt, X.env.qual ++ "<lambda>") ∈ T) (hu : ∀ p ∈ T, p.1 = Pt → p.2 = X.env.qual ++ "<lambda>")
    (hr : Room (k + 2) X.A) (L : LamS X.env.scope scope) (hdef : defaultsOf params X.env = ([], []))
    (hbind : ∀ (q : Str) (cl : List (Str × Addr)) (pm cv ctv : Value), bindArgs (PySem.W.kla_fn "<lambda>" q params body scope cl pm cv ctv) ⟨[], []⟩ = pure [])
    (hbody : ∀ (A : Around) (outer : List Env) (s : Shared) (H : Hp) (E : XK) (f c' : Addr), Room k (A.deeper (lamEnv X scope s.heap.objs.size f c')) → PE (lamCx X A outer s H E scope f c') body (t E))
    (h1 : (x == ("__debug__" : Str)) = false := by decide) (h2 : (a == ("__debug__" : Str)) = false := by decide) (h3 : (a == ("__classdict__" : Str)) = false := by decide) :
    PE X (.Call (.Name x p) [.Lambda params body scope lpos] [] pos) (tLam T TT t) := by
  obtain ⟨oc, od, kV, doc, pm, an, cdv, ct, osl, efd, look, code⟩ := F.ex
  subst efd
  exact pe_lamcall hg hm F.kp look code hb Sg hNg hva (hG cdv) TB hcode hmT hu hr L hdef hbind hbody h1 h2 h3
/-- try: return a() / except C as e: .., the suite read by ts, whatever stands in the first slot -/
def TTry (K : PySem.W.Frag) (CS : Addr) (ts : Addr → Value → Option Addr → Hp → VK → Prop) : (XK → Hp → VK → Prop) → Hp → VK → Prop := fun tl H Q =>
  tl (fun cls dd H' => ∃ yes, PySem.W.exmOne K cls (.ref CS) = some yes ∧ (yes = true → ∀ b, H' b = none → ts b cls dd H' Q) ∧ (yes = false → False)) H Q
theorem gives_try {Ng : List Str} {x a e q C : Str} {sg : Scope} {g CS : Addr} {cdg : Value} {first : Stmt} {more : List Stmt} {p1 p2 p3 p4 p5 p6 : Pos} {ts : Addr → Value → Option Addr → Hp → VK → Prop} {tss : Addr → Value → Option Addr → TS}
    (hN : Ng.Nodup) (hn : Ng = [a, e]) (hl : sg.names.lookup e = some .local) (hc : sg.names.lookup C = some .globalImplicit) (hcd : (C == ("__debug__" : Str)) = false) (hm : X.mg C = some (.ref CS))
    (hts : ∀ (f b : Addr) cls dd H' Q, ts b cls dd H' Q → ∀ D : Ends, D.rt = Q → tss b cls dd D [some (.ref f), some (.ref b)] H')
    (suite : ∀ (Z : Cx), Z.prog = X.prog → Z.w = X.w → ∀ (hK : Z.K = X.K) (hmg : Z.mg = X.mg), True → ∀ (b : Addr) (oe : Obj) (cls : Value) (dd : Option Addr) (pn : List (Addr × Obj)), Zc cls dd oe → (∃ vs, oe.data = .fields vs) → Z.N = Ng → Z.env.scope = sg → True → PSs Z (first :: more) (tss b cls dd)) :
    True := trivial
end
end Own


/-! Tc: itertools.combinations of a range. -/
namespace RC
open PySem
open PySem.Sem (wp)
namespace F
open PySem.F
theorem slot_comb_next : Slot "itertools.combinations" "__next__" "itertools.combinations.__next__" :=
  .of (owner := "itertools.combinations") (n := "__next__") (by rw [typeLookup_type, builtinLookup_eq_fast]; kernel_rfl) (by decide +kernel) (by decide +kernel) (by decide +kernel)
    (by first | exact .inl (by decide +kernel) | exact .inr (by decide +kernel)) (by rw [isSubtype_type]; kernel_rfl)
theorem slot_comb_iter : Slot "itertools.combinations" "__iter__" "itertools.combinations.__iter__" :=
  .of (owner := "itertools.combinations") (n := "__iter__") (by rw [typeLookup_type, builtinLookup_eq_fast]; kernel_rfl) (by decide +kernel) (by decide +kernel) (by decide +kernel)
    (by first | exact .inl (by decide +kernel) | exact .inr (by decide +kernel)) (by rw [isSubtype_type]; kernel_rfl)
theorem slot_comb_init : Slot "itertools.combinations" "__init__" "object.__init__" :=
  .of (owner := "object") (n := "__init__") (by rw [typeLookup_type, builtinLookup_eq_fast]; kernel_rfl) (by decide +kernel) (by decide +kernel) (by decide +kernel)
    (by first | exact .inl (by decide +kernel) | exact .inr (by decide +kernel)) (by rw [isSubtype_type]; kernel_rfl)
theorem entry_comb_next : entryFor table "itertools.combinations.__next__" = some Builtin.«itertools.combinations.__next__» := entryFor_of_tree (by kernel_rfl)
theorem entry_comb_new : entryFor table "itertools.combinations.__new__" = some Builtin.«itertools.combinations.__new__» := entryFor_of_tree (by kernel_rfl)
theorem entry_comb_iter : entryFor table "itertools.combinations.__iter__" = some Builtin.«dict_keyiterator.__iter__» :=
  entryFor_alias (id' := "dict_keyiterator.__iter__") (by kernel_rfl) (by first | rfl | decide +kernel | (unfold String.splitOn; simp +decide [String.splitOnAux])) (by decide +kernel) (by kernel_rfl)
theorem mro_comb : mroOf (.type "itertools.combinations") = pure [.type "itertools.combinations", .type "object"] := by rw [mroOf_type]; kernel_rfl
theorem lookup_comb_new : typeLookup (.type "itertools.combinations") "__new__" = pure (some (.builtin "itertools.combinations.__new__")) := by rw [typeLookup_type, builtinLookup_eq_fast]; kernel_rfl
theorem called_comb : TypeCalled "itertools.combinations" "itertools.combinations.__new__" "object.__init__" :=
  ⟨by decide +kernel, by decide +kernel, ⟨_, _, mro_comb⟩, madeBy_type mro_comb lookup_comb_new (by decide +kernel), by decide +kernel, by rw [isSubtype_type]; kernel_rfl, slot_comb_init⟩
theorem typeCall_comb_2 (a b : Value) : checkTypeCall "itertools.combinations" ⟨[a, b], []⟩ = pure () := by kernel_rfl
theorem newCall_comb_2 (a b : Value) : checkBuiltinCall "itertools.combinations.__new__" ⟨[.type "itertools.combinations", a, b], []⟩ = pure () := by kernel_rfl
theorem sub_comb : isSubtype (.type "itertools.combinations") (.type "itertools.combinations") = pure true := by rw [isSubtype_type]; kernel_rfl
end F
end RC


/-! Td: the next of combinations. -/
namespace RC
open PySem
open PySem.Sem (wp)
theorem owner_comb : Manifest.owners.lookup (String.ofList ['s', 'n', 'o', 'i', 't', 'a', 'n', 'i', 'b', 'm', 'o', 'c', '.', 's', 'l', 'o', 'o', 't', 'r', 'e', 't', 'i'].reverse) = some Manifest.sig_itertools_combinations := by kernel_rfl
theorem args_comb_next_1 (a : Value) : argsOk "itertools.combinations.__next__" ⟨[a], []⟩ := by
  unfold argsOk; rw [signature?_of (id := "itertools.combinations.__next__") (n := ['_', '_', 't', 'x', 'e', 'n', '_', '_']) (o := ['s', 'n', 'o', 'i', 't', 'a', 'n', 'i', 'b', 'm', 'o', 'c', '.', 's', 'l', 'o', 'o', 't', 'r', 'e', 't', 'i']) (by kernel_rfl) owner_comb]; kernel_rfl
theorem args_comb_iter_1 (a : Value) : argsOk "itertools.combinations.__iter__" ⟨[a], []⟩ := by
  unfold argsOk; rw [signature?_of (id := "itertools.combinations.__iter__") (n := ['_', '_', 'r', 'e', 't', 'i', '_', '_']) (o := ['s', 'n', 'o', 'i', 't', 'a', 'n', 'i', 'b', 'm', 'o', 'c', '.', 's', 'l', 'o', 'o', 't', 'r', 'e', 't', 'i']) (by kernel_rfl) owner_comb]; kernel_rfl

/-- the fields of a combinations object: pool, where it stands (0 new, 1 begun, 2 over), what it gave last, its places -/
def cf (P : Addr) (st : Int) (res : Value) (ix : List Nat) : Array Value := (.ref P :: rawInt st :: res :: ix.map fun (i : Nat) => rawInt i).toArray
theorem cf_st {P : Addr} {st k : Int} {res : Value} {ix : List Nat} : (cf P st res ix).setIfInBounds 1 (rawInt k) = cf P k res ix := by simp [cf]
theorem cf_res {P : Addr} {st : Int} {res r2 : Value} {ix : List Nat} : (cf P st res ix).setIfInBounds 2 r2 = cf P st r2 ix := by simp [cf]
theorem cf_ix {P : Addr} {st : Int} {res : Value} {ix i2 : List Nat} : (cf P st res ix).extract 0 3 ++ (i2.map fun (n : Nat) => rawInt n).toArray = cf P st res i2 := by simp [cf]
abbrev IsComb (h : Heap) (c P : Addr) (st : Int) (res : Value) (ix : List Nat) : Prop :=
  h.get? c = some { cls := .type "itertools.combinations", dict := none, data := .fields (cf P st res ix), slots := #[] }
abbrev IsTp (h : Heap) (T : Addr) (xs : List Value) : Prop := h.get? T = some { cls := .type "tuple", data := .seq xs.toArray }
def got (items : Array Value) (ix : List Nat) : List Value := ix.map fun i => items.getD i .none
section
variable {prog : Program} {w : World} {A : Around} {E : Value → Shared → Prop} {s : Shared} {c P : Addr} {res : Value} {ix : List Nat} {items : Array Value}
theorem cf_nums (P : Addr) (st : Int) (res : Value) (ix : List Nat) : ((cf P st res ix).toList.drop 3).map (fun | .int n _ => n.toNat | _ => 0) = ix := by
  simp only [cf, List.drop_succ_cons, List.drop_zero, List.map_map]
  induction ix with
  | nil => rfl
  | cons i ix ih => rw [List.map_cons, ih]; rfl
theorem hand_out {oP : Obj} {nP : Nat} {jx : List Nat} {k : Int} {Q : Value → Shared → Prop} (hc : IsComb s.heap c P k res ix) (hoP : s.heap.get? P = some oP) (hdP : oP.data = .seq items nP) (hl : jx.length ≤ 100) {jy : List Nat} (he : jy = jx) {z : Nat} (hz : s.heap.objs.size = z)
    (hQ : ∀ h', IsComb h' c P k (.ref z) ix → IsTp h' z (got items jx) → h'.objs.size = z + 1 → (∀ b o, b ≠ c → s.heap.get? b = some o → h'.get? b = some o) → Q (.ref z) { s with heap := h' }) :
    wpAny (model prog w) A (do
      let result ← (do let items ← Builtin.Itertools.itPoolItems (.ref P); newTuple (jy.map fun i => items.getD i .none))
      let before ← field (.ref c) 2
      setField (.ref c) 2 result
      letGo [before] [result]
      ret result) (fun fin s' => ∃ v, fin = .done (.ret v) ∧ Q v s') E s := by
  subst he
  subst hz
  refine wpAny_bind ?_
  show wpAny _ _ (Builtin.Itertools.itPoolItems (.ref P) >>= _) _ _ _
  refine wpAny_bind ?_
  show wpAny _ _ (seqItems? (.ref P) >>= _) _ _ _
  refine wpAny_bind (wpAny_seqItems hoP hdP ?_)
  refine wpAny_pure ?_
  refine wpAny_newTuple ?_ (by rw [List.length_map]; exact Nat.le_trans hl (by decide))
  have hlt : c < s.heap.objs.size := Heap.lt_size hc
  have hc₁ : IsComb (s.heap.push { cls := .type "tuple", data := .seq (got items jy).toArray }) c P k res ix := Heap.get?_push_of_some _ hc
  refine wpAny_bind (wpAny_field hc₁ rfl (x := res) rfl ?_)
  refine wpAny_bind (wpAny_setField_rec hc₁ (by simp [cf]) fun h₂ hc₂ hs₂ => ?_)
  rw [cf_res] at hc₂
  refine wpAny_bind (wpAny_letGo ?_)
  refine wpAny_pure ⟨_, rfl, ?_⟩
  exact hQ h₂ hc₂ (hs₂.extBut _ _ (Nat.ne_of_gt hlt) (Heap.get?_push_size _ rfl)) (by rw [hs₂.1, Heap.size_push]) fun b o hb q => hs₂.extBut _ _ hb (Heap.get?_push_of_some _ q)
theorem next_first {Q : Value → Shared → Prop} (hc : IsComb s.heap c P 0 res ix) (hP : s.heap.IsTuple P items) (hcP : P ≠ c) (hl : ix.length ≤ 100)
    (hQ : ∀ h', IsComb h' c P 1 (.ref s.heap.objs.size) ix → IsTp h' s.heap.objs.size (got items ix) → h'.objs.size = s.heap.objs.size + 1 → (∀ b o, b ≠ c → s.heap.get? b = some o → h'.get? b = some o) → Q (.ref s.heap.objs.size) { s with heap := h' }) :
    wpAny (model prog w) A (Builtin.«itertools.combinations.__next__» ⟨[.ref c], []⟩) (fun fin s' => ∃ v, fin = .done (.ret v) ∧ Q v s') E s := by
  obtain ⟨oP, hoP, _, nP, hdP⟩ := hP
  show wpAny _ _ (field (.ref c) 0 >>= _) _ _ _
  refine wpAny_bind (wpAny_field hc rfl (x := .ref P) rfl ?_)
  show wpAny _ _ (Builtin.Itertools.itNumbersFrom (.ref c) 3 >>= _) _ _ _
  refine wpAny_bind ?_
  show wpAny _ _ (load c >>= _) _ _ _
  refine wpAny_bind (wpAny_load hc ?_)
  refine wpAny_pure ?_
  show wpAny _ _ (Builtin.Itertools.itIntField (.ref c) 1 >>= _) _ _ _
  refine wpAny_bind ?_
  show wpAny _ _ (field (.ref c) 1 >>= _) _ _ _
  refine wpAny_bind (wpAny_field hc rfl (x := rawInt 0) rfl ?_)
  refine wpAny_pure ?_
  show wpAny _ _ (setField (.ref c) 1 (rawInt 1) >>= _) _ _ _
  refine wpAny_bind (wpAny_setField_rec hc (by simp [cf]) fun h₁ hc₁ hs₁ => ?_)
  rw [cf_st] at hc₁
  exact hand_out hc₁ (hs₁.extBut _ _ hcP hoP) hdP hl (cf_nums ..) hs₁.1 fun h' a b d e => hQ h' a b d fun x o hx q => e x o hx (hs₁.extBut _ _ hx q)

/-- what the next asks of the places -/
def NxtS (prog : Program) (w : World) (f : Nat → List Nat → Option (List Nat)) : Prop :=
  (∀ (A : Around) (E : Value → Shared → Prop) (s : Shared) (c P : Addr) (res : Value) (ix jx : List Nat) (items : Array Value) (Q : Value → Shared → Prop), IsComb s.heap c P 1 res ix → s.heap.IsTuple P items → P ≠ c → f items.size ix = some jx → jx.length ≤ 100 →
    (∀ h', IsComb h' c P 1 (.ref s.heap.objs.size) jx → IsTp h' s.heap.objs.size (got items jx) → h'.objs.size = s.heap.objs.size + 1 → (∀ b o, b ≠ c → s.heap.get? b = some o → h'.get? b = some o) → Q (.ref s.heap.objs.size) { s with heap := h' }) →
    wpAny (model prog w) A (Builtin.«itertools.combinations.__next__» ⟨[.ref c], []⟩) (fun fin s' => ∃ v, fin = .done (.ret v) ∧ Q v s') E s) ∧
  (∀ (A : Around) (E : Value → Shared → Prop) (s : Shared) (c P : Addr) (res : Value) (ix : List Nat) (items : Array Value) (Q : Fin → Shared → Prop), A.handled = none → IsComb s.heap c P 1 res ix → s.heap.IsTuple P items → f items.size ix = none →
    (∀ h' e, (∀ b o, b ≠ c → s.heap.get? b = some o → h'.get? b = some o) → (∃ o, h'.get? e = some o ∧ o.cls = .type "StopIteration") → E (.ref e) { s with heap := h' }) →
    wpAny (model prog w) A (Builtin.«itertools.combinations.__next__» ⟨[.ref c], []⟩) Q E s)
theorem stop_now {α : Type} {Q : α → Shared → Prop} (hh : A.handled = none) (hE : ∀ h' e, (∀ b o, s.heap.get? b = some o → h'.get? b = some o) → (∃ o, h'.get? e = some o ∧ o.cls = .type "StopIteration") → E (.ref e) { s with heap := h' }) :
    wpAny (model prog w) A (Builtin.Itertools.itStop : Sem α) Q E s := by
  unfold Builtin.Itertools.itStop
  show wpAny _ _ (newExc (.type "StopIteration") [] >>= _) _ _ _
  refine wpAny_bind ?_
  simp only [newExc, newTuple]
  refine wpAny_bind (wpAny_newObj_type ?_ (by size_fits))
  refine wpAny_bind (m := firstArgMember _ _) (wpAny_of_eq (a := Value.none) (by first | rfl | (simp only [firstArgMember]; rfl)) ?_)
  refine wpAny_newObj_type ?_ (by size_fits)
  simp only [raiseNew]
  refine wpAny_bind (wpAny_handled ?_)
  first | rw [show A.in1.handled = none from hh] | rw [hh]
  refine wpAny_bind (wpAny_pure (wpAny_throw ?_))
  exact hE _ _ (fun b o q => Heap.get?_push_of_some _ (Heap.get?_push_of_some _ q)) ⟨_, Heap.get?_push_size _ rfl, rfl⟩
/-- all rising lists of r places below n, in their order, the first of them not below lo -/
def ups (n : Nat) : Nat → Nat → List (List Nat)
  | 0, _ => [[]]
  | r + 1, lo => ((List.range n).filter (lo ≤ ·)).flatMap fun i => (ups n r (i + 1)).map (i :: ·)
def combs (n r : Nat) : List (List Nat) := ups n r 0
def chk (f : Nat → List Nat → Option (List Nat)) : Bool := (List.range 9).all fun n => (List.range 4).all fun r => decide (n < r) || (List.range (combs n r).length).all fun i => f n ((combs n r).getD i []) == (combs n r)[i + 1]?
theorem chk_of (f : Nat → List Nat → Option (List Nat)) (h : chk f = true) : ∀ n < 9, ∀ r < 4, r ≤ n → ∀ i < (combs n r).length, f n ((combs n r).getD i []) = (combs n r)[i + 1]? := fun n hn r hr hrn i hi => by
  have h1 := List.all_eq_true.mp (List.all_eq_true.mp h n (List.mem_range.mpr hn)) r (List.mem_range.mpr hr)
  rw [Bool.or_eq_true, decide_eq_true_iff] at h1
  rcases h1 with h1 | h1
  · omega
  · exact eq_of_beq (List.all_eq_true.mp h1 i (List.mem_range.mpr hi))
theorem nxt_is (prog : Program) (w : World) : ∃ f, NxtS prog w f ∧ ∀ n < 9, ∀ r < 4, r ≤ n → ∀ i < (combs n r).length, f n ((combs n r).getD i []) = (combs n r)[i + 1]? := by
  apply Exists.intro
  refine ⟨⟨?_, ?_⟩, ?_⟩
  · intro A E s c P res ix jx items Q hc hP hcP hf hl hQ
    obtain ⟨oP, hoP, _, nP, hdP⟩ := hP
    show wpAny _ _ (field (.ref c) 0 >>= _) _ _ _
    refine wpAny_bind (wpAny_field hc rfl (x := .ref P) rfl ?_)
    show wpAny _ _ (Builtin.Itertools.itNumbersFrom (.ref c) 3 >>= _) _ _ _
    refine wpAny_bind ?_
    show wpAny _ _ (load c >>= _) _ _ _
    refine wpAny_bind (wpAny_load hc ?_)
    refine wpAny_pure ?_
    show wpAny _ _ (Builtin.Itertools.itIntField (.ref c) 1 >>= _) _ _ _
    refine wpAny_bind ?_
    show wpAny _ _ (field (.ref c) 1 >>= _) _ _ _
    refine wpAny_bind (wpAny_field hc rfl (x := rawInt 1) rfl ?_)
    refine wpAny_pure ?_
    show wpAny _ _ (Builtin.Itertools.itPoolItems (.ref P) >>= _) _ _ _
    refine wpAny_bind ?_
    show wpAny _ _ (seqItems? (.ref P) >>= _) _ _ _
    refine wpAny_bind (wpAny_seqItems hoP hdP ?_)
    refine wpAny_pure ?_
    generalize hL : List.map _ (List.drop 3 (cf P 1 res ix).toList) = L
    obtain rfl : L = ix := hL.symm.trans (cf_nums P 1 res ix)
    split
    · rename_i nx heq
      obtain rfl : nx = jx := Option.some.inj (heq.symm.trans hf)
      refine wpAny_bind ?_
      show wpAny _ _ (updateFields c _) _ _ _
      refine wpAny_updateFields hc rfl ?_ (by simp [cf]; exact Nat.le_trans hl (by decide))
      have hs₁ : Heap.SameBut c s.heap (s.heap.update c (Obj.mapFields fun fs => fs.extract 0 3 ++ (nx.map fun (n : Nat) => rawInt n).toArray)) := Heap.SameBut.update ..
      have hc₁ : IsComb (s.heap.update c (Obj.mapFields fun fs => fs.extract 0 3 ++ (nx.map fun (n : Nat) => rawInt n).toArray)) c P 1 res nx := by
        have e := Heap.get?_update_self (Obj.mapFields fun fs => fs.extract 0 3 ++ (nx.map fun (n : Nat) => rawInt n).toArray) hc rfl
        refine e.trans ?_
        show some ({ cls := Value.type "itertools.combinations", dict := none, data := Data.fields ((cf P 1 res L).extract 0 3 ++ (nx.map fun (n : Nat) => rawInt n).toArray), slots := #[] } : Obj) = _
        rw [cf_ix]
      exact hand_out hc₁ (hs₁.extBut _ _ hcP hoP) hdP hl rfl hs₁.1 fun h' a b d e => hQ h' a b d fun x o hx q => e x o hx (hs₁.extBut _ _ hx q)
    · rename_i heq
      exact absurd (heq.symm.trans hf) (by intro z; cases z)
  · intro A E s c P res ix items Q hh hc hP hf hE
    obtain ⟨oP, hoP, _, nP, hdP⟩ := hP
    show wpAny _ _ (field (.ref c) 0 >>= _) _ _ _
    refine wpAny_bind (wpAny_field hc rfl (x := .ref P) rfl ?_)
    show wpAny _ _ (Builtin.Itertools.itNumbersFrom (.ref c) 3 >>= _) _ _ _
    refine wpAny_bind ?_
    show wpAny _ _ (load c >>= _) _ _ _
    refine wpAny_bind (wpAny_load hc ?_)
    refine wpAny_pure ?_
    show wpAny _ _ (Builtin.Itertools.itIntField (.ref c) 1 >>= _) _ _ _
    refine wpAny_bind ?_
    show wpAny _ _ (field (.ref c) 1 >>= _) _ _ _
    refine wpAny_bind (wpAny_field hc rfl (x := rawInt 1) rfl ?_)
    refine wpAny_pure ?_
    show wpAny _ _ (Builtin.Itertools.itPoolItems (.ref P) >>= _) _ _ _
    refine wpAny_bind ?_
    show wpAny _ _ (seqItems? (.ref P) >>= _) _ _ _
    refine wpAny_bind (wpAny_seqItems hoP hdP ?_)
    refine wpAny_pure ?_
    generalize hL : List.map _ (List.drop 3 (cf P 1 res ix).toList) = L
    obtain rfl : L = ix := hL.symm.trans (cf_nums P 1 res ix)
    split
    · rename_i nx heq
      exact absurd (heq.symm.trans hf) (by intro z; cases z)
    · refine wpAny_bind (wpAny_setField_rec hc (by simp [cf]) fun h₁ hc₁ hs₁ => ?_)
      exact stop_now hh fun h' e k x => hE h' e (fun b o hb q => k b o (hs₁.extBut _ _ hb q)) x
  · exact chk_of _ (by decide +kernel)
/-- over from the start: more places than numbers -/
theorem next_over {Q : Fin → Shared → Prop} (hh : A.handled = none) (hc : IsComb s.heap c P 2 res ix)
    (hE : ∀ h' e, (∀ b o, s.heap.get? b = some o → h'.get? b = some o) → (∃ o, h'.get? e = some o ∧ o.cls = .type "StopIteration") → E (.ref e) { s with heap := h' }) :
    wpAny (model prog w) A (Builtin.«itertools.combinations.__next__» ⟨[.ref c], []⟩) Q E s := by
  show wpAny _ _ (field (.ref c) 0 >>= _) _ _ _
  refine wpAny_bind (wpAny_field hc rfl (x := .ref P) rfl ?_)
  show wpAny _ _ (Builtin.Itertools.itNumbersFrom (.ref c) 3 >>= _) _ _ _
  refine wpAny_bind ?_
  show wpAny _ _ (load c >>= _) _ _ _
  refine wpAny_bind (wpAny_load hc ?_)
  refine wpAny_pure ?_
  show wpAny _ _ (Builtin.Itertools.itIntField (.ref c) 1 >>= _) _ _ _
  refine wpAny_bind ?_
  show wpAny _ _ (field (.ref c) 1 >>= _) _ _ _
  refine wpAny_bind (wpAny_field hc rfl (x := rawInt 2) rfl ?_)
  refine wpAny_pure ?_
  show wpAny _ _ (rule _ >>= _) _ _ _
  refine wpAny_bind (wpAny_rule ?_)
  exact stop_now hh hE
theorem combs_first : ∀ n < 9, ∀ r < 4, r ≤ n → (combs n r)[0]? = some (List.range r) := by decide +kernel
theorem combs_none : ∀ n < 9, ∀ r < 4, n < r → combs n r = [] := by decide +kernel
theorem combs_len : ∀ n < 9, ∀ r < 4, ∀ l ∈ combs n r, l.length = r ∧ ∀ i ∈ l, i < n := by decide +kernel
end
end RC


/-! Te: combinations(range(n), r) is made. -/
namespace RC
open PySem PySem.Spec PyProof.Rows
open PySem.Sem (wp)
theorem plain_comb_new : plainId "itertools.combinations.__new__" = true := by decide +kernel
theorem app_comb : ("itertools." ++ "combinations" : String) = "itertools.combinations" := by decide
theorem sub_comb2 : isSubtype (.type "itertools.combinations") (.type ("itertools." ++ "combinations")) = pure true := by rw [app_comb]; exact F.sub_comb
theorem bind_comb (x y : Value) : Builtin.Itertools.itBindNamed "combinations" ["iterable", "r"] 2 2 [x, y] [] = pure [some x, some y] := by rfl
theorem no_dict_comb : (!typeHasDict (.type "itertools.combinations")) = true := by decide +kernel
theorem get_two (h : Heap) (o o2 : Obj) (f : o2.isFreed = false) : ((h.push o).push o2).get? (h.objs.size + 1) = some o2 := by
  have e := Heap.get?_push_size (h := h.push o) (o := o2) f
  rwa [Heap.size_push] at e
section
variable {prog : Program} {w : World} {A : Around} {E : Value → Shared → Prop} {s : Shared} {r : Addr} {a b c m : Int} {t u v tm : Tok} {n : Nat}
theorem code_comb_new {Q₁ : Value → Shared → Prop} (hh : A.handled = none) (hr : IsRange s.heap r a b c t u v) (hsmall : Builtin.Range.small a b c = true) (hn : Builtin.Range.rangeSize a b c = n) (hlen : n ≤ 2 ^ 16) (hm : 0 ≤ m) (hm2 : m ≤ 100)
    (h : ∀ (h' : Heap) (tk : Nat) (acc : Array Value), (∀ b o, s.heap.get? b = some o → h'.get? b = some o) → ItemsOf (fun i v => ∃ t, v = .int (a + i * c) t) acc n →
      Q₁ (.ref (h'.objs.size + 1)) { s with heap := (h'.push { cls := .type "tuple", data := .seq acc }).push { cls := .type "itertools.combinations", data := .fields (cf h'.objs.size (if m.toNat > n then 2 else 0) .none (List.range m.toNat)) }, toks := tk }) :
    codeAny (model prog w) A (.call (.builtin "itertools.combinations.__new__") ⟨[.type "itertools.combinations", .ref r, .int m tm], []⟩) (wants Q₁ E) s := by
  refine codeAny_of_tree ?_
  show wpAny _ A.in1 (do checkBuiltinCall "itertools.combinations.__new__" ⟨[.type "itertools.combinations", .ref r, .int m tm], []⟩; again (.builtin "itertools.combinations.__new__" ⟨[.type "itertools.combinations", .ref r, .int m tm], []⟩)) _ _ s
  refine wpAny_bind (wpAny_of_eq (F.newCall_comb_2 _ _) (wpAny_pure ⟨plainId_quiet plain_comb_new _, codeAny_builtin F.entry_comb_new ?_⟩))
  rw [Around.under_plainId plain_comb_new _]
  have hsub : isSubtype (.type "itertools.combinations") (.type ("itertools." ++ "combinations")) = pure true := sub_comb2
  have hbn := bind_comb (.ref r) (.int m tm)
  have hTI : s.TypeIs (.ref r) "range" := ⟨_, hr, rfl⟩
  have hh1 : A.in1.handled = none := hh
  wp_walk using wpAny_typeOf hTI, L2.collect_range (A := A.in1) hh1 hr hsmall hn (Nat.le_trans hlen (by decide))
  rw [if_neg (by simp only [Bool.or_eq_true, decide_eq_true_iff]; omega)]
  refine wpAny_pure ?_
  refine wpAny_bind (L2.collect_range (A := A.in1) hh1 hr hsmall hn (Nat.le_trans hlen (by decide)) fun h' tk acc hk hacc => ?_)
  dsimp only
  rw [if_neg (show ¬ m < 0 by omega), if_neg (show ¬ Builtin.Itertools.itTooMany m = true by
    unfold Builtin.Itertools.itTooMany
    rw [decide_eq_true_iff]
    omega)]
  have hsz : acc.toList.length = n := by rw [Array.length_toList]; exact hacc.1
  refine wpAny_bind (wpAny_newTuple ?_ (by rw [hsz, sizeLine_eq]; omega))
  refine wpAny_pure ?_
  dsimp only
  refine wpAny_bind ?_
  unfold Builtin.Itertools.itNewRecord
  rw [if_pos no_dict_comb]
  rw [hsz]
  refine wpAny_newObj_type ?_ ?_
  · refine wpAny_pure ?_
    have q := h h' tk acc hk hacc
    have e : acc.toList.toArray = acc := by simp
    rw [e]
    show Q₁ (.ref (h'.push { cls := .type "tuple", data := .seq acc }).objs.size) _
    rw [Heap.size_push]
    exact q
  · show _ ≤ _
    simp
    exact Nat.le_trans (show m.toNat + 1 ≤ 200 by omega) (show 200 ≤ sizeLine by decide)
theorem call_comb {Q : Value → Shared → Prop} (hh : A.handled = none) (hr : IsRange s.heap r a b c t u v) (hsmall : Builtin.Range.small a b c = true) (hn : Builtin.Range.rangeSize a b c = n) (hlen : n ≤ 2 ^ 16) (hm : 0 ≤ m) (hm2 : m ≤ 100)
    (hQ : ∀ (h' : Heap) (tk : Nat) (acc : Array Value), (∀ b o, s.heap.get? b = some o → h'.get? b = some o) → ItemsOf (fun i v => ∃ t, v = .int (a + i * c) t) acc n →
      Q (.ref (h'.objs.size + 1)) { s with heap := (h'.push { cls := .type "tuple", data := .seq acc }).push { cls := .type "itertools.combinations", data := .fields (cf h'.objs.size (if m.toNat > n then 2 else 0) .none (List.range m.toNat)) }, toks := tk }) :
    wpAny (model prog w) A (call (.type "itertools.combinations") [.ref r, .int m tm]) Q E s := by
  refine callType_codes (Q₁ := fun obj s₁ => s₁.TypeIs obj "itertools.combinations" ∧ Q obj s₁) F.called_comb (F.typeCall_comb_2 _ _) F.entry_object_init
    (code_comb_new (A := A.in1) hh hr hsmall hn hlen hm hm2 fun h' tk acc hk hacc => ⟨⟨{ cls := .type "itertools.combinations", data := .fields (cf h'.objs.size (if m.toNat > n then 2 else 0) .none (List.range m.toNat)) }, get_two _ _ _ rfl, rfl⟩, hQ h' tk acc hk hacc⟩) fun obj s₁ h₁ => ?_
  exact ⟨h₁.1, F.args_object_init_3 obj _ _, object_init_meets F.called_comb.init.lookup F.called_comb.made (by decide) prog w A.in1 _ s₁ ⟨h₁.1, rfl, h₁.2⟩⟩
theorem pyIter_comb {c P : Addr} {st : Int} {res : Value} {ix : List Nat} {Q : Value → Shared → Prop} (hc : IsComb s.heap c P st res ix) (h : Q (.ref c) s) : wpAny (model prog w) A (pyIter (.ref c)) Q E s := by
  have hT : s.TypeIs (.ref c) "itertools.combinations" := ⟨_, hc, rfl⟩
  refine wpAny_pyIter_slot hT F.slot_comb_iter (wpAny_call_entry F.slot_comb_iter hT F.entry_comb_iter ?_ (args_comb_iter_1 _))
  show wpAny _ _ (ret (.ref c)) _ _ s
  exact wpAny_pure ⟨_, rfl, "itertools.combinations", _, hT, F.slot_comb_next.lookup, h⟩
theorem pyNext_some {c P : Addr} {st : Int} {res : Value} {ix : List Nat} {Q : Option Value → Shared → Prop} (hc : IsComb s.heap c P st res ix)
    (h : wpAny (model prog w) A.in1 (Builtin.«itertools.combinations.__next__» ⟨[.ref c], []⟩) (fun fin s' => ∃ v, fin = .done (.ret v) ∧ Q (some v) s') (fun _ _ => False) s) : wpAny (model prog w) A (pyNext (.ref c)) Q E s := by
  have hT : s.TypeIs (.ref c) "itertools.combinations" := ⟨_, hc, rfl⟩
  unfold pyNext
  refine wpAny_bind (wpAny_attempt (wpAny_callSpecial?_slot (name := Str.ofString "__next__") hT F.slot_comb_next
    (wpAny_call_entry F.slot_comb_next hT F.entry_comb_next ?_ (args_comb_next_1 _))))
  exact wpAny_mono h (fun fin s' ⟨v, e, q⟩ => ⟨v, e, wpAny_pure q⟩) (fun _ _ z => z.elim)
theorem pyNext_none {c P : Addr} {st : Int} {res : Value} {ix : List Nat} {Q : Option Value → Shared → Prop} (hc : IsComb s.heap c P st res ix)
    (h : wpAny (model prog w) A.in1 (Builtin.«itertools.combinations.__next__» ⟨[.ref c], []⟩) (fun _ _ => False) (fun e s' => ∃ a, e = .ref a ∧ (∃ o, s'.heap.get? a = some o ∧ o.cls = .type "StopIteration") ∧ Q none s') s) : wpAny (model prog w) A (pyNext (.ref c)) Q E s := by
  have hT : s.TypeIs (.ref c) "itertools.combinations" := ⟨_, hc, rfl⟩
  unfold pyNext
  refine wpAny_bind (wpAny_attempt (wpAny_callSpecial?_slot (name := Str.ofString "__next__") hT F.slot_comb_next
    (wpAny_call_entry F.slot_comb_next hT F.entry_comb_next ?_ (args_comb_next_1 _))))
  refine wpAny_mono h (fun fin s' z => z.elim) (fun e s' ⟨a, ea, ⟨o, ho, hcl⟩, q⟩ => ?_)
  subst ea
  exact wpAny_bind (wpAny_isInstance (T := "StopIteration") (b := true) ⟨o, ho, hcl⟩ isSubtype_stop (wpAny_pure q))
end
end RC


/-! Tf: combinations(range(n), r) as what a for goes over. -/
namespace RC
open PySem PySem.Spec PyProof.Rows L2
def Itb (n r : Nat) : It := ⟨fun i _ => i < (combs n r).length, fun i H v H' => ∃ T l, v = .ref T ∧ H T = none ∧ (combs n r)[i]? = some l ∧ H' = upd H T (.tup (l.map fun j => V.int (j : Nat))), fun i _ => (combs n r).length ≤ i⟩
/-- how the object stands ahead of turn i -/
def AtTurn (n r i : Nat) (st : Int) (ix : List Nat) : Prop :=
  (n < r ∧ st = 2) ∨ (r ≤ n ∧ i = 0 ∧ st = 0 ∧ ix = List.range r) ∨ (r ≤ n ∧ 0 < i ∧ st = 1 ∧ (combs n r)[i - 1]? = some ix)
def Pool (h : Heap) (P : Addr) (n : Nat) : Prop := ∃ acc : Array Value, h.get? P = some { cls := .type "tuple", data := .seq acc } ∧ ItemsOf (fun i v => ∃ t, v = Value.int (0 + i * 1) t) acc n
def CombT (n r : Nat) (c P : Addr) (i : Nat) (h : Heap) : Prop := ∃ st res ix, IsComb h c P st res ix ∧ Pool h P n ∧ AtTurn n r i st ix ∧ P ≠ c
theorem vals_got {acc : Array Value} {n : Nat} (h : ItemsOf (fun i v => ∃ t, v = Value.int (0 + i * 1) t) acc n) : ∀ l : List Nat, (∀ i ∈ l, i < n) → Vals (l.map fun j => V.int (j : Nat)) (got acc l)
  | [], _ => .nil
  | j :: l, hl => by
    have hj : j < acc.size := by rw [h.1]; exact hl j List.mem_cons_self
    refine .cons ?_ (vals_got h l fun i hi => hl i (List.mem_cons_of_mem _ hi))
    obtain ⟨t, e⟩ := h.2 j acc[j] (Array.getElem?_eq_getElem hj)
    have e2 : acc.getD j .none = acc[j] := by simp [Array.getD, hj]
    show RelV (V.int (j : Nat)) (acc.getD j .none)
    rw [e2, e]
    exact ⟨t, by simp⟩
theorem comb_at {n r i : Nat} {l : List Nat} (hn : n < 9) (hr : r < 4) (h : (combs n r)[i]? = some l) : l.length = r ∧ ∀ j ∈ l, j < n := combs_len n hn r hr l (List.mem_of_getElem? h)
theorem turn_comb {P : Program} {w : World} {K : PySem.W.Frag} {tg : Expr} {n r : Nat} {c p : Addr} (hn : n < 9) (hr : r < 4) : Turn P w K tg (Itb n r) [c, p] c (CombT n r c p) where
  mem := by simp
  obj := fun i h st b hb => by
    obtain ⟨st0, res, ix, hC, ⟨acc, hP, _⟩, _, _⟩ := st
    have e' : b = c ∨ b = p := by simpa using hb
    rcases e' with z | z
    · rw [z]; exact ⟨_, hC, fun v q => nomatch q⟩
    · rw [z]; exact ⟨_, hP, fun v q => nomatch q⟩
  keep := fun i h h' st k => by
    obtain ⟨st0, res, ix, hC, ⟨acc, hP, hi⟩, a, b⟩ := st
    exact ⟨st0, res, ix, k c (by simp) _ hC, ⟨acc, k p (by simp) _ hP, hi⟩, a, b⟩
  item := by
    intro X hP hw hK hc i pins s σ H E I hf st hg
    subst hP hw hK
    obtain ⟨st0, res, ix, hC, ⟨acc, hPo, hit⟩, hat, hne⟩ := st
    have hcl : c < s.heap.objs.size := Heap.lt_size hC
    have hpl : p < s.heap.objs.size := Heap.lt_size hPo
    have hT : s.heap.IsTuple p acc := ⟨_, hPo, rfl, _, rfl⟩
    have fin : ∀ (h' : Heap) (l : List Nat), r ≤ n → (combs n r)[i]? = some l → IsComb h' c p 1 (.ref s.heap.objs.size) l → IsTp h' s.heap.objs.size (got acc l) → h'.objs.size = s.heap.objs.size + 1 → (∀ b o, b ≠ c → s.heap.get? b = some o → h'.get? b = some o) →
        ∃ u, some (Value.ref s.heap.objs.size) = some u ∧ wpAny (model X.prog X.w) X.A (letOwnedTupleGo tg (.ref c) u) (fun _ s2 => ∃ x H', Inv X pins σ H' s2 ∧ RelV x u ∧ (Itb n r).yld i H x H' ∧ CombT n r c p (i + 1) s2.heap ∧ ∀ b ∈ [c, p], H' b = none) E { s with heap := h' } := by
      intro h' l hrn hl hC' hT' hsz hk
      refine ⟨_, rfl, go_of (s := { s with heap := h' }) hC' rfl rfl (by decide) ?_⟩
      obtain ⟨ll, lb⟩ := comb_at hn hr hl
      have hv := vals_got hit l lb
      have new : ObjOk X.prog X.w (upd H s.heap.objs.size (.tup (l.map fun j => V.int (j : Nat)))) h' s.heap.objs.size (.tup (l.map fun j => V.int (j : Nat))) :=
        ⟨by show (l.map _).length ≤ sizeLine; rw [List.length_map, ll]; exact Nat.le_trans (Nat.le_of_lt hr) (by decide), got acc l, hv, ⟨_, hT', rfl, _, rfl⟩⟩
      have I1 : Inv X pins σ (upd H s.heap.objs.size (.tup (l.map fun j => V.int (j : Nat)))) { s with heap := h' } :=
        I.turnedNew (t' := s.toks) (ch := [c, p]) (fun b ob hb q => hk b ob (fun z => hb (by simp [z])) q) hf (Nat.le_refl _) new
      refine ⟨.ref s.heap.objs.size, _, I1, rfl, ⟨_, l, rfl, I.hok.fresh (Nat.le_refl _), hl, rfl⟩, ⟨1, _, l, hC', ⟨acc, hk p _ hne hPo, hit⟩, .inr (.inr ⟨hrn, Nat.succ_pos _, rfl, by rw [Nat.add_sub_cancel]; exact hl⟩), hne⟩, fun b hb => ?_⟩
      have hb' : b < s.heap.objs.size := by
        have e' : b = c ∨ b = p := by simpa using hb
        rcases e' with z | z
        · rw [z]; exact hcl
        · rw [z]; exact hpl
      rw [upd_ne (Nat.ne_of_lt hb')]
      exact (hf b hb).1
    rcases hat with ⟨h1, _⟩ | ⟨h1, rfl, rfl, rfl⟩ | ⟨h1, h2, rfl, h3⟩
    · have g : i < (combs n r).length := hg
      rw [combs_none n hn r hr h1] at g
      exact absurd g (Nat.not_lt_zero _)
    · refine pyNext_some hC (next_first hC hT hne (by rw [List.length_range]; omega) fun h' a b d e => ?_)
      exact fin h' (List.range r) h1 (combs_first n hn r hr h1) a b d e
    · obtain ⟨f, ⟨N1, _⟩, F⟩ := nxt_is X.prog X.w
      have g : i < (combs n r).length := hg
      have hl : (combs n r)[i]? = some (combs n r)[i] := List.getElem?_eq_getElem g
      have hfx : f acc.size ix = some (combs n r)[i] := by
        have z := F n hn r hr h1 (i - 1) (by omega)
        rw [List.getD_eq_getElem?_getD, h3, Nat.sub_add_cancel h2, hl] at z
        rw [hit.1]
        exact z
      refine pyNext_some hC (N1 _ _ s c p res ix _ acc _ hC hT hne hfx (by rw [(comb_at hn hr hl).1]; omega) fun h' a b d e => ?_)
      exact fin h' _ h1 hl a b d e
  done := by
    intro X hP hw hK hc i pins s σ H E I hf st hg
    subst hP hw hK
    obtain ⟨st0, res, ix, hC, ⟨acc, hPo, hit⟩, hat, hne⟩ := st
    have hT : s.heap.IsTuple p acc := ⟨_, hPo, rfl, _, rfl⟩
    have g : (combs n r).length ≤ i := hg
    have fin : ∀ h', (∀ b o, b ≠ c → s.heap.get? b = some o → h'.get? b = some o) → (none : Option Value) = none ∧ Inv X pins σ H { s with heap := h' } := fun h' k =>
      ⟨rfl, I.turnedL (t' := s.toks) (ch := [c, p]) (fun b o hb q => k b o (fun z => hb (by simp [z])) q) hf⟩
    rcases hat with ⟨h1, rfl⟩ | ⟨h1, rfl, rfl, rfl⟩ | ⟨h1, h2, rfl, h3⟩
    · exact pyNext_none hC (next_over (I.ok.hd hc) hC fun h' e k x => ⟨e, rfl, x, fin h' fun b o _ q => k b o q⟩)
    · have z := combs_first n hn r hr h1
      rw [List.getElem?_eq_none g] at z
      cases z
    · obtain ⟨f, ⟨_, N2⟩, F⟩ := nxt_is X.prog X.w
      have h4 : i - 1 < (combs n r).length := (List.getElem?_eq_some_iff.mp h3).1
      have hfx : f acc.size ix = none := by
        have z := F n hn r hr h1 (i - 1) h4
        rw [List.getD_eq_getElem?_getD, h3, Nat.sub_add_cancel h2, List.getElem?_eq_none g] at z
        rw [hit.1]
        exact z
      exact pyNext_none hC (N2 _ _ s c p res ix acc _ (I.ok.hd hc) hC hT hfx fun h' e k x => ⟨e, rfl, x, fin h' k⟩)
  self := fun A i s Q E st h => by
    obtain ⟨st0, res, ix, hC, _⟩ := st
    exact pyIter_comb hC h
section
variable {X : Cx} {tg a b : Expr} {ta tb : TE} {p p1 pos pos1 : Pos}
/-- combinations(range(n), r) of small n and r -/
def iComb (ta tb : TE) : TI := fun σ H R => ta σ H fun x H1 => ∃ n : Nat, x = .int n ∧ n < 9 ∧ tb σ H1 fun y H2 => ∃ r : Nat, y = .int r ∧ r < 4 ∧ R (Itb n r) H2
theorem pi_comb (hc : X.calm = true) (hg : Gl X "combinations") (hm : X.mg "combinations" = some (.type "itertools.combinations")) (hg1 : Gl X "range") (hm1 : X.mg "range" = none) (ha : PE X a ta) (hb : PE X b tb)
    (n0 : starEach [a] X.env = (false, eval a X.env) :: starEach [] X.env := by rfl)
    (na : starEach [.Call (.Name "range" p1) [a] [] pos1, b] X.env = (false, eval (.Call (.Name "range" p1) [a] [] pos1) X.env) :: starEach [b] X.env := by rfl)
    (nb : starEach [b] X.env = (false, eval b X.env) :: starEach [] X.env := by rfl) (hp : (backTo pos (starEach [b] X.env)).any (·.1) = false := by rfl) :
    PI X tg (.Call (.Name "combinations" p) [.Call (.Name "range" p1) [a] [] pos1, b] [] pos) (iComb ta tb) := by
  refine ⟨fun pins s σ H R I h => ?_⟩
  refine Call_ (ld_glob I hg hm (PyProof.Rows.callWith_type1 (args_cons (thn (Q := fun x s' => ∃ r t u v H1, ∃ n : Nat, x = .ref r ∧ Inv X ((r, ({ cls := .type "range", dict := none, data := .fields #[.int 0 t, .int (n : Int) u, .int 1 v], slots := #[] } : Obj)) :: pins) σ H1 s' ∧ n < 9 ∧ tb σ H1 (fun y H2 => ∃ k : Nat, y = .int k ∧ k < 4 ∧ R (Itb n k) H2)) ?_ fun x s1 ⟨r, t, u, v, H1, n, ex, I1, hn9, q1⟩ => one_arg hb I1 q1 (fun w2 s2 y H2 I2 r2 q2 => ?_) nb) na) na hp))
  · refine Call_ (ld_blt I hg1 hm1 boot_range (PyProof.Rows.callWith_type1 (one_arg ha I h (fun w2 s2 x H2 I2 r2 q2 => ?_) n0) n0))
    obtain ⟨n, rfl, hn9, q⟩ := q2
    obtain ⟨t, rfl⟩ := r2
    exact call_range_1 ⟨_, _, t, _, H2, n, rfl, ClX.pin_new I2 (fun b o e => Heap.get?_push_of_some _ e) (Nat.le_refl _) (Heap.get?_push_size _ rfl) (fun v z => nomatch z), hn9, q⟩
  · subst ex
    obtain ⟨k, rfl, hk4, q⟩ := q2
    obtain ⟨tk, rfl⟩ := r2
    have hR : IsRange s2.heap r 0 n 1 t u v := ClX.pin_at I2
    refine call_comb (n := n) (I2.ok.hd hc) hR (small_one (by omega) (by omega) (by omega) (by omega)) (by rw [rangeSize_one]; split <;> omega) (by omega) (by omega) (by omega) fun h' tk2 acc hk hacc => ?_
    have I3 : Inv X pins σ H2 { s2 with heap := h', toks := tk2 } := (ClX.unpin I2).kept hk
    have hC : IsComb ((h'.push { cls := .type "tuple", data := .seq acc }).push { cls := .type "itertools.combinations", data := .fields (cf h'.objs.size (if (k : Int).toNat > n then 2 else 0) .none (List.range (k : Int).toNat)) }) (h'.objs.size + 1) h'.objs.size (if (k : Int).toNat > n then 2 else 0) .none (List.range (k : Int).toNat) := get_two _ _ _ rfl
    refine pyIter_comb hC ?_
    refine ⟨h'.objs.size + 1, [h'.objs.size + 1, h'.objs.size], _, _, H2, rfl, I3.kept (t' := tk2) (fun b o e => Heap.get?_push_of_some _ (Heap.get?_push_of_some _ e)), turn_comb hn9 hk4, ⟨_, _, _, hC, ⟨acc, Heap.get?_push_of_some _ (Heap.get?_push_size _ rfl), hacc⟩, ?_, Nat.ne_of_lt (Nat.lt_succ_self _)⟩, fun b hb => ?_, q⟩
    · rw [Int.toNat_natCast]
      by_cases hkn : k > n
      · rw [if_pos hkn]; exact .inl ⟨hkn, rfl⟩
      · rw [if_neg hkn]; exact .inr (.inl ⟨by omega, rfl, rfl, rfl⟩)
    · have e' : b = h'.objs.size + 1 ∨ b = h'.objs.size := by simpa using hb
      have hle : h'.objs.size ≤ b := by
        rcases e' with z | z
        · rw [z]; exact Nat.le_succ _
        · rw [z]; exact Nat.le_refl _
      exact I3.fpOk hle (I3.hok.fresh hle)
end
end RC


set_option maxHeartbeats 2000000
namespace Own
open PySem PySem.Spec PyProof.Rows L2
open Evl
/-! Th: lists whose items read as data. -/
/-- a list at p whose items read as ds -/
def LD (K : PySem.W.Frag) (k : Nat) (ds : List PyData) : Addr → Hp → Prop := fun p H => ∃ vs, H p = some (.lst vs) ∧ GdAll K H k vs ds
/-- all but what stands at f is kept -/
def But (f : Addr) (H H' : Hp) : Prop := ∀ b o, b ≠ f → H b = some o → H' b = some o
/-- what reads as d -/
def PD (K : PySem.W.Frag) (k : Nat) (d : PyData) : VP := fun v H => Gd K H k v d
section
variable {K : PySem.W.Frag} {σ : L2.St} {H H' H1 : Hp} {te ta tb tl : TE} {D : Ends} {tu tz : TS} {k k0 : Nat} {a f p : Addr} {ds es : List PyData} {d e : PyData} {v : V}
theorem gdAll_at : ∀ {vs : List V} {ds : List PyData} {i : Nat} {x : V}, GdAll K H k vs ds → vs[i]? = some x → ∃ d, ds[i]? = some d ∧ Gd K H k x d
  | _, _, _, _, .nil, h => by simp at h
  | _, _, 0, _, .cons g _, h => by simp at h; subst h; exact ⟨_, rfl, g⟩
  | _, _, i + 1, _, .cons _ t, h => by
    obtain ⟨d, h1, h2⟩ := gdAll_at (i := i) t (by simpa using h)
    exact ⟨d, by simpa using h1, h2⟩
theorem But.refl (f : Addr) (H : Hp) : But f H H := fun _ _ _ h => h
theorem But.trans {H2 : Hp} (h : But f H H1) (h2 : But f H1 H2) : But f H H2 := fun b o n e => h2 b o n (h b o n e)
theorem But.ex (e : Ex H H1) : But f H H1 := fun b o _ h => e b o h
theorem But.kp {xs : List V} (h : H f = some (.lst xs)) (b : But f H H1) : Kp H H1 := fun a o q n => by
  by_cases e : a = f
  · rw [e, h] at q
    cases q
    exact absurd rfl (n.1 _)
  · exact b a o e q
theorem But.upd {o : HO} (b : But f H H1) : But f H (upd H1 f o) := fun c x n h => by rw [upd_ne n]; exact b c x n h
theorem LD.ex (e : Ex H H1) (h : LD K k ds p H) : LD K k ds p H1 := let ⟨vs, h1, h2⟩ := h; ⟨vs, e _ _ h1, h2.kp (.ex e)⟩
theorem LD.but {xs : List V} (hf : H f = some (.lst xs)) (n : p ≠ f) (b : But f H H1) (h : LD K k ds p H) : LD K k ds p H1 := let ⟨vs, h1, h2⟩ := h; ⟨vs, b _ _ n h1, h2.kp (b.kp hf)⟩
/-- [] -/
theorem en_nilD : EvN (tLst tNil) σ H (LD K k []) := fun H1 u Q q => ⟨Nat.zero_le _, fun p np => q p _ np (Ex.new np) ⟨[], upd_same, .nil⟩⟩
/-- [e] -/
theorem en_oneD (h : EvX te σ H (PD K k d)) : EvN (tLst (tCons te tNil)) σ H (LD K k [d]) := fun H1 u Q q =>
  h H1 u _ fun v H2 u2 g => ⟨by show 1 ≤ sizeLine; decide, fun p np => q p _ (fresh_back u2 np) (u2.trans (Ex.new np)) ⟨[v], upd_same, .cons (g.kp (.new np)) .nil⟩⟩
/-- a list that stands -/
theorem en_catD (ha : Ev ta σ H (.ref a)) (hx : LD K k ds a H) (hb : EvN tb σ H (LD K k es)) (hz : ds.length + es.length ≤ 100000) : EvN (tOp rCat ta tb) σ H (LD K k (ds ++ es)) := fun H1 u Q q =>
  ha H1 u _ fun H2 u2 => hb H2 (u.trans u2) _ fun r H3 hr u3 ⟨ys, hy, gy⟩ => by
    obtain ⟨xs, h1, gx⟩ := hx.ex ((u.trans u2).trans u3)
    have l1 := gdAll_len gx
    have l2 := gdAll_len gy
    exact ⟨a, r, xs, ys, rfl, rfl, h1, hy, sz_of (by omega), fun c hc => q c _ (fresh_back (u2.trans u3) hc) ((u2.trans u3).trans (Ex.new hc)) ⟨_, upd_same, (gx.app gy).kp (.new hc)⟩⟩
/-- [e for x in xs], e made anew -/
theorem lcD {J : It} {n : Nat} {xs : List V} {j : Nat} {vs : List Nat} {H1 : Hp} {Qd : Addr → Hp → Prop} (G : Hp → Prop) (w : Walk J n G (YAt xs)) (hG : ∀ H', Ex H1 H' → G H') (hn : n ≤ 40000) (hw : ∀ x, wipe ((wipe σ vs).set j (some x)) vs = wipe σ vs)
    (he : ∀ (i : Nat) x H', Ex H1 H' → xs[i]? = some x → i < n → EvX te ((wipe σ vs).set j (some x)) H' (fun v H2 => ∃ e, es[i]? = some e ∧ Gd K H2 k v e)) {Dl : Addr} (hD : H1 Dl = none) (hd : ∀ H', Ex H1 H' → LD K k (es.take n) Dl H' → Qd Dl H') :
    ∃ W : Nat → Nat → Hp → Prop, (∃ m, W 0 m (upd H1 Dl (.lst []))) ∧ ∀ i m H, W i m H →
      (J.stop i H ∧ Qd Dl H) ∨ (J.go i H ∧ ∃ Nx : Hp → Prop, (∀ H', Nx H' → ∃ m', m' < m ∧ W (i + 1) m' H') ∧ ∀ x H', J.yld i H x H' → gName j x (wipe σ vs) H' fun σ2 H2 => wipe σ2 vs = wipe σ vs ∧ tYes σ2 H2 fun b H3 =>
        if b = true then te σ2 H3 fun y H4 => ∃ acc, H4 Dl = some (.lst acc) ∧ acc.length < sizeLine ∧ Nx (upd H4 Dl (.lst (acc ++ [y]))) else Nx H3) :=
  lc_it w (fun i H' => Ex H1 H' ∧ LD K k (es.take i) Dl H' ∧ (es.take i).length = i) ⟨Ex.new hD, ⟨[], upd_same, .nil⟩, rfl⟩ (fun i H' _ p => hG H' p.1)
    (fun i x H2 H3 hi => by
      rintro ⟨e2, ⟨ys, hy, gy⟩, hl⟩ ⟨e3, hx⟩
      subst e3
      refine ⟨hw x, ?_⟩
      refine yesT ?_
      refine he i x H3 e2 hx hi H3 (.refl H3) _ fun y H4 u4 ⟨e, he1, ge⟩ => ⟨ys, u4 _ _ hy, sz_lt (by rw [gdAll_len gy, hl]; omega), Ex.mut (e2.trans u4) hD, ⟨ys ++ [y], upd_same, ?_⟩, ?_⟩
      · rw [List.take_succ, he1]
        have kp : Kp H4 (upd H4 Dl (.lst (ys ++ [y]))) := Kp.lst (u4 _ _ hy)
        exact (gy.kp ((Kp.ex u4).trans kp)).app (.cons (ge.kp kp) .nil)
      · rw [List.take_succ, he1, List.length_append, hl]
        rfl)
    (fun H' p => hd H' p.1 p.2.1)
theorem en_lcD {j : Nat} {vs : List Nat} (h : Ev tl σ H (.ref a)) (hx : LD K k0 ds a H) (hn : ds.length ≤ 40000) (hl : es.length = ds.length) (hw : ∀ x, wipe ((wipe σ vs).set j (some x)) vs = wipe σ vs)
    (he : ∀ (i : Nat) x d H', Ex H H' → ds[i]? = some d → Gd K H' k0 x d → EvX te ((wipe σ vs).set j (some x)) H' (fun v H2 => ∃ e, es[i]? = some e ∧ Gd K H2 k v e)) : EvN (tLc (iList K tl) (gName j) tYes te vs) σ H (LD K k es) :=
  fun H0 u Q q => h H0 u _ fun H1 u1 => by
    obtain ⟨xs, h1, gx⟩ := hx.ex (u.trans u1)
    have l1 := gdAll_len gx
    refine ⟨a, rfl, ⟨xs, sq_of h1⟩, fun Dl hD => lcD (es := es) (k := k) (K := K) (Qd := fun l H => Q (.ref l) H) _ walk_list (fun H' e' => ex_l e' (sq_of (K := K) h1)) (by omega) hw (fun i x H' e' hx hi => ?_) hD (fun H' e' p => q Dl H' (fresh_back u1 hD) (u1.trans e') ?_)⟩
    · obtain ⟨d, hd, gd⟩ := gdAll_at gx hx
      exact he i x d H' ((u.trans u1).trans e') hd (gd.ex e')
    · rw [List.take_of_length_le (by omega)] at p
      exact p
/-- for x in a new list of data; the list at f may grow meanwhile -/
theorem s_forD {j : Nat} {ys : List V} (h : EvN tl σ H (LD K k ds)) (hf : H f = some (.lst ys)) (Pv : Hp → Nat → L2.St → Hp → Prop) (h0 : ∀ HL, Ex H HL → Pv HL 0 σ HL) (hB : ∀ HL i σ' H', Pv HL i σ' H' → But f HL H')
    (hs : ∀ HL (i : Nat) d x σ' H', Ex H HL → ds[i]? = some d → Gd K H' k x d → Pv HL i σ' H' → tu { D with nx := Pv HL (i + 1), ct := Pv HL (i + 1), bk := D.nx } (σ'.set j (some x)) H') (hd : ∀ HL σ' H', Ex H HL → Pv HL ds.length σ' H' → D.nx σ' H') :
    tFor (iList K tl) (gName j) tu D σ H :=
  h H (.refl H) _ fun L HL nL u ⟨xs, hL, gx⟩ => by
    have nf : L ≠ f := fun z => by rw [z, hf] at nL; cases nL
    have hfL := u _ _ hf
    have l1 := gdAll_len gx
    exact ⟨L, rfl, ⟨xs, sq_of hL⟩, for_list (xs := xs) (Pv HL) (h0 HL u) (fun i σ' H' _ p => sq_of (hB HL i σ' H' p _ _ nf hL))
      (fun i x σ' H' hx p => by
        obtain ⟨d, hd, gd⟩ := gdAll_at gx hx
        exact hs HL i d x σ' H' u hd (gd.kp ((hB HL i σ' H' p).kp hfL)) p) (fun σ' H' p => hd HL σ' H' u (by rw [← l1]; exact p))⟩
theorem q_forD {j : Nat} {ys : List V} (h : EvN tl σ H (LD K k ds)) (hf : H f = some (.lst ys)) (Pv : Hp → Nat → L2.St → Hp → Prop) (h0 : ∀ HL, Ex H HL → Pv HL 0 σ HL) (hB : ∀ HL i σ' H', Pv HL i σ' H' → But f HL H')
    (hs : ∀ HL (i : Nat) d x σ' H', Ex H HL → ds[i]? = some d → Gd K H' k x d → Pv HL i σ' H' → tu { D with nx := Pv HL (i + 1), ct := Pv HL (i + 1), bk := tz D } (σ'.set j (some x)) H') (hd : ∀ HL σ' H', Ex H HL → Pv HL ds.length σ' H' → tz D σ' H') :
    tSeq (tFor (iList K tl) (gName j) tu) tz D σ H := s_forD (D := { D with nx := tz D }) h hf Pv h0 hB hs hd
/-- xs.append(e) -/
theorem s_appD {i : Nat} (hl : LD K k ds f H) (hv : σ[i]? = some (some (.ref f))) (h : EvX te σ H (PD K k e)) (hz : ds.length < 100000) (q : ∀ H1, But f H H1 → LD K k (ds ++ [e]) f H1 → D.nx σ H1) : tDrop (tBM K "list" rAppend (tVar i) (tCons te tNil)) D σ H := by
  obtain ⟨xs, h1, gx⟩ := hl
  refine ⟨_, hv, .inl ⟨rfl, _, sq_of h1⟩, h H (.refl H) _ fun y H2 u p => ⟨f, xs, y, rfl, rfl, u f _ h1, sz_lt (by rw [gdAll_len gx]; exact hz), ?_⟩⟩
  have kp : Kp H2 (upd H2 f (.lst (xs ++ [y]))) := Kp.lst (u _ _ h1)
  exact q _ (But.upd (.ex u)) ⟨_, upd_same, (gx.kp ((Kp.ex u).trans kp)).app (.cons (Gd.kp kp p) .nil)⟩
end
end Own


set_option maxHeartbeats 2000000
namespace Own
open PySem PySem.Spec PyProof.Rows L2
open Evl
/-! Ti: tuples of whole numbers as data, all parts of a list, combinations in a for. -/
def D1 (l : List Nat) : PyData := intsD (natI l)
def D2 (x : List Nat × List Nat) : PyData := .tuple [D1 x.1, D1 x.2]
/-- numbers that read as data -/
def Nats (m : Nat) (l : List Nat) : Prop := l.length ≤ m ∧ ∀ i ∈ l, i < 2 ^ 60
theorem ofN_natI (l : List Nat) : ofN l = (natI l).map V.int := by unfold ofN natI; rw [List.map_map]; rfl
/-- all parts, as the program lists them -/
def partStep (ps : List (List Nat)) (n : Nat) : List (List Nat) := ps ++ ps.map (· ++ [n])
def partsM (ns : List Nat) : List (List Nat) := ns.foldl partStep [[]]
theorem partsM_take {ns : List Nat} {i n : Nat} (h : ns[i]? = some n) : partsM (ns.take (i + 1)) = partStep (partsM (ns.take i)) n := by
  unfold partsM
  rw [List.take_succ, h, List.foldl_append]
  rfl
theorem partsM_app (ns : List Nat) (n : Nat) : partsM (ns ++ [n]) = partStep (partsM ns) n := by
  unfold partsM
  rw [List.foldl_append]
  rfl
theorem partsM_len : ∀ (k : Nat) (ns : List Nat), ns.length = k → (partsM ns).length = 2 ^ k
  | 0, ns, h => by rw [List.length_eq_zero_iff.mp h]; rfl
  | k + 1, ns, h => by
    have e : ns = ns.dropLast ++ [ns.getLast (by intro z; rw [z] at h; cases h)] := (List.dropLast_concat_getLast _).symm
    have l : ns.dropLast.length = k := by rw [List.length_dropLast, h]; rfl
    rw [e, partsM_app]
    unfold partStep
    rw [List.length_append, List.length_map, partsM_len k _ l, Nat.pow_succ]
    omega
theorem partsM_sub : ∀ (k : Nat) (ns : List Nat), ns.length = k → ∀ l ∈ partsM ns, l.Sublist ns
  | 0, ns, h, l, hl => by
    rw [List.length_eq_zero_iff.mp h] at hl ⊢
    have : l ∈ [([] : List Nat)] := hl
    rw [List.mem_singleton.mp this]
    exact List.Sublist.refl _
  | k + 1, ns, h, l, hl => by
    have e : ns = ns.dropLast ++ [ns.getLast (by intro z; rw [z] at h; cases h)] := (List.dropLast_concat_getLast _).symm
    have ll : ns.dropLast.length = k := by rw [List.length_dropLast, h]; rfl
    rw [e] at hl ⊢
    rw [partsM_app] at hl
    rcases List.mem_append.mp hl with m | m
    · exact (partsM_sub k _ ll l m).trans (List.sublist_append_left _ _)
    · obtain ⟨p, hp, rfl⟩ := List.mem_map.mp m
      exact (partsM_sub k _ ll p hp).append (List.Sublist.refl _)
section
variable {K : PySem.W.Frag} {σ : L2.St} {H H' H1 : Hp} {te ta tb tl : TE} {D : Ends} {tu tz : TS} {k k0 : Nat} {a f p : Addr} {ds es : List PyData} {d e : PyData} {v : V}
theorem gd_D1 {l : List Nat} {m : Nat} (h : SqT K H a (ofN l)) (n : Nats m l) (hm : m ≤ 20) : Gd K H 1 (.ref a) (D1 l) := by
  rw [ofN_natI] at h
  refine gd_ints h (by unfold natI; rw [List.length_map]; exact Nat.le_trans n.1 hm) fun x hx => ?_
  obtain ⟨i, hi, rfl⟩ := List.mem_map.mp hx
  have := n.2 i hi
  show (Int.natAbs (i : Int)) < 2 ^ 64
  rw [Int.natAbs_natCast]
  omega
theorem gd_D1_of {l : List Nat} {x : V} (g : Gd K H k x (D1 l)) : ∃ a, x = .ref a ∧ SqT K H a (ofN l) ∧ l.length ≤ 20 := by
  obtain ⟨a, xs, j, rfl, rfl, hs, hl, h20, _, _, hx⟩ := g.tup
  rw [List.length_map] at hl h20
  have z : xs = ofN l := by
    rw [ofN_natI]
    apply List.ext_getElem?
    intro i
    by_cases c : i < xs.length
    · obtain ⟨d, hd, gd⟩ := hx i xs[i] (List.getElem?_eq_getElem c)
      rw [List.getElem?_map] at hd
      have hil : i < (natI l).length := by rw [← hl]; exact c
      rw [List.getElem?_eq_getElem hil] at hd
      injection hd with hd
      subst hd
      have := gd.dp
      rw [List.getElem?_eq_getElem c, List.getElem?_map, List.getElem?_eq_getElem hil]
      generalize xs[i] = y at this
      cases this
      rfl
    · rw [List.getElem?_eq_none (by omega), List.getElem?_eq_none (by rw [List.length_map, ← hl]; omega)]
  subst z
  unfold natI at h20
  rw [List.length_map] at h20
  exact ⟨a, rfl, hs, h20⟩
theorem et_notInT {n : Nat} {S : List Nat} (ha : Ev ta σ H (.int (n : Int))) (hb : Ev tb σ H (.ref p)) (hs : SqT K H p (ofN S)) : EvT (tTest (tOp (rIn K true) ta tb)) σ H (!decide (n ∈ S)) := by
  rw [← inV_nat]; exact et_test (ev_op ha hb (rv_niT hs rfl flat_nat))
theorem given_nat (n : Nat) (g : Nat → Bool) : given n g (fun i => V.int (i : Int)) = ofN ((List.range n).filter g) := rfl
theorem given_at (g : Nat → Bool) (u : Nat → Int) : ∀ l : List Nat, given l.length (fun i => g (l.getD i 0)) (fun i => V.int (u (l.getD i 0))) = (l.filter g).map fun n => V.int (u n)
  | l => by
    have e : (List.range l.length).map (fun i => l.getD i 0) = l := by
      apply List.ext_getElem?
      intro i
      rw [List.getElem?_map]
      by_cases c : i < l.length
      · rw [List.getElem?_range c, List.getElem?_eq_getElem c]; simp [c]
      · rw [List.getElem?_eq_none (by simp; omega), List.getElem?_eq_none (by omega)]; rfl
    unfold given
    have q : l.filter g = ((List.range l.length).filter fun i => g (l.getD i 0)).map fun i => l.getD i 0 := by
      conv => lhs; rw [← e]
      rw [List.filter_map]
      rfl
    rw [q, List.map_map]
    rfl
theorem given_at1 (g : Nat → Bool) (l : List Nat) : given (ofN l).length (fun i => g (l.getD i 0)) (fun i => V.int ((l.getD i 0 : Nat) : Int)) = ofN (l.filter g) := by
  have e : (ofN l).length = l.length := by unfold ofN; rw [List.length_map]
  rw [e]
  exact given_at g (fun n => (n : Int)) l
theorem ofN_at {l : List Nat} {i : Nat} {x : V} (h : (ofN l)[i]? = some x) : x = V.int ((l.getD i 0 : Nat) : Int) ∧ i < l.length := by
  unfold ofN at h
  rw [List.getElem?_map] at h
  by_cases c : i < l.length
  · rw [List.getElem?_eq_getElem c] at h
    injection h with h
    refine ⟨?_, c⟩
    rw [← h]
    simp [c]
  · rw [List.getElem?_eq_none (by omega)] at h
    cases h
/-- [x for x in t if x not in S] of two tuples, or the second a list -/
theorem el_outT {j : Nat} {vs : List Nat} {l S : List Nat} {b : Addr} {t2 : TE} (h : Ev tl σ H (.ref a)) (hx : SqT K H a (ofN l)) (hl : l.length ≤ 40000) (hw : ∀ x, wipe ((wipe σ vs).set j (some x)) vs = wipe σ vs) (hj : ∀ x, ((wipe σ vs).set j (some x))[j]? = some (some x))
    (h2 : ∀ x H1, Ex H H1 → Ev t2 ((wipe σ vs).set j (some x)) H1 (.ref b)) (hs : SqT K H b (ofN S)) : EvL (tLc (iTup K tl) (gName j) (tTest (tOp (rIn K true) (tVar j) t2)) (tVar j) vs) σ H (ofN (l.filter fun i => !decide (i ∈ S))) := by
  rw [← given_at1]
  refine el_lcTp (K := K) _ _ h hx (by unfold ofN; rw [List.length_map]; exact hl) hw (fun i x H1 u hi => ?_) (fun i x H1 u hi _ => ?_)
  · obtain ⟨rfl, _⟩ := ofN_at hi
    exact et_notInT (ev_var (hj _)) (h2 _ H1 u) (ex_t u hs)
  · obtain ⟨rfl, _⟩ := ofN_at hi
    exact ev_var (hj _)
theorem el_outL {j : Nat} {vs : List Nat} {l S : List Nat} {b : Addr} {t2 : TE} (h : Ev tl σ H (.ref a)) (hx : SqT K H a (ofN l)) (hl : l.length ≤ 40000) (hw : ∀ x, wipe ((wipe σ vs).set j (some x)) vs = wipe σ vs) (hj : ∀ x, ((wipe σ vs).set j (some x))[j]? = some (some x))
    (h2 : ∀ x H1, Ex H H1 → Ev t2 ((wipe σ vs).set j (some x)) H1 (.ref b)) (hs : SqL K H b (ofN S)) : EvL (tLc (iTup K tl) (gName j) (tTest (tOp (rIn K true) (tVar j) t2)) (tVar j) vs) σ H (ofN (l.filter fun i => !decide (i ∈ S))) := by
  rw [← given_at1]
  refine el_lcTp (K := K) _ _ h hx (by unfold ofN; rw [List.length_map]; exact hl) hw (fun i x H1 u hi => ?_) (fun i x H1 u hi _ => ?_)
  · obtain ⟨rfl, _⟩ := ofN_at hi
    exact et_notIn (ev_var (hj _)) (h2 _ H1 u) (ex_l u hs)
  · obtain ⟨rfl, _⟩ := ofN_at hi
    exact ev_var (hj _)
theorem q_setN {i : Nat} {P : Addr → Hp → Prop} (h : EvN te σ H P) (q : ∀ l H1, H l = none → Ex H H1 → P l H1 → tz D (σ.set i (some (.ref l))) H1) : tSeq (tAsg te (gName i)) tz D σ H := h H (.refl H) _ fun l H1 n u p => q l H1 n u p
theorem s_setN {i : Nat} {P : Addr → Hp → Prop} (h : EvN te σ H P) (q : ∀ l H1, H l = none → Ex H H1 → P l H1 → D.nx (σ.set i (some (.ref l))) H1) : tAsg te (gName i) D σ H := h H (.refl H) _ fun l H1 n u p => q l H1 n u p
theorem q_asgL2 {i : Nat} {xs : List V} (h : EvL te σ H xs) (q : ∀ l H1, H l = none → Ex H H1 → H1 l = some (.lst xs) → tz D (σ.set i (some (.ref l))) H1) : tSeq (tAsg te (gName i)) tz D σ H := h H (.refl H) _ fun l H1 n u p => q l H1 n u p
theorem s_retNN {P : Addr → Hp → Prop} (h : EvN te σ H P) (q : ∀ l H1, H l = none → Ex H H1 → P l H1 → D.rt (.ref l) H1) : tRet te D σ H := h H (.refl H) _ fun l H1 n u p => q l H1 n u p
/-- a def called with a new list -/
theorem en_callL {sp : Sp} {E : XK} {xs : List V} {P : Addr → Hp → Prop} (h : EvL tl σ H xs) (hs : ∀ b H1, Ex H H1 → H1 b = some (.lst xs) → SpN sp [.ref b] H1 P) : EvN (tCall sp [] E (tCons tl tNil)) σ H P := fun H1 u Q q =>
  h H1 u _ fun b H2 hb u2 hx => by
    show sp ([.ref b] ++ []) H2 Q E
    rw [List.append_nil]
    exact hs b H2 (u.trans u2) hx H2 (.refl H2) Q (fun l H3 hl u3 p => q l H3 (fresh_back u2 hl) (u2.trans u3) p) E
/-- tuple(a new list) -/
theorem ex_tupL {xs : List V} (h : EvL te σ H xs) : EvX (tCB (rTupOf K) (tCons te tNil)) σ H (PSq K xs) := fun H1 u Q q =>
  h H1 u _ fun l H2 hl u2 hx => ⟨l, xs, rfl, .inl ⟨sq_of hx, fun t nt => q _ _ (u2.trans (Ex.new nt)) ⟨t, rfl, st_of upd_same⟩⟩⟩
theorem exT_cat {xs ys : List V} (ha : EvX ta σ H (PSq K xs)) (hb : EvX tb σ H (PSq K ys)) (hz : xs.length + ys.length ≤ 1000) : EvX (tOp (rCatA K) ta tb) σ H (PSq K (xs ++ ys)) := fun H1 u Q q =>
  ha H1 u _ fun x H2 u2 ⟨b, ex, hx⟩ => hb H2 (u.trans u2) _ fun y H3 u3 ⟨c, ey, hy⟩ => by
    have hx3 : SqT K H3 b xs := ex_t u3 hx
    have U := u2.trans u3
    exact ⟨b, c, xs, ys, ex, ey, hx3, hy, sz_of (by omega), fun z => q _ H3 U ⟨c, rfl, by rw [z]; exact hy⟩, fun _ z => q _ H3 U ⟨b, rfl, by rw [z, List.append_nil]; exact hx3⟩, fun _ _ p np => q _ _ (U.trans (Ex.new np)) ⟨p, rfl, st_of upd_same⟩⟩
theorem exT_v {i : Nat} {b : Addr} {xs : List V} (e : σ[i]? = some (some (.ref b))) (h : SqT K H b xs) : EvX (tVar i) σ H (PSq K xs) := fun H1 u Q q => ⟨_, e, q _ H1 (.refl H1) ⟨b, rfl, ex_t u h⟩⟩
theorem exT_1 {v : V} (h : Ev te σ H v) : EvX (tTup (tCons te tNil)) σ H (PSq K [v]) := fun H1 u Q q => h H1 u _ fun H2 u2 => ⟨by show 1 ≤ sizeLine; decide, fun p np => q _ _ (u2.trans (Ex.new np)) ⟨p, rfl, st_of upd_same⟩⟩
theorem exT_0 : EvX (tTup tNil) σ H (PSq K []) := fun H1 u Q q => ⟨Nat.zero_le _, fun p np => q _ _ (Ex.new np) ⟨p, rfl, st_of upd_same⟩⟩
theorem ex_D1 {l : List Nat} {m : Nat} (h : EvX te σ H (PSq K (ofN l))) (n : Nats m l) (hm : m ≤ 20) : EvX te σ H (PD K 1 (D1 l)) := ex_imp h fun v H1 ⟨b, ev, hb⟩ => by
  subst ev
  exact gd_D1 hb n hm
/-- (x, y) of two data -/
theorem ex_pairD {d1 d2 : PyData} (h1 : EvX ta σ H (PD K k d1)) (h2 : EvX tb σ H (PD K k d2)) : EvX (tTup (tCons ta (tCons tb tNil))) σ H (PD K (k + 1) (.tuple [d1, d2])) := fun H1 u Q q =>
  h1 H1 u _ fun x H2 u2 g1 => h2 H2 (u.trans u2) _ fun y H3 u3 g2 => ⟨by show 2 ≤ sizeLine; decide, fun p np => q _ _ ((u2.trans u3).trans (Ex.new np)) (by
    have gs : GdAll K H3 k [x, y] [d1, d2] := .cons (Gd.ex u3 g1) (.cons g2 .nil)
    exact gd_tup (st_of upd_same) (gs.kp (.new np)) (by show 2 ≤ 20; decide))⟩
theorem ex_vD {i : Nat} {v : V} (e : σ[i]? = some (some v)) (g : Gd K H k v d) : EvX (tVar i) σ H (PD K k d) := fun H1 u Q q => ⟨_, e, q _ H1 (.refl H1) (g.ex u)⟩
/-- for x in combinations(range(n), r) -/
theorem walk_comb {n r : Nat} : Walk (RC.Itb n r) (RC.combs n r).length (fun _ => True) (fun i H v H' => ∃ T l, v = .ref T ∧ H T = none ∧ (RC.combs n r)[i]? = some l ∧ H' = upd H T (.tup (ofN l))) :=
  ⟨fun i H h _ => h, fun H _ => Nat.le_refl _, fun i H x H' h _ y => y⟩
theorem s_forC {n r j : Nat} (ha : Ev ta σ H (.int (n : Int))) (hb : Ev tb σ H (.int (r : Int))) (hn : n < 9) (hr : r < 4) (Pv : Nat → L2.St → Hp → Prop) (h0 : ∀ H1, Ex H H1 → Pv 0 σ H1)
    (hs : ∀ i l T σ' H' H2, (RC.combs n r)[i]? = some l → Pv i σ' H' → Ex H' H2 → SqT K H2 T (ofN l) → tu { D with nx := Pv (i + 1), ct := Pv (i + 1), bk := D.nx } (σ'.set j (some (.ref T))) H2) (hd : ∀ σ' H', Pv (RC.combs n r).length σ' H' → D.nx σ' H') :
    tFor (RC.iComb ta tb) (gName j) tu D σ H := ha H (.refl H) _ fun H1 u1 => ⟨n, rfl, hn, hb H1 u1 _ fun H2 u2 => ⟨r, rfl, hr, for_it walk_comb Pv (h0 H2 (u1.trans u2)) (fun _ _ _ _ _ => trivial)
      (fun i x σ' H' H2 hi p => by
        rintro ⟨T, l, rfl, hT, hl, rfl⟩
        exact hs i l T σ' H' _ hl p (Ex.new hT) (st_of upd_same)) hd⟩⟩
theorem q_forC {n r j : Nat} (ha : Ev ta σ H (.int (n : Int))) (hb : Ev tb σ H (.int (r : Int))) (hn : n < 9) (hr : r < 4) (Pv : Nat → L2.St → Hp → Prop) (h0 : ∀ H1, Ex H H1 → Pv 0 σ H1)
    (hs : ∀ i l T σ' H' H2, (RC.combs n r)[i]? = some l → Pv i σ' H' → Ex H' H2 → SqT K H2 T (ofN l) → tu { D with nx := Pv (i + 1), ct := Pv (i + 1), bk := tz D } (σ'.set j (some (.ref T))) H2) (hd : ∀ σ' H', Pv (RC.combs n r).length σ' H' → tz D σ' H') :
    tSeq (tFor (RC.iComb ta tb) (gName j) tu) tz D σ H := s_forC (K := K) (D := { D with nx := tz D }) ha hb hn hr Pv h0 hs hd
end
end Own


set_option maxHeartbeats 2000000
/-! Tg: the call of a lambda x: (len(x[0]) + len(x[1]), x), all that stands kept. -/
namespace RC
open PySem PySem.Spec PyProof.Rows L2
section
variable {prog : Program} {w : World} {A : Around} {E : Value → Shared → Prop} {s : Shared} {env : Env}
/-- what the reading of x and of len asks of a frame -/
structure Fr1 (env : Env) (h : Heap) (x : Str) (v : Value) : Prop where
  kind : env.scope.kind = .function
  loc : env.kindOf x = some .local
  ns : ∃ m, h.Ns env.locals m ∧ m x = some v
  gl : env.kindOf "len" = some .globalImplicit
  len : ∃ mg mb, h.Ns env.globals mg ∧ mg "len" = none ∧ h.Ns env.builtins mb ∧ mb "len" = some (.builtin "len")
  hx : (x == ("__debug__" : Str)) = false
theorem ev_x {x : Str} {v : Value} {p : Pos} {Q : Value → Shared → Prop} (F : Fr1 env s.heap x v) (q : Q v s) : wpAny (model prog w) A (eval (.Name x p) env) Q E s := by
  obtain ⟨m, h1, h2⟩ := F.ns
  exact wpAny_Name (wpAny_loadName_local F.kind F.loc h1 h2 q) F.hx
/-- x[i] -/
theorem ev_xi {x : Str} {a : Addr} {its : Array Value} {i : Nat} {b : Value} {k : Nat} {p1 p2 p3 : Pos} {Q : Value → Shared → Prop} (F : Fr1 env s.heap x (.ref a)) (ht : IsTup s.heap a its) (hb : its[i]? = some b) (hi : i < 100)
    (q : Q b { s with toks := s.toks + 1 }) : wpAny (model prog w) A (eval (.Subscript (.Name x p1) (.Constant (.int (i : Int)) k p2) p3) env) Q E s := by
  refine Subscript_ (ev_x F (wpAny_Constant_int ?_))
  have hs : i < its.size := (Array.getElem?_eq_some_iff.mp hb).1
  refine subscriptTail_builtinR (s := { s with toks := s.toks + 1 }) (x := b) (T := "tuple") (let ⟨o, h1, h2, _⟩ := ht; ⟨o, h1, h2⟩) slot_tuple_getitem.lookup
    (getItem_tuple (j := i) (Q := fun r s' => r = b ∧ Q r s') ht (by omega) (by omega) ?_ hb ⟨rfl, q⟩) (by rfl)
  exact (seqIndex_at (by omega) (by omega)).trans (by rw [Int.toNat_natCast])
/-- len(x[i]) -/
theorem ev_lxi {x : Str} {a b : Addr} {its xs : Array Value} {i : Nat} {k : Nat} {p1 p2 p3 p4 p5 : Pos} {Q : Value → Shared → Prop} (F : Fr1 env s.heap x (.ref a)) (ht : IsTup s.heap a its) (hb : its[i]? = some (.ref b)) (hi : i < 100) (hxs : IsTup s.heap b xs) (hz : (xs.size : Int) < 2 ^ 63)
    (q : ∀ t tk, Q (.int xs.size t) { s with toks := tk }) : wpAny (model prog w) A (eval (.Call (.Name "len" p4) [.Subscript (.Name x p1) (.Constant (.int (i : Int)) k p2) p3] [] p5) env) Q E s := by
  obtain ⟨mg, mb, h1, h2, h3, h4⟩ := F.len
  refine wpAny_Call_Name_kw (Calls.Name_function_global F.kind F.gl (Calls.loadGlobal_builtin h1 h2 h3 h4 ?_) (by decide))
  refine PyProof.Rows.callWith_builtin1 (args_cons (ev_xi F ht hb hi (args_nil ?_)) (by rfl)) (by rfl) (by rfl)
  exact len_tuple (s := { s with toks := s.toks + 1 }) hxs hz (q _ _)
/-- (len(x[0]) + len(x[1]), x) -/
theorem ev_key {x : Str} {a b0 b1 : Addr} {its xs0 xs1 : Array Value} {k1 k2 k3 : Nat} {p1 p2 p3 p4 p5 p6 p7 p8 p9 p10 p11 p12 p13 : Pos} {Q : Value → Shared → Prop} (F : Fr1 env s.heap x (.ref a)) (ht : IsTup s.heap a its) (h0 : its[0]? = some (.ref b0)) (h1 : its[1]? = some (.ref b1))
    (hx0 : IsTup s.heap b0 xs0) (hx1 : IsTup s.heap b1 xs1) (z0 : (xs0.size : Int) < 2 ^ 63) (z1 : (xs1.size : Int) < 2 ^ 63)
    (q : ∀ t tk, Q (.ref s.heap.objs.size) { s with heap := s.heap.push { cls := .type "tuple", data := .seq #[.int ((xs0.size : Int) + (xs1.size : Int)) t, .ref a] }, toks := tk }) :
    wpAny (model prog w) A (eval (.Tuple [.BinOp (.Call (.Name "len" p4) [.Subscript (.Name x p1) (.Constant (.int 0) k1 p2) p3] [] p5) .Add (.Call (.Name "len" p9) [.Subscript (.Name x p6) (.Constant (.int 1) k2 p7) p8] [] p10) p11, .Name x p12] k3 p13) env) Q E s := by
  refine wpAny_Tuple_spliced (args_cons (wpAny_BinOp (ev_lxi (i := 0) F ht h0 (by decide) hx0 z0 fun t tk => ev_lxi (i := 1) (s := { s with toks := tk }) F ht h1 (by decide) hx1 z1 fun t2 tk2 => add_int ?_)) (by rfl))
  refine args_cons (ev_x (s := { s with toks := tk2 + 1 }) F (args_nil ⟨by show 2 ≤ sizeLine; decide, ?_⟩)) (by rfl)
  exact q _ _
/-- the call of the lambda -/
theorem call_key {f c' : Addr} {nm qual x : Str} {params : Arguments} {scope : Scope} {pm ctv : Value} {a b0 b1 : Addr} {its xs0 xs1 : Array Value} {k1 k2 k3 : Nat} {p1 p2 p3 p4 p5 p6 p7 p8 p9 p10 p11 p12 p13 : Pos} {Q : Value → Shared → Prop} {mg mb : Str → Option Value}
    (hf : s.heap.get? f = some (PySem.W.kla_obj nm qual params (.Tuple [.BinOp (.Call (.Name "len" p4) [.Subscript (.Name x p1) (.Constant (.int 0) k1 p2) p3] [] p5) .Add (.Call (.Name "len" p9) [.Subscript (.Name x p6) (.Constant (.int 1) k2 p7) p8] [] p10) p11, .Name x p12] k3 p13) scope [] pm c' ctv))
    (hcd : s.heap.CodeRec (.ref c') qual) (hroom : A.depth < recursionLimit) (lim : s.heap.NoLimit)
    (hbind : ∀ bd v, bindArgs (PySem.W.kla_fn nm qual params bd scope [] pm (.ref c') ctv) ⟨[v], []⟩ = pure [(x, v)])
    (hco : scope.isCoroutine = false) (hgen : scope.isGenerator = false) (hk : scope.kind = .function) (hcell : ∀ y ∈ scope.names, y.2 ≠ .cell) (hl : scope.names.lookup x = some .local) (hlen : scope.names.lookup (Str.ofString "len") = some NameKind.globalImplicit) (hx : (x == ("__debug__" : Str)) = false)
    (hmg : s.heap.Ns mainGlobals mg) (hm : mg "len" = none) (hmb : s.heap.Ns builtinsNs mb) (hb : mb "len" = some (.builtin "len"))
    (ht : IsTup s.heap a its) (h0 : its[0]? = some (.ref b0)) (h1 : its[1]? = some (.ref b1))
    (hx0 : IsTup s.heap b0 xs0) (hx1 : IsTup s.heap b1 xs1) (z0 : (xs0.size : Int) < 2 ^ 63) (z1 : (xs1.size : Int) < 2 ^ 63)
    (q : ∀ h' t tk T, (∀ b o, s.heap.get? b = some o → h'.get? b = some o) → h'.get? T = some { cls := .type "tuple", data := .seq #[.int ((xs0.size : Int) + (xs1.size : Int)) t, .ref a] } → Q (.ref T) { s with heap := h', toks := tk }) :
    wpAny (model prog w) A (call (.ref f) [.ref a]) Q E s := by
  refine wpAny_call (PySem.W.kla_callFunE hroom hf rfl hco hgen rfl hcd ?_)
  rw [hbind]
  refine wpAny_pure (wpAny_newFunctionEnv hcell (fun y hy => by rw [List.mem_singleton.mp hy]; exact hl) (fun h₁ hns hsb => ⟨lim.fresh _ hsb, ?_⟩) hk)
  show codeAny _ _ (.expr _ (PySem.W.envX qual scope s.heap.objs.size f (.ref c') [])) _ _
  have kp : ∀ b o, s.heap.get? b = some o → h₁.get? b = some o := fun b o e => hsb.extBut b o (Nat.ne_of_lt (Heap.lt_size e)) (Heap.get?_push_of_some _ e)
  have tup : ∀ {b : Addr} {ys : Array Value}, IsTup s.heap b ys → IsTup h₁ b ys := fun ⟨o, e1, e2, e3⟩ => ⟨o, kp _ _ e1, e2, e3⟩
  refine PySem.W.kla_codeExpr (ev_key (x := x) (s := { s with heap := h₁, toks := s.toks + 1 }) ⟨hk, hl, ⟨_, hns, ?_⟩, hlen, ⟨mg, mb, hmg.keeps kp, hm, hmb.keeps kp, hb⟩, hx⟩ (tup ht) h0 h1 (tup hx0) (tup hx1) z0 z1 fun t tk => ?_)
  · show List.lookup x (List.reverse [(x, Value.ref a)]) = some (.ref a)
    simp
  · exact q _ t tk _ (fun b o e => Heap.get?_push_of_some _ (kp b o e)) (Heap.get?_push_size _ rfl)
end
end RC


set_option maxHeartbeats 2000000
namespace Own
open PySem PySem.Spec PyProof.Rows L2 LamX
open Evl
/-! Tj: sorted by the key of Tg. -/
mutual
theorem reads_nil {h : Heap} : ∀ (d : PyData) (k : Nat) (v : Value) (as : List Addr), fine k d = true → Reads h v d as → as = []
  | .none, _, _, _, _, r => by cases r; rfl
  | .bool _, _, _, _, _, r => by cases r; rfl
  | .int _, _, _, _, _, r => by cases r; rfl
  | .str _, _, _, _, _, r => by cases r; rfl
  | .list _, k, _, _, f, _ => by cases k <;> simp [fine] at f
  | .dict _, k, _, _, f, _ => by cases k <;> simp [fine] at f
  | .tuple _, 0, _, _, f, _ => by simp [fine] at f
  | .tuple ds, k + 1, _, _, f, r => by
    simp only [fine, Bool.and_eq_true, decide_eq_true_eq] at f
    cases r with
    | tuple ho hc hd ha => exact reads_nilAll ds k _ _ (List.all_eq_true.mp f.2) ha
theorem reads_nilAll {h : Heap} : ∀ (ds : List PyData) (k : Nat) (vs : List Value) (as : List Addr), (∀ d ∈ ds, fine k d = true) → ReadsAll h vs ds as → as = []
  | [], _, _, _, _, r => by cases r; rfl
  | d :: ds, k, _, _, f, r => by
    cases r with
    | cons h1 h2 =>
      rw [reads_nil d k _ _ (f d List.mem_cons_self) h1, reads_nilAll ds k _ _ (fun x hx => f x (List.mem_cons_of_mem _ hx)) h2]
      rfl
end
abbrev N3 := List Nat × List Nat × List Nat
def D3 (x : N3) : PyData := .tuple [D1 x.1, D1 x.2.1, D1 x.2.2]
def keyD (x : N3) : PyData := .tuple [.int ((x.1.length : Int) + (x.2.1.length : Int)), D3 x]
theorem alike_D1 (a b : List Nat) : PySem.W.alike (D1 a) (D1 b) = true := PySem.W.alike_ints _ _
theorem alike_D3 (x y : N3) : PySem.W.alike (D3 x) (D3 y) = true := by
  show PySem.W.alikeAll [D1 x.1, D1 x.2.1, D1 x.2.2] [D1 y.1, D1 y.2.1, D1 y.2.2] = true
  simp [PySem.W.alikeAll, alike_D1]
theorem alike_keyD (x y : N3) : PySem.W.alike (keyD x) (keyD y) = true := by
  show PySem.W.alikeAll [_, _] [_, _] = true
  simp [PySem.W.alikeAll, alike_D3, PySem.W.alike]
section
variable {K : PySem.W.Frag} {H : Hp} {k : Nat}
/-- an item of the list, as it lies in the heap -/
def ItR (K : PySem.W.Frag) (H : Hp) (u : Value) (x : N3) : Prop := ∃ t, u = .ref t ∧ Gd K H 2 (.ref t) (D3 x)
theorem each_it : ∀ {vs : List V} {us : List Value} {cs : List N3}, Vals vs us → GdAll K H 2 vs (cs.map D3) → PySem.W.EachIs (ItR K H) us cs
  | _, _, [], .nil, _ => .nil
  | _, _, [], .cons _ _, g => by cases g
  | _, _, _ :: _, .nil, g => by cases g
  | _, _, c :: cs, .cons r t, g => by
    cases g with
    | cons g1 g2 =>
      obtain ⟨a, _, _, rfl, _⟩ := g1.tup
      obtain rfl := r
      exact .cons ⟨a, rfl, g1⟩ (each_it t g2)
theorem it_back : ∀ {us : List Value} {cs : List N3}, PySem.W.EachIs (ItR K H) us cs → Vals (us.map backV) us ∧ GdAll K H 2 (us.map backV) (cs.map D3)
  | _, _, .nil => ⟨.nil, .nil⟩
  | _, _, .cons ⟨t, e, g⟩ r => by
    subst e
    obtain ⟨h1, h2⟩ := it_back r
    exact ⟨.cons rfl h1, .cons g h2⟩
end
theorem clo_none {cells : List (Str × Addr)} : ∀ (names : List (Str × NameKind)) (acc : List (Str × Addr)), (∀ y ∈ names, y.2 ≠ .free) → cloFrom cells names acc = acc
  | [], _, _ => rfl
  | (n, k) :: r, acc, h => by
    have hk : (k == NameKind.free) = false := by
      cases k <;> first | rfl | exact absurd rfl (h (n, .free) List.mem_cons_self)
    show (if (k == NameKind.free) = true then _ else cloFrom cells r acc) = acc
    rw [hk]
    exact clo_none r acc fun y hy => h y (List.mem_cons_of_mem _ hy)
theorem boot_sorted : bootBuiltins "sorted" = some (.builtin "sorted") := by decide +kernel
theorem boot_len : bootBuiltins "len" = some (.builtin "len") := by decide +kernel
def tSortK (T : List (Addr × Str)) (K : PySem.W.Frag) (ta : TA) : TE := fun σ H Q => ta σ H fun vs H1 => Tabs T H1 ∧ ∃ (a : Addr) (cs : List N3), vs = [.ref a] ∧ LD K 2 (cs.map D3) a H1 ∧ cs.length ≤ 100000 ∧
  ∀ H2 p H3, ExtN H1 H2 → Tabs T H2 → H2 p = none → Ex H2 H3 → LD K 2 ((cs.mergeSort (PySem.W.dataLe false keyD)).map D3) p H3 → Q (.ref p) H3
theorem extN_kp {H H' : Hp} (e : ExtN H H') : Kp H H' := fun a o h f => e a o h f.2
section
variable {X : Cx} {T : List (Addr × Str)} {c P : Addr} {x : Str} {e : Expr} {ta : TA} {params : Arguments} {scope : Scope} {k1 k2 k3 : Nat} {p pos lpos kpos p1 p2 p3 p4 p5 p6 p7 p8 p9 p10 p11 p12 p13 : Pos}
abbrev keyE (x : Str) (k1 k2 k3 : Nat) (p1 p2 p3 p4 p5 p6 p7 p8 p9 p10 p11 p12 p13 : Pos) : Expr :=
  .Tuple [.BinOp (.Call (.Name "len" p4) [.Subscript (.Name x p1) (.Constant (.int 0) k1 p2) p3] [] p5) .Add (.Call (.Name "len" p9) [.Subscript (.Name x p6) (.Constant (.int 1) k2 p7) p8] [] p10) p11, .Name x p12] k3 p13
theorem pe_sortK (hg : Gl X "sorted") (hm : X.mg "sorted" = none) (hml : X.mg "len" = none) (ha : PA X [e] ta) (TB : TabB X.base X.mg c P) (hcode : X.env.code = .ref c) (hmT : (P, X.env.qual ++ "<lambda>") ∈ T)
    (hu : ∀ p ∈ T, p.1 = P → p.2 = X.env.qual ++ "<lambda>") (hr : Room 3 X.A) (hdef : defaultsOf params X.env = ([], []))
    (hbind : ∀ (q : Str) (bd : Expr) (cl : List (Str × Addr)) (pm cv ctv v : Value), bindArgs (PySem.W.kla_fn "<lambda>" q params bd scope cl pm cv ctv) ⟨[v], []⟩ = pure [(x, v)])
    (hco : scope.isCoroutine = false) (hgen : scope.isGenerator = false) (hk : scope.kind = .function) (hcell : ∀ y ∈ scope.names, y.2 ≠ .cell) (hfree : ∀ y ∈ scope.names, y.2 ≠ .free)
    (hl : scope.names.lookup x = some .local) (hlen : scope.names.lookup (Str.ofString "len") = some NameKind.globalImplicit) (hx : (x == ("__debug__" : Str)) = false)
    (h1 : backTo pos (starEach [e] X.env) = (false, eval e X.env) :: backTo pos (starEach [] X.env) := by rfl) (h2 : (backTo pos (starEach [e] X.env)).any (·.1) = false := by rfl) :
    PE X (.Call (.Name "sorted" p) [e] [⟨some (Str.ofString "key"), .Lambda params (keyE x k1 k2 k3 p1 p2 p3 p4 p5 p6 p7 p8 p9 p10 p11 p12 p13) scope lpos, kpos⟩] pos) (tSortK T X.K ta) := by
  refine ⟨fun pins s σ H Q I h => ?_⟩
  refine wpAny_Call_Name_kw (ld_blt I hg hm boot_sorted ?_)
  refine PyProof.Rows.callWith_kw (thn (ha.run pos pins s σ H _ I h) fun us s1 ⟨vs, H1, I1, r1, q1⟩ => ?_) h1 h2 (by rfl) (by rfl)
  obtain ⟨hT, a, cs, rfl, hD, hz, q⟩ := q1
  obtain ⟨ua, rfl, era⟩ := vals1 r1
  obtain rfl : ua = Value.ref a := era
  show wpAny _ _ (evalAll ((do let v ← eval (.Lambda params (keyE x k1 k2 k3 p1 p2 p3 p4 p5 p6 p7 p8 p9 p10 p11 p12 p13) scope lpos) X.env; standAt pos; pure v) :: [])) _ _ s1
  refine wpAny_evalAll_cons (wpAny_bind ?_)
  refine lam_make2 I1 TB hcode hmT hu hT hdef (fun y hy z => absurd z (hfree y hy)) fun f c' pm ctv H2 s2 I2 eN T2 hf hfn hfr hcc => ?_
  refine wpAny_bind (wpAny_standAt (wpAny_pure (wpAny_evalAll_nil ?_)))
  rw [clo_none _ _ hfree] at hf
  show wpAny _ _ (call (.builtin "sorted") [.ref a] [(Str.ofString "key", .ref f)]) _ _ s2
  obtain ⟨vs, hvs, gv⟩ := hD
  have hvs2 : H2 a = some (.lst vs) := eN a _ hvs (fun ps z => by cases z)
  have gv2 : GdAll X.K H2 2 vs (cs.map D3) := gv.kp (extN_kp eN)
  obtain ⟨its, rv, pl, hiz⟩ := I2.list (sq_of (K := X.K) hvs2)
  have ei := each_it rv gv2
  obtain ⟨⟨oc, cvs, ct, hoc, hdc, hvc⟩, _, _⟩ := I2.hok c' _ hcc
  obtain ⟨mb, hb1, hb2⟩ := I2.mod.blt
  have hun := hr.un
  refine PySem.W.sorted_key_data (β := N3) (R := ItR X.K H2) (b := false) keyD pl.isList ei (fun d hd d' hd' => ?_) (.inl fun d hd => ?_) (Nat.le_trans hz (by decide)) (fun y hy => ?_) (PyProof.Rows.ksk_s1 _ _) (fun _ => PyProof.Rows.ksk_l1 _ _) (fun _ => PyProof.Rows.ksk_t1 _ _) (fun v y ⟨t, ev, g⟩ hy h tk kp => ?_) fun out cc h' tk kp hn ho hlo eo => ?_
  · obtain ⟨y, _, rfl⟩ := List.mem_map.mp hd
    obtain ⟨y', _, rfl⟩ := List.mem_map.mp hd'
    exact alike_keyD y y'
  · obtain ⟨y, _, rfl⟩ := List.mem_map.mp hd
    exact ⟨_, _, rfl⟩
  · have f := gv2.dp.2 _ (List.mem_map.mpr ⟨y, hy, rfl⟩)
    have dp := (shows (D3 y) 2 f).2.2
    have dk : (keyD y).depth ≤ 10 := by
      unfold keyD
      simp only [PyData.depth, PyData.depthAll]
      omega
    omega
  · subst ev
    obtain ⟨t', xs, j, et, _, hs, hxl, _, _, _, hxx⟩ := g.tup
    cases et
    obtain ⟨itt, rvt, plt, _⟩ := I2.tuple hs
    have pick : ∀ (i : Nat) (l : List Nat), ([D1 y.1, D1 y.2.1, D1 y.2.2] : List PyData)[i]? = some (D1 l) → ∃ b xs0, itt.toArray[i]? = some (.ref b) ∧ IsTup s2.heap b xs0 ∧ xs0.size = l.length ∧ (xs0.size : Int) < 2 ^ 63 := by
      intro i l hi
      have hil : i < xs.length := by rw [hxl]; exact (List.getElem?_eq_some_iff.mp hi).1
      obtain ⟨d, hd, gd⟩ := hxx i xs[i] (List.getElem?_eq_getElem hil)
      rw [hi] at hd
      injection hd with hd
      subst hd
      obtain ⟨b, eb, hb, l20⟩ := gd_D1_of gd
      obtain ⟨u, hu1, hu2⟩ := rvt.get (List.getElem?_eq_getElem hil)
      rw [eb] at hu2
      obtain rfl := hu2
      obtain ⟨itb, rvb, plb, _⟩ := I2.tuple hb
      have lb := rvb.length
      rw [show (ofN l).length = l.length by unfold ofN; rw [List.length_map]] at lb
      exact ⟨b, itb.toArray, by simpa using hu1, plb, by simp; omega, by simp; omega⟩
    obtain ⟨b0, xs0, i0, t0, z0, y0⟩ := pick 0 y.1 rfl
    obtain ⟨b1, xs1, i1, t1, z1, y1⟩ := pick 1 y.2.1 rfl
    have up : ∀ {b : Addr} {ys : Array Value}, IsTup s2.heap b ys → IsTup h b ys := fun ⟨o, e1, e2, e3⟩ => ⟨o, kp _ _ e1, e2, e3⟩
    have hdp := hr.dp
    refine RC.call_key (s := { s2 with heap := h, toks := tk }) (A := X.A.in1.in1) (kp _ _ hf) ⟨c', oc, cvs, ct, rfl, kp _ _ hoc, hdc, hvc⟩ (show X.A.depth < recursionLimit by omega) (I2.nolimit.keeps kp) (fun bd v => hbind _ bd _ _ _ _ v) hco hgen hk hcell hl hlen hx
      ((I2.mod.glob.keeps I2.bk).keeps kp) hml ((hb1.keeps I2.bk).keeps kp) ((hb2 "len" (by decide)).trans boot_len) (up plt) i0 i1 (up t0) (up t1) y0 y1 fun h' ti tk' Tn kp' hT' => ⟨h', tk', rfl, kp', ?_⟩
    obtain ⟨as, hrd⟩ := Dp.reads I2 (D3 y) (.ref t) (.ref t) g.dp rfl
    have ea := reads_nil _ _ _ _ g.fn hrd
    subst ea
    have r3 := PyProof.Rows.Reads.keeps (fun b o q => kp' b o (kp b o q)) hrd
    have e : ((xs0.size : Int) + (xs1.size : Int)) = (y.1.length : Int) + (y.2.1.length : Int) := by rw [z0, z1]
    rw [e] at hT'
    exact Reads.tuple (as := []) hT' rfl rfl (ReadsAll.cons (as := []) (bs := []) (Reads.int _ _) (ReadsAll.cons (as := []) (bs := []) r3 ReadsAll.nil))
  · obtain ⟨b1, b2⟩ := it_back eo
    have I3 := I2.laid (a := s2.heap.objs.size + 1) (o := .lst (out.map backV)) (t' := tk) kp (Nat.le_succ _) (show ObjOk X.prog X.w _ _ _ (.lst (out.map backV)) from ⟨by rw [List.length_map, hlo]; exact Nat.le_trans hz (by decide), out, cc, b1, ho⟩)
    have np : H2 (s2.heap.objs.size + 1) = none := I2.hok.fresh (Nat.le_succ _)
    exact ⟨.ref _, _, I3, rfl, q H2 _ _ eN T2 np (Ex.new np) ⟨_, upd_same, b2.kp (.new np)⟩⟩
end
end Own


set_option maxHeartbeats 2000000
namespace Own
open PySem PySem.Spec PyProof.Rows L2 LamX
open Evl
/-! Tk: sorted of data; a def that owns a lambda and may raise; long tuples of data. -/
section
variable {P : Program} {w : World} {K : PySem.W.Frag} {mg : Str → Option Value} {base : Heap}
theorem fnC_okX {x qual : Str} {st : Stmt} {f cc : Addr} {fd : FuncData} {N ps : List Str} {k : Nat} {sp : Sp} (F : FunC K x qual st f fd cc) (S : FnScope N ps (defScope st)) (len : ∀ vs H Q E, sp vs H Q E → vs.length = ps.length)
    (hbody : ∀ (A : Around) (outer : List Env) (s : Shared) (H : Hp) (vs : List V) (Q : VK) (E : XK), Room k (A.deeper (envOfC qual (defScope st) s.heap.objs.size f (.ref cc))) → sp vs H Q E →
      ∃ t, PSs (cxOf (L2.CX P w) P w K mg base N qual (defScope st) f (.ref cc) A outer s H E) (defBody st) t ∧ t { nx := fun _ H' => Q .non H', rt := Q } (start N vs) H) : FnOk P w K mg base (L2.CX P w) (k + 1) f fd ps sp := by
  obtain ⟨oc, od, kV, doc, pm, an, ct, osl, rfl, lk, hcd⟩ := F.ex
  exact fn_of lk hcd S len fun A outer s H vs Q E hr hsp => hbody A outer s H vs Q E hr hsp
end
section
variable {K : PySem.W.Frag} {H : Hp} {k : Nat}
def ItK (K : PySem.W.Frag) (H : Hp) (u : Value) (x : N3) : Prop := ∃ t, u = .ref t ∧ Gd K H 3 (.ref t) (keyD x)
theorem each_itK : ∀ {vs : List V} {us : List Value} {cs : List N3}, Vals vs us → GdAll K H 3 vs (cs.map keyD) → PySem.W.EachIs (ItK K H) us cs
  | _, _, [], .nil, _ => .nil
  | _, _, [], .cons _ _, g => by cases g
  | _, _, _ :: _, .nil, g => by cases g
  | _, _, c :: cs, .cons r t, g => by
    cases g with
    | cons g1 g2 =>
      obtain ⟨a, _, _, rfl, _⟩ := g1.tup
      obtain rfl := r
      exact .cons ⟨a, rfl, g1⟩ (each_itK t g2)
theorem itK_back : ∀ {us : List Value} {cs : List N3}, PySem.W.EachIs (ItK K H) us cs → Vals (us.map backV) us ∧ GdAll K H 3 (us.map backV) (cs.map keyD)
  | _, _, .nil => ⟨.nil, .nil⟩
  | _, _, .cons ⟨t, e, g⟩ r => by
    subst e
    obtain ⟨h1, h2⟩ := itK_back r
    exact ⟨.cons rfl h1, .cons g h2⟩
end
/-- sorted of (number, three tuples) -/
def rSortedD (K : PySem.W.Frag) : List V → Hp → VK → Prop := fun vs H Q => ∃ (a : Addr) (cs : List N3), vs = [.ref a] ∧ LD K 3 (cs.map keyD) a H ∧ cs.length ≤ 100000 ∧
  ∀ p H', H p = none → Ex H H' → LD K 3 ((cs.mergeSort (PySem.W.dataLe false keyD)).map keyD) p H' → Q (.ref p) H'
theorem cr_sortedD {X : Cx} (hun : X.A.units + 64 < cLine) : CallR X (.builtin "sorted") (rSortedD X.K) := by
  intro pins s σ H xs us Q I r h
  obtain ⟨a, cs, rfl, ⟨vs, hvs, gv⟩, hz, q⟩ := h
  obtain ⟨u, rfl, eu⟩ := vals1 r
  obtain rfl : u = Value.ref a := eu
  obtain ⟨its, rv, pl, hiz⟩ := I.list (sq_of (K := X.K) hvs)
  have ei := each_itK rv gv
  have er : PySem.W.EachIs (fun v b => ∃ as, Reads s.heap v (keyD b) as) its cs := ei.mono fun _ y ⟨t, ev, g⟩ => by
    subst ev
    exact Dp.reads I (keyD y) (.ref t) (.ref t) g.dp rfl
  refine PySem.W.sorted_data (R := ItK X.K H) (enc := keyD) pl.isList ei er (fun d hd d' hd' => ?_) (.inl fun d hd => ?_) (Nat.le_trans hz (by decide)) (fun y hy => ?_) fun out hlo eo => ?_
  · obtain ⟨y, _, rfl⟩ := List.mem_map.mp hd
    obtain ⟨y', _, rfl⟩ := List.mem_map.mp hd'
    exact alike_keyD y y'
  · obtain ⟨y, _, rfl⟩ := List.mem_map.mp hd
    exact ⟨_, _, rfl⟩
  · have f := gv.dp.2 _ (List.mem_map.mpr ⟨y, hy, rfl⟩)
    have dp := (shows (keyD y) 3 f).2.2
    omega
  · obtain ⟨b1, b2⟩ := itK_back eo
    obtain ⟨ep, he'⟩ := PyProof.Rows.sortedAll_at s.heap its out.toArray
    have np : H (s.heap.objs.size + 1) = none := I.hok.fresh (Nat.le_succ _)
    exact ⟨.ref _, upd H (s.heap.objs.size + 1) (.lst (out.map backV)), I.laid (t' := s.toks) (fun _ _ => PyProof.Rows.sortedAll_old) (Nat.le_succ _) ⟨by rw [List.length_map, hlo]; exact Nat.le_trans hz (by decide), out, ep, b1, he'⟩, rfl,
      q _ _ np (Ex.new np) ⟨_, upd_same, b2.kp (.new np)⟩⟩
end Own


namespace My
open PySem PySem.Spec PyProof.Rows L2 Own LamX
def topS (i : Nat) : Stmt := PySem.Challenge.pw_twicemany_k05_kinds_of_a_loss_in_order.main.body.getD i (.Pass ⟨0, 0, 0, 0⟩)
abbrev s_init : Stmt := inClass (topS 2) 0
theorem sc_init : FnScope ["self", "what"] ["self", "what"] (defScope s_init) := ⟨rfl, rfl, rfl, by decide +kernel, rfl, by decide +kernel, by decide +kernel⟩
abbrev s_number_within : Stmt := topS 6
abbrev n_number_within : List Str := ["thing", "low", "high"]
theorem sc_number_within : FnScope n_number_within ["thing", "low", "high"] (defScope s_number_within) := ⟨rfl, rfl, rfl, by decide +kernel, rfl, by decide +kernel, by decide +kernel⟩
abbrev s_tuple_of : Stmt := topS 7
abbrev n_tuple_of : List Str := ["thing", "many"]
theorem sc_tuple_of : FnScope n_tuple_of ["thing", "many"] (defScope s_tuple_of) := ⟨rfl, rfl, rfl, by decide +kernel, rfl, by decide +kernel, by decide +kernel⟩
abbrev s_rising_below : Stmt := topS 8
abbrev n_rising_below : List Str := ["thing", "top", "low", "number"]
theorem sc_rising_below : FnScope n_rising_below ["thing", "top"] (defScope s_rising_below) := ⟨rfl, rfl, rfl, by decide +kernel, rfl, by decide +kernel, by decide +kernel⟩
abbrev s_is_prime : Stmt := topS 11
abbrev n_is_prime : List Str := ["p", "divisor"]
theorem sc_is_prime : FnScope n_is_prime ["p"] (defScope s_is_prime) := ⟨rfl, rfl, rfl, by decide +kernel, rfl, by decide +kernel, by decide +kernel⟩
abbrev s_made_shape : Stmt := topS 13
abbrev n_made_shape : List Str := ["thing", "fault"]
theorem sc_made_shape : FnScope n_made_shape ["thing"] (defScope s_made_shape) := ⟨rfl, rfl, rfl, by decide +kernel, rfl, by decide +kernel, by decide +kernel⟩
abbrev s_shape_fault : Stmt := topS 14
abbrev n_shape_fault : List Str := ["thing", "p", "wide", "n", "k", "e", "manner", "table"]
theorem sc_shape_fault : FnScope n_shape_fault ["thing"] (defScope s_shape_fault) := ⟨rfl, rfl, rfl, by decide +kernel, rfl, by decide +kernel, by decide +kernel⟩
abbrev s_table_fits : Stmt := topS 15
abbrev n_table_fits : List Str := ["table", "n", "p", "row"]
theorem sc_table_fits : FnScope n_table_fits ["table", "n", "p"] (defScope s_table_fits) := ⟨rfl, rfl, rfl, by decide +kernel, rfl, by decide +kernel, by decide +kernel⟩
abbrev s_numbers_fit : Stmt := topS 16
abbrev n_numbers_fit : List Str := ["thing", "many", "p", "number"]
theorem sc_numbers_fit : FnScope n_numbers_fit ["thing", "many", "p"] (defScope s_numbers_fit) := ⟨rfl, rfl, rfl, by decide +kernel, rfl, by decide +kernel, by decide +kernel⟩
abbrev s_shelves_of : Stmt := topS 18
abbrev n_shelves_of : List Str := ["shape"]
theorem sc_shelves_of : FnScope n_shelves_of ["shape"] (defScope s_shelves_of) := ⟨rfl, rfl, rfl, by decide +kernel, rfl, by decide +kernel, by decide +kernel⟩
abbrev s_made_lost : Stmt := topS 19
abbrev n_made_lost : List Str := ["shape", "thing"]
theorem sc_made_lost : FnScope n_made_lost ["shape", "thing"] (defScope s_made_lost) := ⟨rfl, rfl, rfl, by decide +kernel, rfl, by decide +kernel, by decide +kernel⟩
abbrev s_kinds : Stmt := topS 21
abbrev n_kinds : List Str := ["shape", "lost", "kept", "every", "found", "x_cells", "z_cells", "waits", "came"]
theorem sc_kinds : FnScope n_kinds ["shape", "lost"] (defScope s_kinds) := ⟨rfl, rfl, rfl, by decide +kernel, rfl, by decide +kernel, by decide +kernel⟩
abbrev s_kept_sums : Stmt := topS 22
abbrev n_kept_sums : List Str := ["shape", "lost", "shelf"]
theorem sc_kept_sums : FnScope n_kept_sums ["shape", "lost"] (defScope s_kept_sums) := ⟨rfl, rfl, rfl, by decide +kernel, rfl, by decide +kernel, by decide +kernel⟩
abbrev s_lost_cells : Stmt := topS 23
abbrev n_lost_cells : List Str := ["shape", "lost", "many", "shelf"]
theorem sc_lost_cells : FnScope n_lost_cells ["shape", "lost"] (defScope s_lost_cells) := ⟨rfl, rfl, rfl, by decide +kernel, rfl, by decide +kernel, by decide +kernel⟩
abbrev s_parts_of : Stmt := topS 24
abbrev n_parts_of : List Str := ["numbers", "parts", "number", "part"]
theorem sc_parts_of : FnScope n_parts_of ["numbers"] (defScope s_parts_of) := ⟨rfl, rfl, rfl, by decide +kernel, rfl, by decide +kernel, by decide +kernel⟩
abbrev s_splits : Stmt := topS 25
abbrev n_splits : List Str := ["shape", "lost", "found", "size"]
theorem sc_splits : FnScope n_splits ["shape", "lost"] (defScope s_splits) := ⟨rfl, rfl, rfl, by decide +kernel, rfl, by decide +kernel, by decide +kernel⟩
abbrev s_splits_of : Stmt := topS 26
abbrev n_splits_of : List Str := ["shape", "lost", "size", "gone", "found", "cells", "came", "x"]
theorem sc_splits_of : FnScope n_splits_of ["shape", "lost", "size"] (defScope s_splits_of) := ⟨rfl, rfl, rfl, by decide +kernel, rfl, by decide +kernel, by decide +kernel⟩
abbrev s_law_pool : Stmt := topS 28
abbrev n_law_pool : List Str := ["script", "k", "cell", "big", "mixed"]
theorem sc_law_pool : FnScope n_law_pool ["script", "k"] (defScope s_law_pool) := ⟨rfl, rfl, rfl, by decide +kernel, rfl, by decide +kernel, by decide +kernel⟩
abbrev s_law_take : Stmt := topS 29
abbrev n_law_take : List Str := ["source", "top", "drawn"]
theorem sc_law_take : FnScope n_law_take ["source", "top"] (defScope s_law_take) := ⟨rfl, rfl, rfl, by decide +kernel, rfl, by decide +kernel, by decide +kernel⟩
abbrev s_law_one : Stmt := topS 30
abbrev n_law_one : List Str := ["source", "things"]
theorem sc_law_one : FnScope n_law_one ["source", "things"] (defScope s_law_one) := ⟨rfl, rfl, rfl, by decide +kernel, rfl, by decide +kernel, by decide +kernel⟩
abbrev s_law_any_shape : Stmt := topS 31
abbrev n_law_any_shape : List Str := ["source", "n", "manner", "k", "p", "table", "j", "x"]
theorem sc_law_any_shape : FnScope n_law_any_shape ["source"] (defScope s_law_any_shape) := ⟨rfl, rfl, rfl, by decide +kernel, rfl, by decide +kernel, by decide +kernel⟩
abbrev s_law_lots_of : Stmt := topS 32
abbrev n_law_lots_of : List Str := ["things", "found", "thing", "lot"]
theorem sc_law_lots_of : FnScope n_law_lots_of ["things"] (defScope s_law_lots_of) := ⟨rfl, rfl, rfl, by decide +kernel, rfl, by decide +kernel, by decide +kernel⟩
abbrev s_law_due : Stmt := topS 33
abbrev n_law_due : List Str := ["shape", "lost", "n", "k", "manner", "c", "sums", "masks", "found", "came", "others", "mask", "j", "x", "one"]
theorem sc_law_due : FnScope n_law_due ["shape", "lost"] (defScope s_law_due) := ⟨rfl, rfl, rfl, by decide +kernel, rfl, by decide +kernel, by decide +kernel⟩
abbrev s_law_is_bad : Stmt := topS 34
abbrev n_law_is_bad : List Str := ["shape", "lot", "error"]
theorem sc_law_is_bad : FnScope n_law_is_bad ["shape", "lot"] (defScope s_law_is_bad) := ⟨rfl, rfl, rfl, by decide +kernel, rfl, by decide +kernel, by decide +kernel⟩
abbrev s_law : Stmt := topS 35
abbrev n_law : List Str := ["script", "k", "source", "shape", "many", "lost", "told", "lot", "s"]
theorem sc_law : FnScope n_law ["script"] (defScope s_law) := ⟨rfl, rfl, rfl, by decide +kernel, rfl, by decide +kernel, by decide +kernel⟩
section
/-- what the top has written -/
structure Txt (K : PySem.W.Frag) (mg : Str → Option Value) where
  f_number_within : Addr
  fd_number_within : FuncData
  d_number_within : DefAt K mg "number_within" s_number_within ["thing", "low", "high"] f_number_within fd_number_within
  f_tuple_of : Addr
  fd_tuple_of : FuncData
  d_tuple_of : DefAt K mg "tuple_of" s_tuple_of ["thing", "many"] f_tuple_of fd_tuple_of
  f_rising_below : Addr
  fd_rising_below : FuncData
  d_rising_below : DefAt K mg "rising_below" s_rising_below ["thing", "top"] f_rising_below fd_rising_below
  f_is_prime : Addr
  fd_is_prime : FuncData
  d_is_prime : DefAt K mg "is_prime" s_is_prime ["p"] f_is_prime fd_is_prime
  f_made_shape : Addr
  fd_made_shape : FuncData
  d_made_shape : DefAt K mg "made_shape" s_made_shape ["thing"] f_made_shape fd_made_shape
  f_shape_fault : Addr
  fd_shape_fault : FuncData
  d_shape_fault : DefAt K mg "shape_fault" s_shape_fault ["thing"] f_shape_fault fd_shape_fault
  f_table_fits : Addr
  fd_table_fits : FuncData
  d_table_fits : DefAt K mg "table_fits" s_table_fits ["table", "n", "p"] f_table_fits fd_table_fits
  f_numbers_fit : Addr
  fd_numbers_fit : FuncData
  d_numbers_fit : DefAt K mg "numbers_fit" s_numbers_fit ["thing", "many", "p"] f_numbers_fit fd_numbers_fit
  f_shelves_of : Addr
  fd_shelves_of : FuncData
  d_shelves_of : DefAt K mg "shelves_of" s_shelves_of ["shape"] f_shelves_of fd_shelves_of
  f_made_lost : Addr
  fd_made_lost : FuncData
  d_made_lost : DefAt K mg "made_lost" s_made_lost ["shape", "thing"] f_made_lost fd_made_lost
  f_kinds : Addr
  fd_kinds : FuncData
  d_kinds : DefAt K mg "kinds" s_kinds ["shape", "lost"] f_kinds fd_kinds
  f_kept_sums : Addr
  fd_kept_sums : FuncData
  d_kept_sums : DefAt K mg "kept_sums" s_kept_sums ["shape", "lost"] f_kept_sums fd_kept_sums
  f_lost_cells : Addr
  fd_lost_cells : FuncData
  d_lost_cells : DefAt K mg "lost_cells" s_lost_cells ["shape", "lost"] f_lost_cells fd_lost_cells
  f_parts_of : Addr
  fd_parts_of : FuncData
  d_parts_of : DefAt K mg "parts_of" s_parts_of ["numbers"] f_parts_of fd_parts_of
  f_splits : Addr
  fd_splits : FuncData
  d_splits : DefAt K mg "splits" s_splits ["shape", "lost"] f_splits fd_splits
  f_splits_of : Addr
  fd_splits_of : FuncData
  d_splits_of : DefAt K mg "splits_of" s_splits_of ["shape", "lost", "size"] f_splits_of fd_splits_of
  f_law_pool : Addr
  fd_law_pool : FuncData
  d_law_pool : DefAt K mg "_law_pool" s_law_pool ["script", "k"] f_law_pool fd_law_pool
  f_law_take : Addr
  fd_law_take : FuncData
  d_law_take : DefAt K mg "_law_take" s_law_take ["source", "top"] f_law_take fd_law_take
  f_law_one : Addr
  fd_law_one : FuncData
  d_law_one : DefAt K mg "_law_one" s_law_one ["source", "things"] f_law_one fd_law_one
  f_law_any_shape : Addr
  fd_law_any_shape : FuncData
  d_law_any_shape : DefAt K mg "_law_any_shape" s_law_any_shape ["source"] f_law_any_shape fd_law_any_shape
  f_law_lots_of : Addr
  fd_law_lots_of : FuncData
  d_law_lots_of : DefAt K mg "_law_lots_of" s_law_lots_of ["things"] f_law_lots_of fd_law_lots_of
  f_law_due : Addr
  fd_law_due : FuncData
  d_law_due : DefAt K mg "_law_due" s_law_due ["shape", "lost"] f_law_due fd_law_due
  f_law_is_bad : Addr
  fd_law_is_bad : FuncData
  d_law_is_bad : DefAt K mg "_law_is_bad" s_law_is_bad ["shape", "lot"] f_law_is_bad fd_law_is_bad
  f_law : Addr
  fd_law : FuncData
  d_law : DefAt K mg "law" s_law ["script"] f_law fd_law
  c_Refused : Addr
  g_Refused : mg "Refused" = some (.ref c_Refused)
  c_BadShape : Addr
  g_BadShape : mg "BadShape" = some (.ref c_BadShape)
  c_BadShelf : Addr
  g_BadShelf : mg "BadShelf" = some (.ref c_BadShelf)
  f_init : Addr
  fd_init : FuncData
  d_init : Fun K "__init__" "Refused.__init__" s_init f_init fd_init
  b_init : Binds K fd_init ["self", "what"] []
  ti : PySem.W.typeIn K (.ref f_init) = some (.type "function")
  o_BadShape : OexC K c_BadShape
  i_BadShape : PySem.W.findIn K (.ref c_BadShape) "__init__" = some (some (.ref f_init))
  n_BadShape_what : WhC K c_BadShape
  x_BadShape : XfC K c_BadShape
  e_BadShape : ExcC K c_BadShape
  o_BadShelf : OexC K c_BadShelf
  i_BadShelf : PySem.W.findIn K (.ref c_BadShelf) "__init__" = some (some (.ref f_init))
  n_BadShelf_what : WhC K c_BadShelf
  x_BadShelf : XfC K c_BadShelf
  e_BadShelf : ExcC K c_BadShelf
  te_BadShelf_BadShelf : PySem.W.exmOne K (.ref c_BadShelf) (.ref c_BadShelf) = some true
  cc_kinds : Addr
  P_kinds : Addr
  FC_kinds : FunC K "kinds" "kinds" s_kinds f_kinds fd_kinds cc_kinds
  m_all : mg "all" = none
  m_bool : mg "bool" = none
  m_int : mg "int" = none
  m_isinstance : mg "isinstance" = none
  m_len : mg "len" = none
  m_max : mg "max" = none
  m_min : mg "min" = none
  m_range : mg "range" = none
  m_repr : mg "repr" = none
  m_sorted : mg "sorted" = none
  m_tuple : mg "tuple" = none
  i_combinations : mg "combinations" = some (.type "itertools.combinations")
  tk_GREATEST_PRIME : Tok
  v_GREATEST_PRIME : mg "GREATEST_PRIME" = some (.int 1000003 tk_GREATEST_PRIME)
variable {K : PySem.W.Frag} {mg : Str → Option Value}
def Txt.tabs (T : Txt K mg) : List (Addr × Str) := [(T.P_kinds, (("kinds" : Str) ++ ".<locals>.") ++ "<lambda>")]
def Txt.Ps (T : Txt K mg) : List Addr := [T.P_kinds]
theorem Txt.mem_kinds (T : Txt K mg) : (T.P_kinds, (("kinds" : Str) ++ ".<locals>.") ++ "<lambda>") ∈ T.tabs := List.mem_cons_self
theorem Txt.one_kinds (T : Txt K mg) : ∀ p ∈ T.tabs, p.1 = T.P_kinds → p.2 = (("kinds" : Str) ++ ".<locals>.") ++ "<lambda>" := fun p hp e => by
  unfold Txt.tabs at hp
  simp only [List.mem_cons, List.not_mem_nil, or_false] at hp
  rcases hp with rfl
  · rfl
structure Bt (T : Txt K mg) (base : Heap) : Prop where
  tb_kinds : TabB base mg T.cc_kinds T.P_kinds
end

/-- the law, of any script; the tables of its lambdas are empty -/
def sp_law (Ps : List Addr) (K : PySem.W.Frag) : Sp := fun vs H Q _ => ∃ (a : Addr) (ns : List Int), vs = [.ref a] ∧ SqL K H a (ns.map V.int) ∧ ns.length ≤ 63 ∧ (∀ xs, H a ≠ some (.lst xs)) ∧ (∀ b ∈ Ps, H b = some (.tbl #[])) ∧ ∀ H', Q (.bl true) H'
theorem law_sp {Ps : List Addr} {K : PySem.W.Frag} {H : Hp} {a : Addr} {ns : List Int} (h1 : ns.length ≤ 63) (h2 : OnlyT Ps H) (h3 : ∀ b ∈ Ps, H b = some (.tbl #[])) (h4 : SqL K H a (ns.map V.int)) : sp_law Ps K [.ref a] H (fun v _ => v = .bl true) E0 :=
  ⟨a, ns, rfl, h4, h1, (fun xs e => by rcases h2 a with z | ⟨_, z⟩ | ⟨o, ys, z⟩ <;> (rw [e] at z; cases z)), h3, fun _ => rfl⟩
end My


set_option maxHeartbeats 1000000
namespace My
open PySem PySem.Spec PyProof.Rows L2 Own LamX
open Evl (Ex RetV)
section
variable {P : Program} {w : World} {K : PySem.W.Frag} {mg : Str → Option Value} {base : Heap}

open Evl
/-! ### the checks -/
def sp_number_within (T : Txt K mg) : Sp := fun vs H Q _ => ∃ k x d lo hi, vs = [x, .int lo, .int hi] ∧ Gd K H k x d ∧ RetV (.bl (within d lo hi)) H Q
theorem len_number_within (T : Txt K mg) {vs H Q E} (h : sp_number_within T vs H Q E) : vs.length = 3 := by obtain ⟨_, _, _, _, _, rfl, _⟩ := h; rfl
theorem v_number_within (T : Txt K mg) {H : Hp} {k : Nat} {x : V} {d : PyData} {lo hi : Int} (g : Gd K H k x d) : SpV (sp_number_within T) [x, .int lo, .int hi] H (.bl (within d lo hi)) := spv fun H1 e Q q E => ⟨k, x, d, lo, hi, rfl, g.ex e, q⟩
def t_number_within (T : Txt K mg) : TS := (tRet (tAndV (tCB (rIsi K) (tCons (tVar 0) (tCons (tC (.ty "int")) tNil))) (tAndV (tNotV (tCB (rIsi K) (tCons (tVar 0) (tCons (tC (.ty "bool")) tNil)))) (tChain rLeI rLeI (tVar 1) (tVar 0) (tVar 2)))))

theorem pure_number_within (T : Txt K mg) {vs H Q} {E : XK} (h : sp_number_within T vs H Q E) : t_number_within T { nx := fun _ H' => Q .non H', rt := Q } (L2.start n_number_within vs) H := by
  obtain ⟨k, x, d, lo, hi, rfl, g, q⟩ := h
  refine s_ret (v := .bl (within d lo hi)) ?_ fun H1 e => q H1 e
  have e0 : Ev (tVar 0) (L2.start n_number_within [x, .int lo, .int hi]) H x := ev_var rfl
  have e1 := ev_isI e0 g
  have e2 := ev_notV (ev_isB e0 g)
  cases d with
  | int i =>
    cases g.dp
    exact ev_is (ev_andV e1 fun _ => ev_andV e2 fun _ => ev_chain (ev_var rfl) e0 (ev_var rfl)) (by simp [isI, isB, within])
  | bool b => exact ev_is (ev_andV (b := false) e1 fun _ => ev_andV (b := false) e2 fun z => by simp [isB] at z) (by simp [isI, isB, within])
  | none => exact ev_is (ev_andV (b := false) e1 fun z => by simp [isI] at z) (by simp [isI, within])
  | str b => exact ev_is (ev_andV (b := false) e1 fun z => by simp [isI] at z) (by simp [isI, within])
  | tuple b => exact ev_is (ev_andV (b := false) e1 fun z => by simp [isI] at z) (by simp [isI, within])
  | list b => exact ev_is (ev_andV (b := false) e1 fun z => by simp [isI] at z) (by simp [isI, within])
  | dict b => exact ev_is (ev_andV (b := false) e1 fun z => by simp [isI] at z) (by simp [isI, within])
theorem ok_number_within (T : Txt K mg) : FnOk P w K mg base CX0 1 T.f_number_within T.fd_number_within ["thing", "low", "high"] (sp_number_within T) :=
  T.d_number_within.F.ok sc_number_within (fun vs H Q E h => len_number_within T h) fun cdv A outer s H vs Q E hr h => ⟨t_number_within T, by
    exact (pss_one (ps_ret (pe_and (pe_callB call_isi (by rfl) T.m_isinstance (by decide +kernel) (pa_cons (pv 0) (pa_cons (pe_bltn (v := .ty "int") (by rfl) T.m_int (by decide +kernel) rfl) pa_nil))) (pe_and (pe_not (pe_callB call_isi (by rfl) T.m_isinstance (by decide +kernel) (pa_cons (pv 0) (pa_cons (pe_bltn (v := .ty "bool") (by rfl) T.m_bool (by decide +kernel) rfl) pa_nil)))) (pe_one (pe_chain op_le op_le (pv 1) (pv 0) (pv 2))))))), pure_number_within T h⟩

def isLen (d : PyData) (m : Int) : Bool := match d with
  | .tuple xs => decide ((xs.length : Int) = m)
  | _ => false
def sp_tuple_of (T : Txt K mg) : Sp := fun vs H Q _ => ∃ k x d m, vs = [x, .int m] ∧ Gd K H k x d ∧ RetV (.bl (isLen d m)) H Q
theorem len_tuple_of (T : Txt K mg) {vs H Q E} (h : sp_tuple_of T vs H Q E) : vs.length = 2 := by obtain ⟨_, _, _, _, rfl, _⟩ := h; rfl
theorem v_tuple_of (T : Txt K mg) {H : Hp} {k : Nat} {x : V} {d : PyData} {m : Int} (g : Gd K H k x d) : SpV (sp_tuple_of T) [x, .int m] H (.bl (isLen d m)) := spv fun H1 e Q q E => ⟨k, x, d, m, rfl, g.ex e, q⟩
def t_tuple_of (T : Txt K mg) : TS := (tRet (tAndV (tCB (rIsi K) (tCons (tVar 0) (tCons (tC (.ty "tuple")) tNil))) (tOp rEq (tCB (rLenV K) (tCons (tVar 0) tNil)) (tVar 1))))

theorem pure_tuple_of (T : Txt K mg) {vs H Q} {E : XK} (h : sp_tuple_of T vs H Q E) : t_tuple_of T { nx := fun _ H' => Q .non H', rt := Q } (L2.start n_tuple_of vs) H := by
  obtain ⟨k, x, d, m, rfl, g, q⟩ := h
  refine s_ret (v := .bl (isLen d m)) ?_ fun H1 e => q H1 e
  have e0 : Ev (tVar 0) (L2.start n_tuple_of [x, .int m]) H x := ev_var rfl
  have e1 := ev_isT e0 g
  cases d with
  | tuple ds =>
    obtain ⟨a, xs, j, rfl, rfl, hs, hl, _⟩ := g.tup
    exact ev_is (ev_andV e1 fun _ => ev_eqI (ev_lenT e0 hs) (ev_var rfl)) (by simp [isT, isLen, hl])
  | bool b => exact ev_is (ev_andV (b := false) e1 fun z => by simp [isT] at z) (by simp [isT, isLen])
  | int b => exact ev_is (ev_andV (b := false) e1 fun z => by simp [isT] at z) (by simp [isT, isLen])
  | none => exact ev_is (ev_andV (b := false) e1 fun z => by simp [isT] at z) (by simp [isT, isLen])
  | str b => exact ev_is (ev_andV (b := false) e1 fun z => by simp [isT] at z) (by simp [isT, isLen])
  | list b => exact ev_is (ev_andV (b := false) e1 fun z => by simp [isT] at z) (by simp [isT, isLen])
  | dict b => exact ev_is (ev_andV (b := false) e1 fun z => by simp [isT] at z) (by simp [isT, isLen])
theorem ok_tuple_of (T : Txt K mg) : FnOk P w K mg base CX0 1 T.f_tuple_of T.fd_tuple_of ["thing", "many"] (sp_tuple_of T) :=
  T.d_tuple_of.F.ok sc_tuple_of (fun vs H Q E h => len_tuple_of T h) fun cdv A outer s H vs Q E hr h => ⟨t_tuple_of T, by
    exact (pss_one (ps_ret (pe_and (pe_callB call_isi (by rfl) T.m_isinstance (by decide +kernel) (pa_cons (pv 0) (pa_cons (pe_bltn (v := .ty "tuple") (by rfl) T.m_tuple (by decide +kernel) rfl) pa_nil))) (pe_one (pe_cmpR op_eq (pe_callB call_len (by rfl) T.m_len (by decide +kernel) (pa_cons (pv 0) pa_nil)) (pv 1) (nomark _)))))), pure_tuple_of T h⟩

end
end My


set_option maxHeartbeats 1000000
namespace My
open PySem PySem.Spec PyProof.Rows L2 Own LamX
open Evl (Ex RetV)
section
variable {P : Program} {w : World} {K : PySem.W.Frag} {mg : Str → Option Value} {base : Heap}

open Evl
def primeD (d : PyData) : Bool := match d with
  | .int p => decide (2 ≤ p) && decide (p ≤ 1000003) && noDiv p
  | _ => false
def sp_is_prime (T : Txt K mg) : Sp := fun vs H Q _ => ∃ k x d, vs = [x] ∧ Gd K H k x d ∧ RetV (.bl (primeD d)) H Q
theorem len_is_prime (T : Txt K mg) {vs H Q E} (h : sp_is_prime T vs H Q E) : vs.length = 1 := by obtain ⟨_, _, _, rfl, _⟩ := h; rfl
theorem v_is_prime (T : Txt K mg) {H : Hp} {k : Nat} {x : V} {d : PyData} (g : Gd K H k x d) : SpV (sp_is_prime T) [x] H (.bl (primeD d)) := spv fun H1 e Q q E => ⟨k, x, d, rfl, g.ex e, q⟩
def t_is_prime (T : Txt K mg) : TS := (tSeq (tIfS (tNot (tB (tCall (sp_number_within T) [] E0 (tCons (tVar 0) (tCons (tC (.int 2)) (tCons (tC (.int 1000003)) tNil)))))) (tRet (tC (.bl false))) tNext) (tSeq (tIfS (tTest (tOp rLtI (tVar 0) (tC (.int 4)))) (tRet (tC (.bl true))) tNext) (tSeq (tIfS (tTest (tOp rEq (tOp rModI (tVar 0) (tC (.int 2))) (tC (.int 0)))) (tRet (tC (.bl false))) tNext) (tSeq (tAsg (tC (.int 3)) (gName 1)) (tSeq (tWhile (tTest (tOp rLeI (tOp rMulI (tVar 1) (tVar 1)) (tVar 0))) (tSeq (tIfS (tTest (tOp rEq (tOp rModI (tVar 0) (tVar 1)) (tC (.int 0)))) (tRet (tC (.bl false))) tNext) (tAug 1 (tC (.int 2)) (ipI fun i j => i + j)))) (tRet (tC (.bl true))))))))

theorem within_int {d : PyData} {lo hi : Int} (h : within d lo hi = true) : ∃ i, d = .int i ∧ lo ≤ i ∧ i ≤ hi := by
  cases d <;> simp [within] at h
  exact ⟨_, rfl, h.1, h.2⟩
theorem pure_is_prime (T : Txt K mg) {vs H Q} {E : XK} (h : sp_is_prime T vs H Q E) : t_is_prime T { nx := fun _ H' => Q .non H', rt := Q } (L2.start n_is_prime vs) H := by
  obtain ⟨k, x, d, rfl, g, q⟩ := h
  -- if not number_within(p, 2, GREATEST_PRIME)
  refine q_when (et_not (et_B (ev_call (ea_3 (ev_var rfl) ev_c ev_c) (v_number_within T g)))) (fun c H1 e1 => ?_) (fun c H1 e1 => ?_)
  · refine s_ret ev_c fun H2 e2 => ?_
    have z : primeD d = false := by
      have c' : within d 2 1000003 = false := by simpa using c
      cases d <;> simp [primeD, within] at c' ⊢
      intro h1 h2
      exact absurd h2 (by have := c' h1; omega)
    rw [← z]
    exact q H2 (e1.trans e2)
  · obtain ⟨p, rfl, h2, h3⟩ := within_int (by simpa using c : within d 2 1000003 = true)
    have g1 := g.ex e1
    cases g.dp
    have P : primeD (.int p) = noDiv p := by simp [primeD, h2, h3]
    rw [P] at q
    have q1 := fun H2 (e : Ex H1 H2) => q H2 (e1.trans e)
    -- if p < 4
    refine q_when (ev_ltI (ev_var rfl) ev_c) (fun c H2 e2 => ?_) (fun c H2 e2 => ?_)
    · refine s_ret ev_c fun H3 e3 => ?_
      rw [← noDiv_small h2 (of_decide_eq_true c)]
      exact q1 H3 (e2.trans e3)
    · have h4 : 4 ≤ p := by have := of_decide_eq_false c; omega
      -- if p % 2 == 0
      refine q_when (et_eqI (ev_modI (ev_var rfl) ev_c (by decide)) ev_c) (fun c H3 e3 => ?_) (fun c H3 e3 => ?_)
      · refine s_ret ev_c fun H4 e4 => ?_
        rw [← noDiv_even h4 h3 (of_decide_eq_true c)]
        exact q1 H4 ((e2.trans e3).trans e4)
      · have odd : p % 2 ≠ 0 := of_decide_eq_false c
        -- divisor = 3
        refine q_asg ev_c fun H4 e4 => ?_
        have E4 := (e2.trans e3).trans e4
        refine q_while (fun m σ' H' => ∃ v : Int, σ' = [some (.int p), some (.int v)] ∧ Sought p v ∧ v ≤ 1003 ∧ m = (1100 - v).toNat ∧ Ex H1 H') (1100 - 3 : Int).toNat ⟨3, rfl, Sought.start odd, by omega, rfl, E4⟩ ?_
        rintro m σ' H' ⟨v, rfl, s, hv, rfl, e'⟩
        have s3 := s.2.1
        refine ⟨_, ev_leI (ev_mulI (ev_var rfl) (ev_var rfl) (.inl ⟨by omega, by omega⟩)) (ev_var rfl), fun c H5 e5 => ?_, fun c H5 e5 => ?_⟩
        · have le := of_decide_eq_true c
          have small := s.small h3 le
          refine ⟨fun σ' H' => ∃ v' : Int, v' = v + 2 ∧ σ' = [some (.int p), some (.int v')] ∧ Sought p v' ∧ Ex H1 H', ?_, ?_⟩
          · rintro σ2 H2' ⟨v', rfl, rfl, s', e''⟩
            exact ⟨(1100 - (v + 2)).toNat, by omega, v + 2, rfl, s', by omega, rfl, e''⟩
          · refine q_when (et_eqI (ev_modI (ev_var rfl) (ev_var rfl) (by omega)) ev_c) (fun c H6 e6 => ?_) (fun c H6 e6 => ?_)
            · refine s_ret ev_c fun H7 e7 => ?_
              rw [← noDiv_found h3 (by omega) le (of_decide_eq_true c)]
              exact q1 H7 (((e'.trans e5).trans e6).trans e7)
            · exact ⟨_, rfl, v, 2, rfl, rfl, v + 2, rfl, rfl, s.next odd (of_decide_eq_false c), (e'.trans e5).trans e6⟩
        · refine s_ret ev_c fun H6 e6 => ?_
          rw [← s.done h3 (of_decide_eq_false c)]
          exact q1 H6 ((e'.trans e5).trans e6)
theorem ok_is_prime (T : Txt K mg) : FnOk P w K mg base CX0 2 T.f_is_prime T.fd_is_prime ["p"] (sp_is_prime T) :=
  T.d_is_prime.F.ok sc_is_prime (fun vs H Q E h => len_is_prime T h) fun cdv A outer s H vs Q E hr h => ⟨t_is_prime T, by
    exact (pss_cons (ps_if (pt_not (pt_val (pe_call (ok_number_within T) (hr.mono (by decide)) (by rfl) T.d_number_within.g T.d_number_within.F.kp T.d_number_within.b .nil pass0 (pa_cons (pv 0) (pa_cons pe_int (pa_cons (pe_glob (v := .int 1000003) (by rfl) T.v_GREATEST_PRIME ⟨_, rfl⟩) pa_nil)))))) (pss_one (ps_ret pe_bl)) pss_nil) (pss_cons (ps_if (pt_cmpR op_lt (pv 0) pe_int (nomark _)) (pss_one (ps_ret pe_bl)) pss_nil) (pss_cons (ps_if (pt_cmpR op_eq (pe_op op_mod (pv 0) pe_int) pe_int (nomark _)) (pss_one (ps_ret pe_bl)) pss_nil) (pss_cons (ps_set (i := 1) sc_is_prime.nd rfl (Or.inl rfl) pe_int) (pss_cons (ps_while PassesOwn.never (pt_cmpR op_le (pe_op op_mul (pv 1) (pv 1)) (pv 0) (nomark _)) (pss_cons (ps_if (pt_cmpR op_eq (pe_op op_mod (pv 0) (pv 1)) pe_int (nomark _)) (pss_one (ps_ret pe_bl)) pss_nil) (pss_one (ps_aug (i := 1) sc_is_prime.nd rfl (Or.inl rfl) pe_int ip_add)))) (pss_one (ps_ret pe_bl))))))), pure_is_prime T h⟩

def lawPrime (d : PyData) : Bool := within d 5 1000003 && primeD d
end
end My


set_option maxHeartbeats 1000000
namespace My
open PySem PySem.Spec PyProof.Rows L2 Own LamX
open Evl (Ex RetV)
section
variable {P : Program} {w : World} {K : PySem.W.Frag} {mg : Str → Option Value} {base : Heap}

open Evl
def rowD (d : PyData) (n p : Int) : Bool := match d with
  | .tuple xs => decide ((xs.length : Int) = n) && xs.all fun x => within x 0 (p - 1)
  | _ => false
def tableD (d : PyData) (n p : Int) : Bool := match d with
  | .tuple rows => decide (rows.length ≤ 8) && rows.all fun r => rowD r n p
  | _ => false
def sp_numbers_fit (T : Txt K mg) : Sp := fun vs H Q _ => ∃ k x d n p, vs = [x, .int n, .int p] ∧ Gd K H k x d ∧ RetV (.bl (rowD d n p)) H Q
theorem len_numbers_fit (T : Txt K mg) {vs H Q E} (h : sp_numbers_fit T vs H Q E) : vs.length = 3 := by obtain ⟨_, _, _, _, _, rfl, _⟩ := h; rfl
theorem v_numbers_fit (T : Txt K mg) {H : Hp} {k : Nat} {x : V} {d : PyData} {n p : Int} (g : Gd K H k x d) : SpV (sp_numbers_fit T) [x, .int n, .int p] H (.bl (rowD d n p)) := spv fun H1 e Q q E => ⟨k, x, d, n, p, rfl, g.ex e, q⟩
def t_numbers_fit (T : Txt K mg) : TS := (tRet (tAndV (tCall (sp_tuple_of T) [] E0 (tCons (tVar 0) (tCons (tVar 1) tNil))) (tCB (rAll K) (tCons (tLc (iTup K (tVar 0)) (gName 3) tYes (tCall (sp_number_within T) [] E0 (tCons (tVar 3) (tCons (tC (.int 0)) (tCons (tOp rSubI (tVar 2) (tC (.int 1))) tNil)))) [3]) tNil))))

theorem pure_numbers_fit (T : Txt K mg) {vs H Q} {E : XK} (h : sp_numbers_fit T vs H Q E) : t_numbers_fit T { nx := fun _ H' => Q .non H', rt := Q } (L2.start n_numbers_fit vs) H := by
  obtain ⟨k, x, d, n, p, rfl, g, q⟩ := h
  refine s_ret (v := .bl (rowD d n p)) ?_ fun H1 e => q H1 e
  have e1 : Ev (tCall (sp_tuple_of T) [] E0 (tCons (tVar 0) (tCons (tVar 1) tNil))) (L2.start n_numbers_fit [x, .int n, .int p]) H (.bl (isLen d n)) := ev_call (ea_2 (ev_var rfl) (ev_var rfl)) (v_tuple_of T g)
  cases d with
  | tuple ds =>
    obtain ⟨a, xs, j, rfl, rfl, hs, hl, h20, _, _, hx⟩ := g.tup
    refine ev_is (ev_andV (b := ds.all fun d => within d 0 (p - 1)) e1 fun _ => ?_) (by simp [isLen, rowD])
    rw [← all_id]
    refine ev_allB ?_
    rw [← given_bools ds .none, ← hl]
    refine el_lcTp _ _ (ev_var rfl) hs (by omega) (fun x => rfl) (fun i y H1 e hy => et_yes) fun i y H1 e hy _ => ?_
    obtain ⟨d, hd, gd⟩ := hx i y hy
    rw [getD_at hd]
    exact ev_call (ea_3 (ev_var rfl) ev_c (ev_subI (ev_var rfl) ev_c)) (v_number_within T (gd.ex e))
  | bool b => exact ev_is (ev_andV (b := false) e1 fun z => by simp [isLen] at z) (by simp [isLen, rowD])
  | int b => exact ev_is (ev_andV (b := false) e1 fun z => by simp [isLen] at z) (by simp [isLen, rowD])
  | none => exact ev_is (ev_andV (b := false) e1 fun z => by simp [isLen] at z) (by simp [isLen, rowD])
  | str b => exact ev_is (ev_andV (b := false) e1 fun z => by simp [isLen] at z) (by simp [isLen, rowD])
  | list b => exact ev_is (ev_andV (b := false) e1 fun z => by simp [isLen] at z) (by simp [isLen, rowD])
  | dict b => exact ev_is (ev_andV (b := false) e1 fun z => by simp [isLen] at z) (by simp [isLen, rowD])
theorem ok_numbers_fit (T : Txt K mg) : FnOk P w K mg base CX0 2 T.f_numbers_fit T.fd_numbers_fit ["thing", "many", "p"] (sp_numbers_fit T) :=
  T.d_numbers_fit.F.ok sc_numbers_fit (fun vs H Q E h => len_numbers_fit T h) fun cdv A outer s H vs Q E hr h => ⟨t_numbers_fit T, by
    exact (pss_one (ps_ret (pe_and (pe_call (ok_tuple_of T) (hr.mono (by decide)) (by rfl) T.d_tuple_of.g T.d_tuple_of.F.kp T.d_tuple_of.b .nil pass0 (pa_cons (pv 0) (pa_cons (pv 1) pa_nil))) (pe_one (pe_callB (cr_all rfl) (by rfl) T.m_all (by decide +kernel) (pa_cons (pe_lc (own := [("number", 3)]) (g := (gName 3)) (tt := tYes) (te := (tCall (sp_number_within T) [] E0 (tCons (tVar 3) (tCons (tC (.int 0)) (tCons (tOp rSubI (tVar 2) (tC (.int 1))) tNil))))) rfl sc_numbers_fit.nd (pi_tup (pv 0)) (blkOk_by (own := [("number", 3)]) (N := n_numbers_fit) (sc := defScope s_numbers_fit) (by decide +kernel)) (fun _ _ _ _ _ => (pg_name (i := 3) sc_numbers_fit.nd rfl (Or.inl rfl))) (fun _ _ _ _ _ => pts_nil) (fun _ _ _ _ _ => (pe_call (ok_number_within T) (hr.mono (by decide)) (by rfl) T.d_number_within.g T.d_number_within.F.kp T.d_number_within.b .nil pass0 (pa_cons (pv 3) (pa_cons pe_int (pa_cons (pe_op op_sub (pv 2) pe_int) pa_nil)))))) pa_nil)))))), pure_numbers_fit T h⟩

def sp_table_fits (T : Txt K mg) : Sp := fun vs H Q _ => ∃ k x d n p, vs = [x, .int n, .int p] ∧ Gd K H k x d ∧ RetV (.bl (tableD d n p)) H Q
theorem len_table_fits (T : Txt K mg) {vs H Q E} (h : sp_table_fits T vs H Q E) : vs.length = 3 := by obtain ⟨_, _, _, _, _, rfl, _⟩ := h; rfl
theorem v_table_fits (T : Txt K mg) {H : Hp} {k : Nat} {x : V} {d : PyData} {n p : Int} (g : Gd K H k x d) : SpV (sp_table_fits T) [x, .int n, .int p] H (.bl (tableD d n p)) := spv fun H1 e Q q E => ⟨k, x, d, n, p, rfl, g.ex e, q⟩
/-- isinstance(x, tuple) and no more than 8 -/
theorem table_first {d : PyData} {n p : Int} (h : isT d = false) : tableD d n p = false := by cases d <;> simp [isT, tableD] at h ⊢
theorem row_first {d : PyData} {n p : Int} (h : isT d = false) : rowD d n p = false := by cases d <;> simp [isT, rowD] at h ⊢
theorem isT_tuple {d : PyData} (h : isT d = true) : ∃ ds, d = .tuple ds := by cases d <;> simp [isT] at h; exact ⟨_, rfl⟩
def t_table_fits (T : Txt K mg) : TS := (tSeq (tIfS (tOr (tNot (tB (tCB (rIsi K) (tCons (tVar 0) (tCons (tC (.ty "tuple")) tNil))))) (tTest (tOp rGtI (tCB (rLenV K) (tCons (tVar 0) tNil)) (tC (.int 8))))) (tRet (tC (.bl false))) tNext) (tRet (tCB (rAll K) (tCons (tLc (iTup K (tVar 0)) (gName 3) tYes (tCall (sp_numbers_fit T) [] E0 (tCons (tVar 3) (tCons (tVar 1) (tCons (tVar 2) tNil)))) [3]) tNil))))

theorem pure_table_fits (T : Txt K mg) {vs H Q} {E : XK} (h : sp_table_fits T vs H Q E) : t_table_fits T { nx := fun _ H' => Q .non H', rt := Q } (L2.start n_table_fits vs) H := by
  obtain ⟨k, x, d, n, p, rfl, g, q⟩ := h
  have i1 : EvT (tNot (tB (tCB (rIsi K) (tCons (tVar 0) (tCons (tC (.ty "tuple")) tNil))))) (L2.start n_table_fits [x, .int n, .int p]) H (!isT d) := et_not (et_B (ev_isT (ev_var rfl) g))
  cases hT : isT d with
  | false =>
    refine q_when (et_false_or i1 (by rw [hT]; rfl)) (fun c H1 e1 => ?_) (fun c => by cases c)
    refine s_ret ev_c fun H2 e2 => ?_
    rw [← table_first (n := n) (p := p) hT]
    exact q H2 (e1.trans e2)
  | true =>
    obtain ⟨ds, rfl⟩ := isT_tuple hT
    obtain ⟨a, xs, j, rfl, rfl, hs, hl, h20, _, _, hx⟩ := g.tup
    refine q_when (et_or i1 fun _ => ev_gtI (ev_lenT (ev_var rfl) hs) ev_c) (fun c H1 e1 => ?_) (fun c H1 e1 => ?_)
    · refine s_ret ev_c fun H2 e2 => ?_
      have z : tableD (.tuple ds) n p = false := by
        have c' : 8 < (xs.length : Int) := by simpa [isT] using c
        have : ¬ ds.length ≤ 8 := by omega
        simp [tableD, this]
      rw [← z]
      exact q H2 (e1.trans e2)
    · have c' : ds.length ≤ 8 := by
        have c' : (xs.length : Int) ≤ 8 := by simpa [isT] using c
        omega
      have z : tableD (.tuple ds) n p = ds.all fun r => rowD r n p := by simp [tableD, c']
      rw [z] at q
      refine s_ret (v := .bl (ds.all fun r => rowD r n p)) ?_ fun H2 e2 => q H2 (e1.trans e2)
      rw [← all_id]
      refine ev_allB ?_
      rw [← given_bools ds .none, ← hl]
      refine el_lcTp _ _ (ev_var rfl) (ex_t e1 hs) (by omega) (fun x => rfl) (fun i y H1 e hy => et_yes) fun i y H2 e hy _ => ?_
      obtain ⟨d, hd, gd⟩ := hx i y hy
      rw [getD_at hd]
      exact ev_call (ea_3 (ev_var rfl) (ev_var rfl) (ev_var rfl)) (v_numbers_fit T ((gd.ex e1).ex e))
theorem ok_table_fits (T : Txt K mg) : FnOk P w K mg base CX0 3 T.f_table_fits T.fd_table_fits ["table", "n", "p"] (sp_table_fits T) :=
  T.d_table_fits.F.ok sc_table_fits (fun vs H Q E h => len_table_fits T h) fun cdv A outer s H vs Q E hr h => ⟨t_table_fits T, by
    exact (pss_cons (ps_if (PW.pt (pw_or (pt_not (pt_val (pe_callB call_isi (by rfl) T.m_isinstance (by decide +kernel) (pa_cons (pv 0) (pa_cons (pe_bltn (v := .ty "tuple") (by rfl) T.m_tuple (by decide +kernel) rfl) pa_nil))))) (pw_or1 (pt_cmpR op_gt (pe_callB call_len (by rfl) T.m_len (by decide +kernel) (pa_cons (pv 0) pa_nil)) pe_int (nomark _))))) (pss_one (ps_ret pe_bl)) pss_nil) (pss_one (ps_ret (pe_callB (cr_all rfl) (by rfl) T.m_all (by decide +kernel) (pa_cons (pe_lc (own := [("row", 3)]) (g := (gName 3)) (tt := tYes) (te := (tCall (sp_numbers_fit T) [] E0 (tCons (tVar 3) (tCons (tVar 1) (tCons (tVar 2) tNil))))) rfl sc_table_fits.nd (pi_tup (pv 0)) (blkOk_by (own := [("row", 3)]) (N := n_table_fits) (sc := defScope s_table_fits) (by decide +kernel)) (fun _ _ _ _ _ => (pg_name (i := 3) sc_table_fits.nd rfl (Or.inl rfl))) (fun _ _ _ _ _ => pts_nil) (fun _ _ _ _ _ => (pe_call (ok_numbers_fit T) (hr.mono (by decide)) (by rfl) T.d_numbers_fit.g T.d_numbers_fit.F.kp T.d_numbers_fit.b .nil pass0 (pa_cons (pv 3) (pa_cons (pv 1) (pa_cons (pv 2) pa_nil)))))) pa_nil))))), pure_table_fits T h⟩

theorem all_take {α : Type} {ds : List α} {f : α → Bool} {i : Nat} {d : α} (h : ds[i]? = some d) (h1 : (ds.take i).all f = true) (h2 : f d = true) : (ds.take (i + 1)).all f = true := by
  rw [List.take_add_one, h]
  simp [h1, h2]
theorem all_no {α : Type} {ds : List α} {f : α → Bool} {i : Nat} {d : α} (h : ds[i]? = some d) (h2 : f d = false) : ds.all f = false :=
  Bool.eq_false_iff.mpr fun z => by
    have := List.all_eq_true.mp z d (List.mem_of_getElem? h)
    rw [h2] at this
    cases this
end
end My


set_option maxHeartbeats 1000000
namespace My
open PySem PySem.Spec PyProof.Rows L2 Own LamX
open Evl (Ex RetV)
section
variable {P : Program} {w : World} {K : PySem.W.Frag} {mg : Str → Option Value} {base : Heap}

open Evl
def intOf : PyData → Int
  | .int i => i
  | _ => 0
def kOk (k n : PyData) : Bool := within k 1 3 && decide (intOf k ≤ intOf n)
def mOk (m e : PyData) : Bool := within m 0 1 && !(decide (intOf m = 1) && decide (0 < intOf e))
theorem mOk_int {a b : Int} : mOk (.int a) (.int b) = (within (.int a) 0 1 && !(decide (a = 1) && decide (0 < b))) := rfl
def fault7 (p w n k e m t : PyData) : Option Int :=
  if lawPrime p = false then some 0 else if within w 1 16 = false then some 1 else if within n 1 8 = false then some 2 else if kOk k n = false then some 3
  else if within e 0 2 = false then some 4 else if mOk m e = false then some 5 else if tableD t (intOf n) (intOf p) = false then some 6 else none
def fault : PyData → Option Int
  | .tuple [p, w, n, k, e, m, t] => fault7 p w n k e m t
  | _ => some (-1)
theorem fault_no {d : PyData} (h : isLen d 7 = false) : fault d = some (-1) := by
  cases d with
  | tuple ds =>
    match ds, h with
    | [], _ => rfl
    | [_], _ => rfl
    | [_, _], _ => rfl
    | [_, _, _], _ => rfl
    | [_, _, _, _], _ => rfl
    | [_, _, _, _, _], _ => rfl
    | [_, _, _, _, _, _], _ => rfl
    | [_, _, _, _, _, _, _], h => simp [isLen] at h
    | _ :: _ :: _ :: _ :: _ :: _ :: _ :: _ :: _, _ => rfl
  | _ => rfl
theorem seven {d : PyData} (h : isLen d 7 = true) : ∃ p w n k e m t, d = .tuple [p, w, n, k, e, m, t] := by
  cases d with
  | tuple ds =>
    have l : ds.length = 7 := by
      have : (ds.length : Int) = 7 := by simpa [isLen] using h
      omega
    match ds, l with
    | [p, w, n, k, e, m, t], _ => exact ⟨p, w, n, k, e, m, t, rfl⟩
  | _ => simp [isLen] at h
theorem gdAll7 {K : PySem.W.Frag} {H : Hp} {k : Nat} {xs : List V} {p w n l e m t : PyData} (hl : xs.length = 7) (h : ∀ (i : Nat) (x : V), xs[i]? = some x → ∃ d, [p, w, n, l, e, m, t][i]? = some d ∧ Gd K H k x d) :
    ∃ x0 x1 x2 x3 x4 x5 x6, xs = [x0, x1, x2, x3, x4, x5, x6] ∧ Gd K H k x0 p ∧ Gd K H k x1 w ∧ Gd K H k x2 n ∧ Gd K H k x3 l ∧ Gd K H k x4 e ∧ Gd K H k x5 m ∧ Gd K H k x6 t := by
  match xs, hl with
  | [x0, x1, x2, x3, x4, x5, x6], _ =>
    have f : ∀ (i : Nat) (x : V) (d : PyData), [x0, x1, x2, x3, x4, x5, x6][i]? = some x → [p, w, n, l, e, m, t][i]? = some d → Gd K H k x d := fun i x d h1 h2 => by
      obtain ⟨d', h3, g⟩ := h i x h1
      rw [h2] at h3
      injection h3 with h3
      rw [h3]
      exact g
    exact ⟨x0, x1, x2, x3, x4, x5, x6, rfl, f 0 _ _ rfl rfl, f 1 _ _ rfl rfl, f 2 _ _ rfl rfl, f 3 _ _ rfl rfl, f 4 _ _ rfl rfl, f 5 _ _ rfl rfl, f 6 _ _ rfl rfl⟩
theorem lawPrime_int {d : PyData} (h : lawPrime d = true) : ∃ p, d = .int p ∧ 5 ≤ p ∧ p ≤ 1000003 := by
  obtain ⟨h1, _⟩ := Bool.and_eq_true_iff.mp h
  exact within_int h1
/-- the program's two questions of a prime are the law's one -/
theorem prime_five {d : PyData} {i : Int} (h : primeD d = true) (e : d = .int i) : lawPrime d = !decide (i < 5) := by
  subst e
  have h' := h
  simp only [primeD, Bool.and_eq_true, decide_eq_true_eq] at h'
  unfold lawPrime
  rw [h, Bool.and_true]
  by_cases c : i < 5
  · simp [within, c]; omega
  · simp [within, c]; omega
theorem prime_int {d : PyData} (h : primeD d = true) : ∃ i, d = .int i := by cases d <;> simp [primeD] at h; exact ⟨_, rfl⟩
theorem prime_no {d : PyData} (h : primeD d = false) : lawPrime d = false := by simp [lawPrime, h]
theorem kOk_prog {k n : PyData} {i : Int} (e : n = .int i) : within k 1 (if i < 3 then i else 3) = kOk k n := by
  subst e
  cases k <;> simp [within, kOk, intOf]
  rename_i j
  split <;> rename_i c <;> · by_cases h1 : 1 ≤ j <;> by_cases h2 : j ≤ i <;> by_cases h3 : j ≤ 3 <;> simp [h1, h2, h3] <;> omega
def sp_shape_fault (T : Txt K mg) : Sp := fun vs H Q _ => ∃ k x d, vs = [x] ∧ Gd K H k x d ∧ RetV (optV (fault d)) H Q
theorem len_shape_fault (T : Txt K mg) {vs H Q E} (h : sp_shape_fault T vs H Q E) : vs.length = 1 := by obtain ⟨_, _, _, rfl, _⟩ := h; rfl
theorem v_shape_fault (T : Txt K mg) {H : Hp} {k : Nat} {x : V} {d : PyData} (g : Gd K H k x d) : SpV (sp_shape_fault T) [x] H (optV (fault d)) := spv fun H1 e Q q E => ⟨k, x, d, rfl, g.ex e, q⟩
theorem ev_neg1 {σ : L2.St} {H : Hp} : Ev (tUn rNegI (tC (.int 1))) σ H (.int (-1)) := fun H1 e Q q => ⟨1, rfl, q H1 (.refl _)⟩
def t_shape_fault (T : Txt K mg) : TS := (tSeq (tIfS (tNot (tB (tCall (sp_tuple_of T) [] E0 (tCons (tVar 0) (tCons (tC (.int 7)) tNil))))) (tRet (tUn rNegI (tC (.int 1)))) tNext) (tSeq (tAsg (tVar 0) (gTup K 7 (gCons (gName 1) (gCons (gName 2) (gCons (gName 3) (gCons (gName 4) (gCons (gName 5) (gCons (gName 6) (gCons (gName 7) gNil))))))))) (tSeq (tIfS (tOr (tNot (tB (tCall (sp_is_prime T) [] E0 (tCons (tVar 1) tNil)))) (tTest (tOp rLtI (tVar 1) (tC (.int 5))))) (tRet (tC (.int 0))) tNext) (tSeq (tIfS (tNot (tB (tCall (sp_number_within T) [] E0 (tCons (tVar 2) (tCons (tC (.int 1)) (tCons (tC (.int 16)) tNil)))))) (tRet (tC (.int 1))) tNext) (tSeq (tIfS (tNot (tB (tCall (sp_number_within T) [] E0 (tCons (tVar 3) (tCons (tC (.int 1)) (tCons (tC (.int 8)) tNil)))))) (tRet (tC (.int 2))) tNext) (tSeq (tIfS (tNot (tB (tCall (sp_number_within T) [] E0 (tCons (tVar 4) (tCons (tC (.int 1)) (tCons (tCB rMin2 (tCons (tC (.int 3)) (tCons (tVar 3) tNil))) tNil)))))) (tRet (tC (.int 3))) tNext) (tSeq (tIfS (tNot (tB (tCall (sp_number_within T) [] E0 (tCons (tVar 5) (tCons (tC (.int 0)) (tCons (tC (.int 2)) tNil)))))) (tRet (tC (.int 4))) tNext) (tSeq (tIfS (tOr (tNot (tB (tCall (sp_number_within T) [] E0 (tCons (tVar 6) (tCons (tC (.int 0)) (tCons (tC (.int 1)) tNil)))))) (tAnd (tTest (tOp rEq (tVar 6) (tC (.int 1)))) (tTest (tOp rGtI (tVar 5) (tC (.int 0)))))) (tRet (tC (.int 5))) tNext) (tSeq (tIfS (tNot (tB (tCall (sp_table_fits T) [] E0 (tCons (tVar 7) (tCons (tVar 3) (tCons (tVar 1) tNil)))))) (tRet (tC (.int 6))) tNext) (tRet (tC .non)))))))))))

theorem pure_shape_fault (T : Txt K mg) {vs H Q} {E : XK} (h : sp_shape_fault T vs H Q E) : t_shape_fault T { nx := fun _ H' => Q .non H', rt := Q } (L2.start n_shape_fault vs) H := by
  obtain ⟨k, x, d, rfl, g, q⟩ := h
  refine q_when (et_not (et_B (ev_call (ea_2 (ev_var rfl) ev_c) (v_tuple_of T g)))) (fun c H1 e1 => ?_) (fun c H1 e1 => ?_)
  · refine s_ret ev_neg1 fun H2 e2 => ?_
    have z := fault_no (show isLen d 7 = false by simpa using c)
    rw [z] at q
    exact q H2 (e1.trans e2)
  · obtain ⟨p, w', n, l, e, m, t, rfl⟩ := seven (show isLen d 7 = true by simpa using c)
    obtain ⟨a, xs, j, rfl, rfl, hs, hl, _, _, _, hx⟩ := (g.ex e1).tup
    obtain ⟨x0, x1, x2, x3, x4, x5, x6, rfl, g0, g1, g2, g3, g4, g5, g6⟩ := gdAll7 hl hx
    have q1 : RetV (optV (fault7 p w' n l e m t)) H1 Q := fun H2 e2 => q H2 (e1.trans e2)
    refine ⟨.ref a, rfl, a, _, rfl, hs, rfl, x0, _, rfl, x1, _, rfl, x2, _, rfl, x3, _, rfl, x4, _, rfl, x5, _, rfl, x6, _, rfl, rfl, ?_⟩
    -- if not is_prime(p) or p < 5
    have i1 : EvT (tOr (tNot (tB (tCall (sp_is_prime T) [] E0 (tCons (tVar 1) tNil)))) (tTest (tOp rLtI (tVar 1) (tC (.int 5))))) [some (.ref a), some x0, some x1, some x2, some x3, some x4, some x5, some x6] H1 (!lawPrime p) := by
      have i0 : EvT (tNot (tB (tCall (sp_is_prime T) [] E0 (tCons (tVar 1) tNil)))) [some (.ref a), some x0, some x1, some x2, some x3, some x4, some x5, some x6] H1 (!primeD p) := et_not (et_B (ev_call (ea_1 (ev_var rfl)) (v_is_prime T g0)))
      cases hP : primeD p with
      | false => exact et_is (et_false_or i0 (by rw [hP]; rfl)) (by rw [prime_no hP]; rfl)
      | true =>
        obtain ⟨i, rfl⟩ := prime_int hP
        cases g0.dp
        exact et_is (et_or i0 fun _ => ev_ltI (ev_var rfl) ev_c) (by rw [prime_five hP rfl, hP]; simp)
    refine q_when i1 (fun c H2 e2 => ?_) (fun c H2 e2 => ?_)
    · refine s_ret ev_c fun H3 e3 => ?_
      rw [show fault7 p w' n l e m t = some 0 by have c : lawPrime p = false := by simpa using c
                                                 simp [fault7, c]] at q1
      exact q1 H3 (e2.trans e3)
    · have hp : lawPrime p = true := by simpa using c
      obtain ⟨i, rfl, _, _⟩ := lawPrime_int hp
      cases g0.dp
      have q2 : RetV (optV (fault7 (.int i) w' n l e m t)) H2 Q := fun H3 e3 => q1 H3 (e2.trans e3)
      clear q1 q i1
      replace g1 := g1.ex e2; replace g2 := g2.ex e2; replace g3 := g3.ex e2; replace g4 := g4.ex e2; replace g5 := g5.ex e2; replace g6 := g6.ex e2
      -- wide
      refine q_when (et_not (et_B (ev_call (ea_3 (ev_var rfl) ev_c ev_c) (v_number_within T g1)))) (fun c H3 e3 => ?_) (fun c H3 e3 => ?_)
      · refine s_ret ev_c fun H4 e4 => ?_
        rw [show fault7 (.int i) w' n l e m t = some 1 by have c : within w' 1 16 = false := by simpa using c
                                                          simp [fault7, hp, c]] at q2
        exact q2 H4 (e3.trans e4)
      have c1 : within w' 1 16 = true := by simpa using c
      -- n
      refine q_when (et_not (et_B (ev_call (ea_3 (ev_var rfl) ev_c ev_c) (v_number_within T (g2.ex e3))))) (fun c H4 e4 => ?_) (fun c H4 e4 => ?_)
      · refine s_ret ev_c fun H5 e5 => ?_
        rw [show fault7 (.int i) w' n l e m t = some 2 by have c : within n 1 8 = false := by simpa using c
                                                          simp [fault7, hp, c1, c]] at q2
        exact q2 H5 ((e3.trans e4).trans e5)
      have c2 : within n 1 8 = true := by simpa using c
      obtain ⟨ni, rfl, n1, n8⟩ := within_int c2
      cases g2.dp
      have E4 := e3.trans e4
      -- k
      refine q_when (et_not (et_B (ev_call (ea_3 (ev_var rfl) ev_c (ev_min2 ev_c (ev_var rfl))) (v_number_within T (g3.ex E4))))) (fun c H5 e5 => ?_) (fun c H5 e5 => ?_)
      · refine s_ret ev_c fun H6 e6 => ?_
        rw [kOk_prog (n := .int ni) rfl] at c
        rw [show fault7 (.int i) w' (.int ni) l e m t = some 3 by have c : kOk l (.int ni) = false := by simpa using c
                                                                  simp [fault7, hp, c1, c2, c]] at q2
        exact q2 H6 ((E4.trans e5).trans e6)
      rw [kOk_prog (n := .int ni) rfl] at c
      have c3 : kOk l (.int ni) = true := by simpa using c
      have E5 := E4.trans e5
      -- e
      refine q_when (et_not (et_B (ev_call (ea_3 (ev_var rfl) ev_c ev_c) (v_number_within T (g4.ex E5))))) (fun c H6 e6 => ?_) (fun c H6 e6 => ?_)
      · refine s_ret ev_c fun H7 e7 => ?_
        rw [show fault7 (.int i) w' (.int ni) l e m t = some 4 by have c : within e 0 2 = false := by simpa using c
                                                                  simp [fault7, hp, c1, c2, c3, c]] at q2
        exact q2 H7 ((E5.trans e6).trans e7)
      have c4 : within e 0 2 = true := by simpa using c
      obtain ⟨ei, rfl, _, _⟩ := within_int c4
      cases g4.dp
      have E6 := E5.trans e6
      -- manner
      have i5 : EvT (tOr (tNot (tB (tCall (sp_number_within T) [] E0 (tCons (tVar 6) (tCons (tC (.int 0)) (tCons (tC (.int 1)) tNil)))))) (tAnd (tTest (tOp rEq (tVar 6) (tC (.int 1)))) (tTest (tOp rGtI (tVar 5) (tC (.int 0))))))
          [some (.ref a), some (.int i), some x1, some (.int ni), some x3, some (.int ei), some x5, some x6] H6 (!mOk m (.int ei)) := by
        have i0 := et_not (et_B (ev_call (E := E0) (ea_3 (ev_var (σ := [some (.ref a), some (.int i), some x1, some (.int ni), some x3, some (.int ei), some x5, some x6]) (i := 6) rfl) (ev_c (v := .int 0)) (ev_c (v := .int 1))) (v_number_within T (g5.ex E6))))
        cases hM : within m 0 1 with
        | false => exact et_is (et_false_or i0 (by rw [hM]; rfl)) (by simp [mOk, hM])
        | true =>
          obtain ⟨mi, rfl, _, _⟩ := within_int hM
          cases g5.dp
          exact et_is (et_or i0 fun _ => et_and (et_eqI (ev_var rfl) ev_c) fun _ => ev_gtI (ev_var rfl) ev_c) (by rw [mOk_int, hM]; simp)
      refine q_when i5 (fun c H7 e7 => ?_) (fun c H7 e7 => ?_)
      · refine s_ret ev_c fun H8 e8 => ?_
        rw [show fault7 (.int i) w' (.int ni) l (.int ei) m t = some 5 by have c : mOk m (.int ei) = false := by simpa using c
                                                                          simp [fault7, hp, c1, c2, c3, c4, c]] at q2
        exact q2 H8 ((E6.trans e7).trans e8)
      · have c5 : mOk m (.int ei) = true := by simpa using c
        have E7 := E6.trans e7
        -- table
        refine q_when (et_not (et_B (ev_call (ea_3 (ev_var rfl) (ev_var rfl) (ev_var rfl)) (v_table_fits T (g6.ex E7))))) (fun c H8 e8 => ?_) (fun c H8 e8 => ?_)
        · refine s_ret ev_c fun H9 e9 => ?_
          rw [show fault7 (.int i) w' (.int ni) l (.int ei) m t = some 6 by
            have c : tableD t ni i = false := by simpa using c
            simp [fault7, hp, c1, c2, c3, c4, c5, intOf, c]] at q2
          exact q2 H9 ((E7.trans e8).trans e9)
        · refine s_ret ev_c fun H9 e9 => ?_
          rw [show fault7 (.int i) w' (.int ni) l (.int ei) m t = none by
            have c : tableD t ni i = true := by simpa using c
            simp [fault7, hp, c1, c2, c3, c4, c5, intOf, c]] at q2
          exact q2 H9 ((E7.trans e8).trans e9)
theorem ok_shape_fault (T : Txt K mg) : FnOk P w K mg base CX0 4 T.f_shape_fault T.fd_shape_fault ["thing"] (sp_shape_fault T) :=
  T.d_shape_fault.F.ok sc_shape_fault (fun vs H Q E h => len_shape_fault T h) fun cdv A outer s H vs Q E hr h => ⟨t_shape_fault T, by
    exact (pss_cons (ps_if (pt_not (pt_val (pe_call (ok_tuple_of T) (hr.mono (by decide)) (by rfl) T.d_tuple_of.g T.d_tuple_of.F.kp T.d_tuple_of.b .nil pass0 (pa_cons (pv 0) (pa_cons pe_int pa_nil))))) (pss_one (ps_ret (pe_un un_neg pe_int))) pss_nil) (pss_cons (ps_asg (pv 0) (pg_tup rfl (pgs_cons (pg_name (i := 1) sc_shape_fault.nd rfl (Or.inl rfl)) (pgs_cons (pg_name (i := 2) sc_shape_fault.nd rfl (Or.inl rfl)) (pgs_cons (pg_name (i := 3) sc_shape_fault.nd rfl (Or.inl rfl)) (pgs_cons (pg_name (i := 4) sc_shape_fault.nd rfl (Or.inl rfl)) (pgs_cons (pg_name (i := 5) sc_shape_fault.nd rfl (Or.inl rfl)) (pgs_cons (pg_name (i := 6) sc_shape_fault.nd rfl (Or.inl rfl)) (pgs_cons (pg_name (i := 7) sc_shape_fault.nd rfl (Or.inl rfl)) pgs_nil))))))))) (pss_cons (ps_if (PW.pt (pw_or (pt_not (pt_val (pe_call (ok_is_prime T) (hr.mono (by decide)) (by rfl) T.d_is_prime.g T.d_is_prime.F.kp T.d_is_prime.b .nil pass0 (pa_cons (pv 1) pa_nil)))) (pw_or1 (pt_cmpR op_lt (pv 1) pe_int (nomark _))))) (pss_one (ps_ret pe_int)) pss_nil) (pss_cons (ps_if (pt_not (pt_val (pe_call (ok_number_within T) (hr.mono (by decide)) (by rfl) T.d_number_within.g T.d_number_within.F.kp T.d_number_within.b .nil pass0 (pa_cons (pv 2) (pa_cons pe_int (pa_cons pe_int pa_nil)))))) (pss_one (ps_ret pe_int)) pss_nil) (pss_cons (ps_if (pt_not (pt_val (pe_call (ok_number_within T) (hr.mono (by decide)) (by rfl) T.d_number_within.g T.d_number_within.F.kp T.d_number_within.b .nil pass0 (pa_cons (pv 3) (pa_cons pe_int (pa_cons pe_int pa_nil)))))) (pss_one (ps_ret pe_int)) pss_nil) (pss_cons (ps_if (pt_not (pt_val (pe_call (ok_number_within T) (hr.mono (by decide)) (by rfl) T.d_number_within.g T.d_number_within.F.kp T.d_number_within.b .nil pass0 (pa_cons (pv 4) (pa_cons pe_int (pa_cons (pe_callB (call_min2 rfl) (by rfl) T.m_min (by decide +kernel) (pa_cons pe_int (pa_cons (pv 3) pa_nil))) pa_nil)))))) (pss_one (ps_ret pe_int)) pss_nil) (pss_cons (ps_if (pt_not (pt_val (pe_call (ok_number_within T) (hr.mono (by decide)) (by rfl) T.d_number_within.g T.d_number_within.F.kp T.d_number_within.b .nil pass0 (pa_cons (pv 5) (pa_cons pe_int (pa_cons pe_int pa_nil)))))) (pss_one (ps_ret pe_int)) pss_nil) (pss_cons (ps_if (PW.pt (pw_or (pt_not (pt_val (pe_call (ok_number_within T) (hr.mono (by decide)) (by rfl) T.d_number_within.g T.d_number_within.F.kp T.d_number_within.b .nil pass0 (pa_cons (pv 6) (pa_cons pe_int (pa_cons pe_int pa_nil)))))) (pw_or1 (PW.pt (pw_and (pt_cmpR op_eq (pv 6) pe_int (nomark _)) (pw_and1 (pt_cmpR op_gt (pv 5) pe_int (nomark _)))))))) (pss_one (ps_ret pe_int)) pss_nil) (pss_cons (ps_if (pt_not (pt_val (pe_call (ok_table_fits T) (hr.mono (by decide)) (by rfl) T.d_table_fits.g T.d_table_fits.F.kp T.d_table_fits.b .nil pass0 (pa_cons (pv 7) (pa_cons (pv 3) (pa_cons (pv 1) pa_nil)))))) (pss_one (ps_ret pe_int)) pss_nil) (pss_one (ps_ret pe_non))))))))))), pure_shape_fault T h⟩

/-- the errors' __init__ -/
theorem ok_init (T : Txt K mg) : FnOk P w K mg base CX0 1 T.f_init T.fd_init ["self", "what"] (spInit K) :=
  T.d_init.ok sc_init (fun vs H Q E h => by obtain ⟨_, _, _, _, rfl, _⟩ := h; rfl) fun cdv A outer s H vs Q E hr h =>
    ⟨tSeq (tOst K "what" (tVar 0) (tVar 1)) (tOst K "name" (tVar 0) (tNameOf K (tVar 0))), pss_cons (ps_ost (pv 0) (pv 1)) (pss_one (ps_ost (pv 0) (pe_nameOf (pv 0)))), by
    obtain ⟨a, C, v, nm, rfl, o, n, N, ea, q⟩ := h
    refine ⟨v, rfl, .ref a, rfl, a, C, rfl, o, n, .inl ⟨ea, fun dx ndx ne => ?_⟩⟩
    exact ⟨.ref a, rfl, a, C, dx, _, nm, rfl, N, upd_same, by rw [upd_ne ne, upd_same], .ref a, rfl, a, C, rfl, o, N.fn, .inr ⟨dx, _, upd_same, by rw [upd_ne ne, upd_same], by show 1 ≤ 900; decide, q dx ndx ne⟩⟩⟩
def sp_made_shape (T : Txt K mg) : Sp := fun vs H Q E => ∃ k x d, vs = [x] ∧ Gd K H k x d ∧ (fault d = none → ∀ H', Ex H H' → Q x H') ∧
  ∀ f, fault d = some f → ∀ H' dd, Ex H H' → Wh H' dd (.int f) → E (.ref T.c_BadShape) (some dd) H'
theorem len_made_shape (T : Txt K mg) {vs H Q E} (h : sp_made_shape T vs H Q E) : vs.length = 1 := by obtain ⟨_, _, _, rfl, _⟩ := h; rfl
def t_made_shape (T : Txt K mg) (E : XK) : TS := (tSeq (tAsg (tCall (sp_shape_fault T) [] E0 (tCons (tVar 0) tNil)) (gName 1)) (tSeq (tIfS (tTest (tOp rNotN (tVar 1) (tC .non))) (tRaise E (tMkO T.c_BadShape (spInit K) [] (tCons (tVar 1) tNil))) tNext) (tRet (tVar 0))))

/-- an error with its one argument is made -/
theorem made_what {C : Addr} {H1 : Hp} {Q : XK} {v : V} (o : OexC K C) (n : WhC K C)
    (k : ∀ d H2, Ex H1 H2 → Wh H2 d v → Q (.ref C) (some d) H2) :
    ([v] : List V).length ≤ 1000 ∧ ∀ a, H1 a = none → spInit K (.ref a :: ([v] ++ [])) (upd H1 a (exo a C none))
      (fun v H2 => v = .non ∧ ∃ (d : Addr) (fs : List (Str × V)), H2 a = some (exo a C (some d)) ∧ H2 d = some (exd d fs) ∧ H1 d = none ∧ Q (.ref C) (some d) (upd (del H2 a) d (.xd fs))) (fun _ _ _ => False) := by
  obtain ⟨n, nm, N⟩ := n
  refine ⟨by show 1 ≤ 1000; decide, fun a na => ⟨a, C, v, nm, rfl, o, n, N, upd_same, fun dx ndx ne => ⟨rfl, dx, _, by rw [upd_ne (Ne.symm ne), upd_same], upd_same, by rw [upd_ne ne] at ndx; exact ndx, ?_⟩⟩⟩
  rw [upd_ne ne] at ndx
  refine k dx _ (fun b u hb => ?_) ⟨nm, upd_same⟩
  have nb1 : b ≠ dx := ne_of_none hb ndx
  have nb2 : b ≠ a := ne_of_none hb na
  rw [upd_ne nb1, del_ne nb2, upd_ne nb1, upd_ne nb2, upd_ne nb1, upd_ne nb2]
  exact hb
theorem pure_made_shape (T : Txt K mg) {vs H Q} {E : XK} (h : sp_made_shape T vs H Q E) : t_made_shape T E { nx := fun _ H' => Q .non H', rt := Q } (L2.start n_made_shape vs) H := by
  obtain ⟨k, x, d, rfl, g, qv, qe⟩ := h
  refine q_asg (ev_call (ea_1 (ev_var rfl)) (v_shape_fault T g)) fun H1 e1 => ?_
  refine q_when (et_test (ev_notN (ev_var rfl))) (fun c H2 e2 => ?_) (fun c H2 e2 => ?_)
  · rw [optV_non] at c
    cases hf : fault d with
    | none => rw [hf] at c; cases c
    | some f =>
      refine ⟨_, rfl, ?_⟩
      exact made_what T.o_BadShape T.n_BadShape_what fun dd H3 e3 ed => qe f hf H3 dd ((e1.trans e2).trans e3) ed
  · rw [optV_non] at c
    have hf : fault d = none := by
      cases h : fault d with
      | none => rfl
      | some f => rw [h] at c; cases c
    exact s_ret (ev_var rfl) fun H3 e3 => qv hf H3 ((e1.trans e2).trans e3)
theorem ok_made_shape (T : Txt K mg) : FnOk P w K mg base (L2.CX P w) 5 T.f_made_shape T.fd_made_shape ["thing"] (sp_made_shape T) :=
  T.d_made_shape.F.okX sc_made_shape (fun vs H Q E h => len_made_shape T h) fun cdv A outer s H vs Q E hr h => ⟨t_made_shape T E, by
    exact (pss_cons (ps_set (i := 1) sc_made_shape.nd rfl (Or.inl rfl) (pe_call (ok_shape_fault T) (hr.mono (by decide)) (by rfl) T.d_shape_fault.g T.d_shape_fault.F.kp T.d_shape_fault.b .nil pass0 (pa_cons (pv 0) pa_nil))) (pss_cons (ps_if (pt_cmpR op_notN (pv 1) pe_non (nomark _)) (pss_one (ps_raise rfl (takes_of rfl rfl rfl rfl) (pmk_oex T.o_BadShape T.i_BadShape T.ti (ok_init T) (hr.mono (by decide)) T.b_init .nil pass0 (by rfl) T.g_BadShape (pa_cons (pv 1) pa_nil)))) pss_nil) (pss_one (ps_ret (pv 0))))), pure_made_shape T h⟩

end
end My


set_option maxHeartbeats 1000000
namespace My
open PySem PySem.Spec PyProof.Rows L2 Own LamX
open Evl (Ex RetV)
section
variable {P : Program} {w : World} {K : PySem.W.Frag} {mg : Str → Option Value} {base : Heap}

open Evl
/-! ### rising numbers, cells, rows -/
def sp_rising_below (T : Txt K mg) : Sp := fun vs H Q _ => ∃ k x d top, vs = [x, .int top] ∧ Gd K H k x d ∧ RetV (.bl (risingD d top)) H Q
theorem len_rising_below (T : Txt K mg) {vs H Q E} (h : sp_rising_below T vs H Q E) : vs.length = 2 := by obtain ⟨_, _, _, _, rfl, _⟩ := h; rfl
theorem v_rising_below (T : Txt K mg) {H : Hp} {k : Nat} {x : V} {d : PyData} {top : Int} (g : Gd K H k x d) : SpV (sp_rising_below T) [x, .int top] H (.bl (risingD d top)) := spv fun H1 e Q q E => ⟨k, x, d, top, rfl, g.ex e, q⟩
theorem ris_no {d : PyData} {lo top : Int} {ds : List PyData} (h : within d lo (top - 1) = false) : risD lo (d :: ds) top = false := by
  cases d <;> simp [risD, within] at h ⊢
  intro h1 h2
  have := h h1
  omega
theorem ris_yes {i lo top : Int} {ds : List PyData} (h1 : lo ≤ i) (h2 : i ≤ top - 1) : risD lo (.int i :: ds) top = risD (i + 1) ds top := by simp [risD, h1, h2]
theorem drop_at {α : Type} {ds : List α} {i : Nat} {d : α} (h : ds[i]? = some d) : ds.drop i = d :: ds.drop (i + 1) := by
  obtain ⟨hi, e⟩ := List.getElem?_eq_some_iff.mp h
  rw [List.drop_eq_getElem_cons hi, e]
def t_rising_below (T : Txt K mg) : TS := (tSeq (tIfS (tNot (tB (tCB (rIsi K) (tCons (tVar 0) (tCons (tC (.ty "tuple")) tNil))))) (tRet (tC (.bl false))) tNext) (tSeq (tAsg (tC (.int 0)) (gName 2)) (tSeq (tFor (iTup K (tVar 0)) (gName 3) (tSeq (tIfS (tNot (tB (tCall (sp_number_within T) [] E0 (tCons (tVar 3) (tCons (tVar 2) (tCons (tOp rSubI (tVar 1) (tC (.int 1))) tNil)))))) (tRet (tC (.bl false))) tNext) (tAsg (tOp rAddI (tVar 3) (tC (.int 1))) (gName 2)))) (tRet (tC (.bl true))))))

theorem pure_rising_below (T : Txt K mg) {vs H Q} {E : XK} (h : sp_rising_below T vs H Q E) : t_rising_below T { nx := fun _ H' => Q .non H', rt := Q } (L2.start n_rising_below vs) H := by
  obtain ⟨k, x, d, top, rfl, g, q⟩ := h
  refine q_when (et_not (et_B (ev_isT (ev_var rfl) g))) (fun c H1 e1 => ?_) (fun c H1 e1 => ?_)
  · refine s_ret ev_c fun H2 e2 => ?_
    have z : risingD d top = false := by cases d <;> simp [isT] at c <;> rfl
    rw [z] at q
    exact q H2 (e1.trans e2)
  · obtain ⟨ds, rfl⟩ := isT_tuple (by simpa using c : isT d = true)
    obtain ⟨a, xs, j, rfl, rfl, hs, hl, h20, _, _, hx⟩ := g.tup
    refine q_asg ev_c fun H2 e2 => ?_
    refine q_forT (ev_var rfl) (ex_t (e1.trans e2) hs) (fun i σ' H' => ∃ lo u, σ' = [some (.ref a), some (.int top), some (.int lo), u] ∧ risD lo (ds.drop i) top = risD 0 ds top ∧ Ex H H') (fun H3 e3 => ⟨0, none, rfl, rfl, (e1.trans e2).trans e3⟩) (fun i σ' H' _ ⟨_, _, _, _, e⟩ => ex_t e hs) ?_ ?_
    · rintro i y σ' H3 hy ⟨lo, u, rfl, hr, e3⟩
      obtain ⟨d, hd, gd⟩ := hx i y hy
      rw [drop_at hd] at hr
      refine q_when (et_not (et_B (ev_call (ea_3 (ev_var rfl) (ev_var rfl) (ev_subI (ev_var rfl) ev_c)) (v_number_within T (gd.ex e3))))) (fun c H4 e4 => ?_) (fun c H4 e4 => ?_)
      · refine s_ret ev_c fun H5 e5 => ?_
        have z : risingD (.tuple ds) top = false := by show risD 0 ds top = false; rw [← hr]; exact ris_no (by simpa using c)
        rw [z] at q
        exact q H5 ((e3.trans e4).trans e5)
      · obtain ⟨v, rfl, v0, v1⟩ := within_int (by simpa using c : within d lo (top - 1) = true)
        cases gd.dp
        refine s_asg (ev_addI (ev_var rfl) ev_c) fun H5 e5 => ⟨v + 1, _, rfl, ?_, (e3.trans e4).trans e5⟩
        rw [ris_yes v0 v1] at hr
        exact hr
    · rintro σ' H3 ⟨lo, u, rfl, hr, e3⟩
      refine s_ret ev_c fun H4 e4 => ?_
      rw [hl, List.drop_length] at hr
      have z : risingD (.tuple ds) top = true := hr.symm
      rw [z] at q
      exact q H4 (e3.trans e4)
theorem ok_rising_below (T : Txt K mg) : FnOk P w K mg base CX0 2 T.f_rising_below T.fd_rising_below ["thing", "top"] (sp_rising_below T) :=
  T.d_rising_below.F.ok sc_rising_below (fun vs H Q E h => len_rising_below T h) fun cdv A outer s H vs Q E hr h => ⟨t_rising_below T, by
    exact (pss_cons (ps_if (pt_not (pt_val (pe_callB call_isi (by rfl) T.m_isinstance (by decide +kernel) (pa_cons (pv 0) (pa_cons (pe_bltn (v := .ty "tuple") (by rfl) T.m_tuple (by decide +kernel) rfl) pa_nil))))) (pss_one (ps_ret pe_bl)) pss_nil) (pss_cons (ps_set (i := 2) sc_rising_below.nd rfl (Or.inl rfl) pe_int) (pss_cons (ps_for PassesOwn.never rfl (pi_tup (pv 0)) (pg_name (i := 3) sc_rising_below.nd rfl (Or.inl rfl)) (pss_cons (ps_if (pt_not (pt_val (pe_call (ok_number_within T) (hr.mono (by decide)) (by rfl) T.d_number_within.g T.d_number_within.F.kp T.d_number_within.b .nil pass0 (pa_cons (pv 3) (pa_cons (pv 2) (pa_cons (pe_op op_sub (pv 1) pe_int) pa_nil)))))) (pss_one (ps_ret pe_bl)) pss_nil) (pss_one (ps_set (i := 2) sc_rising_below.nd rfl (Or.inl rfl) (pe_op op_add (pv 3) pe_int))))) (pss_one (ps_ret pe_bl))))), pure_rising_below T h⟩

def sp_shelves_of (T : Txt K mg) : Sp := fun vs H Q _ => ∃ sh s, vs = [.ref sh] ∧ Sh K sh s H ∧ RetV (.int (s.c + s.n : Int)) H Q
theorem len_shelves_of (T : Txt K mg) {vs H Q E} (h : sp_shelves_of T vs H Q E) : vs.length = 1 := by obtain ⟨_, _, rfl, _⟩ := h; rfl
theorem v_shelves_of (T : Txt K mg) {H : Hp} {sh : Addr} {s : Shp} (g : Sh K sh s H) : SpV (sp_shelves_of T) [.ref sh] H (.int (s.c + s.n : Int)) := spv fun H1 e Q q E => ⟨sh, s, rfl, g.ex e, q⟩
def t_shelves_of (T : Txt K mg) : TS := (tRet (tOp rAddI (tCB (rLenV K) (tCons (tOp (rIxT K) (tVar 0) (tC (.int 6))) tNil)) (tOp (rIxT K) (tVar 0) (tC (.int 2)))))

theorem pure_shelves_of (T : Txt K mg) {vs H Q} {E : XK} (h : sp_shelves_of T vs H Q E) : t_shelves_of T { nx := fun _ H' => Q .non H', rt := Q } (L2.start n_shelves_of vs) H := by
  obtain ⟨sh, s, rfl, g, q⟩ := h
  exact s_ret (ev_addI (sh_c g (ev_var rfl)) (sh_n g (ev_var rfl))) q
theorem ok_shelves_of (T : Txt K mg) : FnOk P w K mg base CX0 1 T.f_shelves_of T.fd_shelves_of ["shape"] (sp_shelves_of T) :=
  T.d_shelves_of.F.ok sc_shelves_of (fun vs H Q E h => len_shelves_of T h) fun cdv A outer s H vs Q E hr h => ⟨t_shelves_of T, by
    exact (pss_one (ps_ret (pe_op op_add (pe_callB call_len (by rfl) T.m_len (by decide +kernel) (pa_cons (pe_ix ix_tup (pv 0) pe_int (fun _ _ => rfl)) pa_nil)) (pe_ix ix_tup (pv 0) pe_int (fun _ _ => rfl))))), pure_shelves_of T h⟩

def cellsF (w p : Int) : Nat → List PyData → Option Int
  | _, [] => none
  | i, d :: ds => if rowD d w p then cellsF w p (i + 1) ds else some (i : Int)
def rowF (s : Shp) (d : PyData) : Option Int := if isLen d s.n then (match d with | .tuple ds => cellsF s.w s.p 0 ds | _ => none) else some (-1)
theorem isLen_tuple {d : PyData} {n : Int} (h : isLen d n = true) : ∃ ds, d = .tuple ds ∧ (ds.length : Int) = n := by
  cases d <;> simp [isLen] at h
  exact ⟨_, rfl, h⟩
theorem s_raise1 {C : Addr} {te : TE} {σ : L2.St} {H : Hp} {D : Ends} {E : XK} {v : V} (h : Ev te σ H v) (o : OexC K C) (n : WhC K C)
    (k : ∀ dd H', Ex H H' → Wh H' dd v → E (.ref C) (some dd) H') : tRaise E (tMkO C (spInit K) [] (tCons te tNil)) D σ H :=
  h H (.refl H) _ fun H1 e1 => made_what o n fun dd H2 e2 ed => k dd H2 (e1.trans e2) ed
theorem fault_ok {s : Shp} (o : s.Ok) : fault (shD s) = none := by
  have p1 := o.p.1
  have p2 := o.p.2.1
  have := o.w; have := o.n; have := o.k; have := o.e; have := o.m; have := o.c
  have f0 : lawPrime (.int s.p) = true := by
    have h2 : (2 : Int) ≤ s.p := by omega
    simp [lawPrime, within, primeD, p1, p2, h2, o.p.2.2]
  have f6 : tableD (matD s.t) s.n s.p = true := by
    have ht := o.t
    simp only [tableD, matD, Bool.and_eq_true, decide_eq_true_eq, List.length_map, List.all_eq_true]
    refine ⟨o.c, fun d hd => ?_⟩
    obtain ⟨r, hr, rfl⟩ := List.mem_map.mp hd
    have := ht r hr
    simp only [intsD, rowD, Bool.and_eq_true, decide_eq_true_eq, List.length_map, List.all_eq_true]
    refine ⟨by rw [this.1], fun d hd => ?_⟩
    obtain ⟨x, hx, rfl⟩ := List.mem_map.mp hd
    have := this.2 x hx
    simp [within]
    omega
  have f1 : within (.int (s.w : Int)) 1 16 = true := by simp [within]; omega
  have f2 : within (.int (s.n : Int)) 1 8 = true := by simp [within]; omega
  have f3 : kOk (.int (s.k : Int)) (.int (s.n : Int)) = true := by simp [kOk, within, intOf]; omega
  have f4 : within (.int (s.e : Int)) 0 2 = true := by simp [within]; omega
  have f5 : mOk (.int (s.m : Int)) (.int (s.e : Int)) = true := by
    have m2 := o.m.2
    by_cases h : s.m = 1
    · have := m2 h; simp [mOk, within, intOf, h, this]
    · have h1 : s.m = 0 := by omega
      simp [mOk, within, intOf, h1]
  show fault7 _ _ _ _ _ _ _ = none
  simp [fault7, f0, f1, f2, f3, f4, f5, f6, intOf]
def sp_made_lost (T : Txt K mg) : Sp := fun vs H Q E => ∃ sh s k x d, vs = [.ref sh, x] ∧ Sh K sh s H ∧ Gd K H k x d ∧ (risingD d (s.c + s.n) = true → ∀ H', Ex H H' → Q x H') ∧
  (risingD d (s.c + s.n) = false → ∀ H' dd, Ex H H' → Wh H' dd (.int (-1)) → E (.ref T.c_BadShelf) (some dd) H')
theorem len_made_lost (T : Txt K mg) {vs H Q E} (h : sp_made_lost T vs H Q E) : vs.length = 2 := by obtain ⟨_, _, _, _, _, rfl, _⟩ := h; rfl
def t_made_lost (T : Txt K mg) (E : XK) : TS := (tSeq (tIfS (tNot (tB (tCall (sp_rising_below T) [] E0 (tCons (tVar 1) (tCons (tCall (sp_shelves_of T) [] E0 (tCons (tVar 0) tNil)) tNil))))) (tRaise E (tMkO T.c_BadShelf (spInit K) [] (tCons (tUn rNegI (tC (.int 1))) tNil))) tNext) (tRet (tVar 1)))

theorem pure_made_lost (T : Txt K mg) {vs H Q} {E : XK} (h : sp_made_lost T vs H Q E) : t_made_lost T E { nx := fun _ H' => Q .non H', rt := Q } (L2.start n_made_lost vs) H := by
  obtain ⟨sh, s, k, x, d, rfl, S, g, qv, qe⟩ := h
  refine q_when (et_not (et_B (ev_call (ea_2 (ev_var rfl) (ev_call (ea_1 (ev_var rfl)) (v_shelves_of T S))) (v_rising_below T g)))) (fun c H2 e2 => ?_) (fun c H2 e2 => ?_)
  · exact s_raise1 ev_neg1 T.o_BadShelf T.n_BadShelf_what fun dd H4 e4 ed => qe (by simpa using c) H4 dd (e2.trans e4) ed
  · exact s_ret (ev_var rfl) fun H3 e3 => qv (by simpa using c) H3 (e2.trans e3)
theorem ok_made_lost (T : Txt K mg) : FnOk P w K mg base (L2.CX P w) 3 T.f_made_lost T.fd_made_lost ["shape", "thing"] (sp_made_lost T) :=
  T.d_made_lost.F.okX sc_made_lost (fun vs H Q E h => len_made_lost T h) fun cdv A outer s H vs Q E hr h => ⟨t_made_lost T E, by
    exact (pss_cons (ps_if (pt_not (pt_val (pe_call (ok_rising_below T) (hr.mono (by decide)) (by rfl) T.d_rising_below.g T.d_rising_below.F.kp T.d_rising_below.b .nil pass0 (pa_cons (pv 1) (pa_cons (pe_call (ok_shelves_of T) (hr.mono (by decide)) (by rfl) T.d_shelves_of.g T.d_shelves_of.F.kp T.d_shelves_of.b .nil pass0 (pa_cons (pv 0) pa_nil)) pa_nil))))) (pss_one (ps_raise rfl (takes_of rfl rfl rfl rfl) (pmk_oex T.o_BadShelf T.i_BadShelf T.ti (ok_init T) (hr.mono (by decide)) T.b_init .nil pass0 (by rfl) T.g_BadShelf (pa_cons (pe_un un_neg pe_int) pa_nil)))) pss_nil) (pss_one (ps_ret (pv 1)))), pure_made_lost T h⟩

end
end My


set_option maxHeartbeats 1000000
namespace My
open PySem PySem.Spec PyProof.Rows L2 Own LamX
open Evl (Ex RetV)
section
variable {P : Program} {w : World} {K : PySem.W.Frag} {mg : Str → Option Value} {base : Heap}

open Evl
/-! ### kinds of a loss: sums kept, cells lost, splits -/
def keptM (s : Shp) (L : List Nat) : List Nat := (List.range s.c).filter fun j => !decide (j ∈ L)
def lostcM (s : Shp) (L : List Nat) : List Nat := (L.filter fun i => decide (s.c ≤ i)).map (· - s.c)
def splitF (gone : List Nat) (cells : List Nat) : List (List Nat × List Nat) := (partsM (cells.filter fun i => !decide (i ∈ gone))).map fun came => (came, cells.filter fun i => !decide (i ∈ came))
def splitsofM (n : Nat) (gone : List Nat) (r : Nat) : List (List Nat × List Nat) := (RC.combs n r).flatMap (splitF gone)
def splitsM (n : Nat) (gone : List Nat) (k : Nat) : List (List Nat × List Nat) := (List.range (k + 1)).flatMap (splitsofM n gone)
theorem take_fm {α β : Type} {F : α → List β} {l : List α} {i : Nat} {x : α} (h : l[i]? = some x) : (l.take (i + 1)).flatMap F = (l.take i).flatMap F ++ F x := by
  rw [List.take_succ, h, List.flatMap_append]
  simp
theorem fm_len {α β : Type} {F : α → List β} {c : Nat} : ∀ l : List α, (∀ x ∈ l, (F x).length ≤ c) → (l.flatMap F).length ≤ l.length * c
  | [], _ => by simp
  | x :: l, h => by
    have := fm_len l fun y hy => h y (List.mem_cons_of_mem _ hy)
    have := h x List.mem_cons_self
    rw [List.flatMap_cons, List.length_append, List.length_cons, Nat.succ_mul]
    omega
theorem combs_many : ∀ n < 9, ∀ r < 4, (RC.combs n r).length ≤ 56 := by decide +kernel
theorem combs_len' {n r : Nat} (hn : n < 9) (hr : r < 4) : ∀ l ∈ RC.combs n r, l.length = r := fun l h => (RC.combs_len n hn r hr l h).1
theorem splitF_len {gone cells : List Nat} (h : cells.length < 4) : (splitF gone cells).length ≤ 8 := by
  unfold splitF
  rw [List.length_map, partsM_len _ _ rfl]
  have : (cells.filter fun i => !decide (i ∈ gone)).length ≤ cells.length := List.length_filter_le _ _
  exact Nat.le_trans (Nat.pow_le_pow_right (by decide) (show _ ≤ 3 by omega)) (by decide)
def sp_kept_sums (T : Txt K mg) : Sp := fun vs H Q _ => ∃ sh s lo L, vs = [.ref sh, .ref lo] ∧ Sh K sh s H ∧ s.Ok ∧ SqT K H lo (ofN L) ∧ ∀ p H', H p = none → Ex H H' → H' p = some (.lst (ofN (keptM s L))) → Q (.ref p) H'
theorem len_kept_sums (T : Txt K mg) {vs H Q E} (h : sp_kept_sums T vs H Q E) : vs.length = 2 := by obtain ⟨_, _, _, _, rfl, _⟩ := h; rfl
theorem v_kept_sums (T : Txt K mg) {H : Hp} {sh lo : Addr} {s : Shp} {L : List Nat} (S : Sh K sh s H) (o : s.Ok) (h : SqT K H lo (ofN L)) : SpL (sp_kept_sums T) [.ref sh, .ref lo] H (ofN (keptM s L)) := fun H1 u Q q E => ⟨sh, s, lo, L, rfl, S.ex u, o, ex_t u h, q⟩
def t_kept_sums (T : Txt K mg) : TS := (tRet (tLc (iRng1 (tCons (tCB (rLenV K) (tCons (tOp (rIxT K) (tVar 0) (tC (.int 6))) tNil)) tNil)) (gName 2) (tTest (tOp (rIn K true) (tVar 2) (tVar 1))) (tVar 2) [2]))

theorem pure_kept_sums (T : Txt K mg) {vs H Q} {E : XK} (h : sp_kept_sums T vs H Q E) : t_kept_sums T { nx := fun _ H' => Q .non H', rt := Q } (L2.start n_kept_sums vs) H := by
  obtain ⟨sh, s, lo, L, rfl, S, o, hl, q⟩ := h
  have c8 : s.c ≤ 8 := o.c
  refine s_retL (xs := ofN (keptM s L)) ?_ q
  exact el_lcR1 (fun i => !decide (i ∈ L)) (fun i => V.int (i : Int)) (ea_1 (sh_c S (ev_var rfl))) ⟨by omega, by omega⟩ (fun x => rfl) (fun i H1 u hi => et_notInT (ev_var rfl) (ev_var rfl) (ex_t u hl)) (fun i H1 u hi _ => ev_var rfl)
theorem ok_kept_sums (T : Txt K mg) : FnOk P w K mg base CX0 1 T.f_kept_sums T.fd_kept_sums ["shape", "lost"] (sp_kept_sums T) :=
  T.d_kept_sums.F.ok sc_kept_sums (fun vs H Q E h => len_kept_sums T h) fun cdv A outer s H vs Q E hr h => ⟨t_kept_sums T, by
    exact (pss_one (ps_ret (pe_lc (own := [("shelf", 2)]) (g := (gName 2)) (tt := (tTest (tOp (rIn K true) (tVar 2) (tVar 1)))) (te := (tVar 2)) rfl sc_kept_sums.nd (pi_range1 (by rfl) T.m_range (pa_cons (pe_callB call_len (by rfl) T.m_len (by decide +kernel) (pa_cons (pe_ix ix_tup (pv 0) pe_int (fun _ _ => rfl)) pa_nil)) pa_nil)) (blkOk_by (own := [("shelf", 2)]) (N := n_kept_sums) (sc := defScope s_kept_sums) (by decide +kernel)) (fun _ _ _ _ _ => (pg_name (i := 2) sc_kept_sums.nd rfl (Or.inl rfl))) (fun _ _ _ _ _ => pts_one (pt_cmpR op_notIn_seq (pv 2) (pv 1) (by rfl))) (fun _ _ _ _ _ => (pv 2))))), pure_kept_sums T h⟩

def sp_lost_cells (T : Txt K mg) : Sp := fun vs H Q _ => ∃ sh s lo L, vs = [.ref sh, .ref lo] ∧ Sh K sh s H ∧ SqT K H lo (ofN L) ∧ L.length ≤ 40000 ∧ ∀ p H', H p = none → Ex H H' → H' p = some (.lst (ofN (lostcM s L))) → Q (.ref p) H'
theorem len_lost_cells (T : Txt K mg) {vs H Q E} (h : sp_lost_cells T vs H Q E) : vs.length = 2 := by obtain ⟨_, _, _, _, rfl, _⟩ := h; rfl
theorem v_lost_cells (T : Txt K mg) {H : Hp} {sh lo : Addr} {s : Shp} {L : List Nat} (S : Sh K sh s H) (h : SqT K H lo (ofN L)) (hl : L.length ≤ 40000) : SpL (sp_lost_cells T) [.ref sh, .ref lo] H (ofN (lostcM s L)) := fun H1 u Q q E => ⟨sh, s, lo, L, rfl, S.ex u, ex_t u h, hl, q⟩
def t_lost_cells (T : Txt K mg) : TS := (tSeq (tAsg (tCB (rLenV K) (tCons (tOp (rIxT K) (tVar 0) (tC (.int 6))) tNil)) (gName 2)) (tRet (tLc (iTup K (tVar 1)) (gName 3) (tTest (tOp rGeI (tVar 3) (tVar 2))) (tOp rSubI (tVar 3) (tVar 2)) [3])))

theorem pure_lost_cells (T : Txt K mg) {vs H Q} {E : XK} (h : sp_lost_cells T vs H Q E) : t_lost_cells T { nx := fun _ H' => Q .non H', rt := Q } (L2.start n_lost_cells vs) H := by
  obtain ⟨sh, s, lo, L, rfl, S, hl, hz, q⟩ := h
  refine q_asg (sh_c S (ev_var rfl)) fun H1 u1 => ?_
  have e : ofN (lostcM s L) = given (ofN L).length (fun i => decide (s.c ≤ L.getD i 0)) (fun i => V.int (((L.getD i 0 : Nat) : Int) - (s.c : Int))) := by
    have el : (ofN L).length = L.length := by unfold ofN; rw [List.length_map]
    rw [el, given_at (fun n => decide (s.c ≤ n)) (fun n => (n : Int) - (s.c : Int)) L]
    unfold ofN lostcM
    rw [List.map_map]
    refine List.map_congr_left fun n hn => ?_
    have := of_decide_eq_true (List.mem_filter.mp hn).2
    show V.int ((n - s.c : Nat) : Int) = _
    congr 1
    omega
  refine s_retL (xs := ofN (lostcM s L)) ?_ fun p H2 np u2 hp => q p H2 (fresh_back u1 np) (u1.trans u2) hp
  rw [e]
  refine el_lcTp (K := K) _ _ (ev_var rfl) (ex_t u1 hl) (by unfold ofN; rw [List.length_map]; exact hz) (fun x => rfl) (fun i x H2 u2 hx => ?_) (fun i x H2 u2 hx _ => ?_)
  · obtain ⟨rfl, _⟩ := ofN_at hx
    have z := ev_geV (ta := tVar 3) (tb := tVar 2) (σ := ((wipe [some (.ref sh), some (.ref lo), some (.int (s.c : Int)), none] [3]).set 3 (some (.int ((L.getD i 0 : Nat) : Int))))) (H := H2) (ev_var rfl) (ev_var rfl)
    have zz := et_test z
    rwa [show decide (((L.getD i 0 : Nat) : Int) ≥ (s.c : Int)) = decide (s.c ≤ L.getD i 0) from by simp] at zz
  · obtain ⟨rfl, _⟩ := ofN_at hx
    exact ev_subI (ev_var rfl) (ev_var rfl)
theorem ok_lost_cells (T : Txt K mg) : FnOk P w K mg base CX0 1 T.f_lost_cells T.fd_lost_cells ["shape", "lost"] (sp_lost_cells T) :=
  T.d_lost_cells.F.ok sc_lost_cells (fun vs H Q E h => len_lost_cells T h) fun cdv A outer s H vs Q E hr h => ⟨t_lost_cells T, by
    exact (pss_cons (ps_set (i := 2) sc_lost_cells.nd rfl (Or.inr rfl) (pe_callB call_len (by rfl) T.m_len (by decide +kernel) (pa_cons (pe_ix ix_tup (pv 0) pe_int (fun _ _ => rfl)) pa_nil))) (pss_one (ps_ret (pe_lc (own := [("shelf", 3)]) (g := (gName 3)) (tt := (tTest (tOp rGeI (tVar 3) (tVar 2)))) (te := (tOp rSubI (tVar 3) (tVar 2))) rfl sc_lost_cells.nd (pi_tup (pv 1)) (blkOk_by (own := [("shelf", 3)]) (N := n_lost_cells) (sc := defScope s_lost_cells) (by decide +kernel)) (fun _ _ _ _ _ => (pg_name (i := 3) sc_lost_cells.nd rfl (Or.inl rfl))) (fun _ _ _ _ _ => pts_one (pt_cmpR op_ge (pv 3) (pv 2) (nomark _))) (fun _ _ _ _ _ => (pe_op op_sub (pv 3) (pv 2))))))), pure_lost_cells T h⟩

def sp_parts_of (T : Txt K mg) : Sp := fun vs H Q _ => ∃ b ns, vs = [.ref b] ∧ SqL K H b (ofN ns) ∧ Nats 8 ns ∧ ∀ p H', H p = none → Ex H H' → LD K 1 ((partsM ns).map D1) p H' → Q (.ref p) H'
theorem len_parts_of (T : Txt K mg) {vs H Q E} (h : sp_parts_of T vs H Q E) : vs.length = 1 := by obtain ⟨_, _, rfl, _⟩ := h; rfl
theorem v_parts_of (T : Txt K mg) {H : Hp} {b : Addr} {ns : List Nat} (h : SqL K H b (ofN ns)) (hn : Nats 8 ns) : SpN (sp_parts_of T) [.ref b] H (LD K 1 ((partsM ns).map D1)) := fun H1 u Q q E => ⟨b, ns, rfl, ex_l u h, hn, q⟩
def t_parts_of (T : Txt K mg) : TS := (tSeq (tAsg (tLst (tCons (tTup tNil) tNil)) (gName 1)) (tSeq (tFor (iList K (tVar 0)) (gName 2) (tAsg (tOp rCat (tVar 1) (tLc (iList K (tVar 1)) (gName 3) tYes (tOp (rCatA K) (tVar 3) (tTup (tCons (tVar 2) tNil))) [3])) (gName 1))) (tRet (tVar 1))))

theorem pure_parts_of (T : Txt K mg) {vs H Q} {E : XK} (h : sp_parts_of T vs H Q E) : t_parts_of T { nx := fun _ H' => Q .non H', rt := Q } (L2.start n_parts_of vs) H := by
  obtain ⟨b, ns, rfl, hb, hns, q⟩ := h
  obtain ⟨hl, hm⟩ := hns
  have len : (ofN ns).length = ns.length := by unfold ofN; rw [List.length_map]
  refine q_setN (en_oneD (K := K) (ex_D1 (m := 8) (l := []) exT_0 ⟨Nat.zero_le _, by simp⟩ (by decide))) fun p H1 np u1 hp => ?_
  refine q_forLn (K := K) (xs := ofN ns) (ev_var rfl) (ex_l u1 hb) (fun i σ' H' => ∃ p u, σ' = [some (.ref b), some (.ref p), u, none] ∧ Ex H H' ∧ H p = none ∧ LD K 1 ((partsM (ns.take i)).map D1) p H') (fun H2 u2 => ⟨p, none, rfl, u1.trans u2, np, hp.ex u2⟩) (fun i σ' H' _ ⟨p, u, _, e, _⟩ => ex_l e hb) ?_ ?_
  · rintro i x σ' H' hx ⟨p, u, rfl, e, np, hp⟩
    obtain ⟨rfl, hi⟩ := ofN_at hx
    have hn : ns[i]? = some (ns.getD i 0) := by rw [List.getElem?_eq_getElem hi]; simp [hi]
    generalize ns.getD i 0 = n at hn ⊢
    have tl : (ns.take i).length = i := by rw [List.length_take]; omega
    have ll : (partsM (ns.take i)).length = 2 ^ i := partsM_len i _ tl
    have le : 2 ^ i ≤ 2 ^ 8 := Nat.pow_le_pow_right (by decide) (by omega)
    refine s_setN (en_catD (ev_var rfl) hp (en_lcD (k0 := 1) (k := 1) (es := (partsM (ns.take i)).map fun l => D1 (l ++ [n])) (ev_var rfl) hp (by rw [List.length_map]; omega) (by simp) (fun x => rfl) ?_) (by simp; omega)) fun p2 H2 np2 u2 h2 => ⟨p2, _, rfl, e.trans u2, fresh_back e np2, ?_⟩
    · intro m x d H3 u3 hd gx
      rw [List.getElem?_map] at hd
      obtain ⟨l, hlm, rfl⟩ : ∃ l, (partsM (ns.take i))[m]? = some l ∧ d = D1 l := by
        cases c : (partsM (ns.take i))[m]? with
        | none => rw [c] at hd; cases hd
        | some l => rw [c] at hd; exact ⟨l, rfl, (Option.some.inj hd).symm⟩
      obtain ⟨a, rfl, ha, _⟩ := gd_D1_of gx
      have sub := partsM_sub i _ tl l (List.mem_of_getElem? hlm)
      have sl := sub.length_le
      refine ex_imp (exT_cat (ys := [V.int (n : Int)]) (exT_v rfl ha) (exT_1 (ev_var rfl)) (by unfold ofN; rw [List.length_map]; show l.length + 1 ≤ 1000; omega)) fun v H4 ⟨b', ev, hb'⟩ => ⟨D1 (l ++ [n]), by rw [List.getElem?_map, hlm]; rfl, ?_⟩
      subst ev
      have z : ofN l ++ [V.int (n : Int)] = ofN (l ++ [n]) := by unfold ofN; rw [List.map_append]; rfl
      rw [z] at hb'
      refine gd_D1 (m := 9) hb' ⟨by rw [List.length_append]; show l.length + 1 ≤ 9; omega, fun y hy => ?_⟩ (by decide)
      rcases List.mem_append.mp hy with w | w
      · exact hm y (List.mem_of_mem_take (sub.subset w))
      · rw [List.mem_singleton.mp w]; exact hm n (List.mem_of_getElem? hn)
    · rw [partsM_take hn]
      unfold partStep
      rw [List.map_append, List.map_map]
      exact h2
  · rintro σ' H' ⟨p, u, rfl, e, np, hp⟩
    rw [len, List.take_length] at hp
    exact s_ret (ev_var rfl) fun H2 e2 => q p H2 np (e.trans e2) (hp.ex e2)
theorem ok_parts_of (T : Txt K mg) : FnOk P w K mg base CX0 1 T.f_parts_of T.fd_parts_of ["numbers"] (sp_parts_of T) :=
  T.d_parts_of.F.ok sc_parts_of (fun vs H Q E h => len_parts_of T h) fun cdv A outer s H vs Q E hr h => ⟨t_parts_of T, by
    exact (pss_cons (ps_set (i := 1) sc_parts_of.nd rfl (Or.inl rfl) (pe_lst (pa_cons (pe_tup pa_nil) pa_nil))) (pss_cons (ps_for PassesOwn.never rfl (pi_list (pv 0)) (pg_name (i := 2) sc_parts_of.nd rfl (Or.inr rfl)) (pss_one (ps_set (i := 1) sc_parts_of.nd rfl (Or.inl rfl) (pe_op op_cat (pv 1) (pe_lc (own := [("part", 3)]) (g := (gName 3)) (tt := tYes) (te := (tOp (rCatA K) (tVar 3) (tTup (tCons (tVar 2) tNil)))) rfl sc_parts_of.nd (pi_list (pv 1)) (blkOk_by (own := [("part", 3)]) (N := n_parts_of) (sc := defScope s_parts_of) (by decide +kernel)) (fun _ _ _ _ _ => (pg_name (i := 3) sc_parts_of.nd rfl (Or.inl rfl))) (fun _ _ _ _ _ => pts_nil) (fun _ _ _ _ _ => (pe_op op_catA (pv 3) (pe_tup (pa_cons (pv 2) pa_nil))))))))) (pss_one (ps_ret (pv 1))))), pure_parts_of T h⟩

def sp_splits_of (T : Txt K mg) : Sp := fun vs H Q _ => ∃ sh s lo L, ∃ r : Nat, vs = [.ref sh, .ref lo, .int (r : Int)] ∧ Sh K sh s H ∧ s.Ok ∧ SqT K H lo (ofN L) ∧ L.length ≤ 40000 ∧ r < 4 ∧ ∀ p H', H p = none → Ex H H' → LD K 2 ((splitsofM s.n (lostcM s L) r).map D2) p H' → Q (.ref p) H'
theorem len_splits_of (T : Txt K mg) {vs H Q E} (h : sp_splits_of T vs H Q E) : vs.length = 3 := by obtain ⟨_, _, _, _, _, rfl, _⟩ := h; rfl
theorem v_splits_of (T : Txt K mg) {H : Hp} {sh lo : Addr} {s : Shp} {L : List Nat} {r : Nat} (S : Sh K sh s H) (o : s.Ok) (h : SqT K H lo (ofN L)) (hl : L.length ≤ 40000) (hr : r < 4) : SpN (sp_splits_of T) [.ref sh, .ref lo, .int (r : Int)] H (LD K 2 ((splitsofM s.n (lostcM s L) r).map D2)) := fun H1 u Q q E => ⟨sh, s, lo, L, r, rfl, S.ex u, o, ex_t u h, hl, hr, q⟩
def t_splits_of (T : Txt K mg) : TS := (tSeq (tAsg (tCall (sp_lost_cells T) [] E0 (tCons (tVar 0) (tCons (tVar 1) tNil))) (gName 3)) (tSeq (tAsg (tLst tNil) (gName 4)) (tSeq (tFor (RC.iComb (tOp (rIxT K) (tVar 0) (tC (.int 2))) (tVar 2)) (gName 5) (tFor (iList K (tCall (sp_parts_of T) [] E0 (tCons (tLc (iTup K (tVar 5)) (gName 7) (tTest (tOp (rIn K true) (tVar 7) (tVar 3))) (tVar 7) [7]) tNil))) (gName 6) (tDrop (tBM K "list" rAppend (tVar 4) (tCons (tTup (tCons (tVar 6) (tCons (tCB (rTupOf K) (tCons (tLc (iTup K (tVar 5)) (gName 7) (tTest (tOp (rIn K true) (tVar 7) (tVar 6))) (tVar 7) [7]) tNil)) tNil))) tNil))))) (tRet (tVar 4)))))

theorem pure_splits_of (T : Txt K mg) {vs H Q} {E : XK} (h : sp_splits_of T vs H Q E) : t_splits_of T { nx := fun _ H' => Q .non H', rt := Q } (L2.start n_splits_of vs) H := by
  obtain ⟨sh, s, lo, L, r, rfl, S, o, hlo, hL, hr, q⟩ := h
  have n8 := o.n.2
  have hn9 : s.n < 9 := by omega
  refine q_asgL (el_call (dvs := []) (ea_2 (ev_var rfl) (ev_var rfl)) (v_lost_cells T S hlo hL)) fun g H1 ng u1 hg => ?_
  refine q_setN (en_nilD (K := K) (k := 2)) fun f H2 nf u2 hf => ?_
  have E2 := u1.trans u2
  have gf : g ≠ f := fun z => by rw [z, nf] at hg; cases hg
  have hg2 := u2 _ _ hg
  obtain ⟨fv, hfv, _⟩ := id hf
  refine q_forC (K := K) (sh_n (S.ex E2) (ev_var rfl)) (ev_var rfl) hn9 hr (fun i σ' H' => ∃ u5 u6, σ' = [some (.ref sh), some (.ref lo), some (.int (r : Int)), some (.ref g), some (.ref f), u5, u6, none] ∧ But f H2 H' ∧ LD K 2 ((((RC.combs s.n r).take i).flatMap (splitF (lostcM s L))).map D2) f H')
    (fun H3 u3 => ⟨none, none, rfl, But.ex u3, hf.ex u3⟩) ?_ ?_
  · rintro i l Tc σ' H' H3 hl ⟨u5, u6, rfl, b2, hD⟩ u3 hT
    have b3 := b2.trans (But.ex u3)
    have hD3 := hD.ex u3
    obtain ⟨vs3, hv3, _⟩ := id hD3
    obtain ⟨lr, ln⟩ := RC.comb_at hn9 hr hl
    have hg3 := b3 g _ gf hg2
    have av3 : (l.filter fun i => !decide (i ∈ lostcM s L)).length ≤ l.length := List.length_filter_le _ _
    have nav : Nats 8 (l.filter fun i => !decide (i ∈ lostcM s L)) := ⟨by omega, fun y hy => by have := ln y (List.mem_filter.mp hy).1; omega⟩
    have pre : (((RC.combs s.n r).take i).flatMap (splitF (lostcM s L))).length ≤ 448 := by
      have := fm_len (F := splitF (lostcM s L)) (c := 8) ((RC.combs s.n r).take i) fun x hx => splitF_len (by rw [(combs_len' hn9 hr x (List.mem_of_mem_take hx))]; exact hr)
      have c56 := combs_many s.n hn9 r hr
      rw [List.length_take] at this
      omega
    refine s_forD (K := K) (k := 1) (f := f) (en_callL (el_outL (K := K) (ev_var rfl) hT (by omega) (fun x => rfl) (fun x => rfl) (fun x H4 u4 => ev_var rfl) (sq_of hg3)) (fun b H4 u4 hb => v_parts_of T (sq_of hb) nav)) hv3
      (fun HL m σ'' H'' => ∃ u6, σ'' = [some (.ref sh), some (.ref lo), some (.int (r : Int)), some (.ref g), some (.ref f), some (.ref Tc), u6, none] ∧ But f H3 HL ∧ But f HL H'' ∧
        LD K 2 (((((RC.combs s.n r).take i).flatMap (splitF (lostcM s L))) ++ (splitF (lostcM s L) l).take m).map D2) f H'')
      (fun HL u4 => ⟨u6, rfl, But.ex u4, But.refl _ _, by rw [List.take_zero, List.append_nil]; exact hD3.ex u4⟩) (fun HL m σ'' H'' ⟨_, _, _, b, _⟩ => b) ?_ ?_
    · rintro HL m d x σ'' H'' u4 hd gx ⟨u6, rfl, b4, b5, hD5⟩
      rw [List.getElem?_map] at hd
      obtain ⟨came, hcm, rfl⟩ : ∃ came, (partsM (l.filter fun i => !decide (i ∈ lostcM s L)))[m]? = some came ∧ d = D1 came := by
        cases c : (partsM (l.filter fun i => !decide (i ∈ lostcM s L)))[m]? with
        | none => rw [c] at hd; cases hd
        | some l => rw [c] at hd; exact ⟨l, rfl, (Option.some.inj hd).symm⟩
      obtain ⟨ca, rfl, hca, _⟩ := gd_D1_of gx
      have hT5 : SqT K H'' Tc (ofN l) := (Kp.trans (b4.kp hv3) (b5.kp (u4 _ _ hv3))).sqT hT
      have rest3 : (l.filter fun i => !decide (i ∈ came)).length ≤ l.length := List.length_filter_le _ _
      refine s_appD (K := K) hD5 rfl (ex_pairD (ex_vD rfl gx) (ex_D1 (m := 8) (ex_tupL (K := K) (el_outT (K := K) (ev_var rfl) hT5 (by omega) (fun x => rfl) (fun x => rfl) (fun x H6 u6 => ev_var rfl) hca)) ⟨by omega, fun y hy => by have := ln y (List.mem_filter.mp hy).1; omega⟩ (by decide))) ?_ fun H6 b6 h6 => ⟨_, rfl, b4, b5.trans b6, ?_⟩
      · have := splitF_len (gone := lostcM s L) (cells := l) (by omega)
        rw [List.length_map, List.length_append, List.length_take]
        omega
      · have hs : (splitF (lostcM s L) l)[m]? = some (came, l.filter fun i => !decide (i ∈ came)) := by
          unfold splitF
          rw [List.getElem?_map, hcm]
          rfl
        have z : ((((RC.combs s.n r).take i).flatMap (splitF (lostcM s L))) ++ (splitF (lostcM s L) l).take (m + 1)).map D2 = ((((RC.combs s.n r).take i).flatMap (splitF (lostcM s L))) ++ (splitF (lostcM s L) l).take m).map D2 ++ [.tuple [D1 came, D1 (l.filter fun i => !decide (i ∈ came))]] := by
          rw [List.take_succ, hs, List.map_append, List.map_append, List.map_append, List.append_assoc]
          rfl
        rw [z]
        exact h6
    · rintro HL σ'' H'' u4 ⟨u6, rfl, b4, b5, hD5⟩
      refine ⟨_, _, rfl, (b3.trans b4).trans b5, ?_⟩
      rw [take_fm hl]
      have e : ((partsM (l.filter fun i => !decide (i ∈ lostcM s L))).map D1).length = (splitF (lostcM s L) l).length := by unfold splitF; rw [List.length_map, List.length_map]
      rw [e, List.take_length] at hD5
      exact hD5
  · rintro σ' H' ⟨u5, u6, rfl, b2, hD⟩
    rw [List.take_length] at hD
    have hf0 := fresh_back u1 nf
    have E3 : Ex H H' := fun b o e => b2 b o (fun z => by rw [z, hf0] at e; cases e) (E2 b o e)
    exact s_ret (ev_var rfl) fun H3 e3 => q f H3 hf0 (E3.trans e3) (hD.ex e3)
theorem ok_splits_of (T : Txt K mg) : FnOk P w K mg base CX0 2 T.f_splits_of T.fd_splits_of ["shape", "lost", "size"] (sp_splits_of T) :=
  T.d_splits_of.F.ok sc_splits_of (fun vs H Q E h => len_splits_of T h) fun cdv A outer s H vs Q E hr h => ⟨t_splits_of T, by
    exact (pss_cons (ps_set (i := 3) sc_splits_of.nd rfl (Or.inr rfl) (pe_call (ok_lost_cells T) (hr.mono (by decide)) (by rfl) T.d_lost_cells.g T.d_lost_cells.F.kp T.d_lost_cells.b .nil pass0 (pa_cons (pv 0) (pa_cons (pv 1) pa_nil)))) (pss_cons (ps_set (i := 4) sc_splits_of.nd rfl (Or.inl rfl) (pe_lst pa_nil)) (pss_cons (ps_for PassesOwn.never rfl (RC.pi_comb (by rfl) (by rfl) T.i_combinations (by rfl) T.m_range (pe_ix ix_tup (pv 0) pe_int (fun _ _ => rfl)) (pv 2)) (pg_name (i := 5) sc_splits_of.nd rfl (Or.inl rfl)) (pss_one (ps_for PassesOwn.never rfl (pi_list (pe_call (ok_parts_of T) (hr.mono (by decide)) (by rfl) T.d_parts_of.g T.d_parts_of.F.kp T.d_parts_of.b .nil pass0 (pa_cons (pe_lc (own := [("x", 7)]) (g := (gName 7)) (tt := (tTest (tOp (rIn K true) (tVar 7) (tVar 3)))) (te := (tVar 7)) rfl sc_splits_of.nd (pi_tup (pv 5)) (blkOk_by (own := [("x", 7)]) (N := n_splits_of) (sc := defScope s_splits_of) (by decide +kernel)) (fun _ _ _ _ _ => (pg_name (i := 7) sc_splits_of.nd rfl (Or.inl rfl))) (fun _ _ _ _ _ => pts_one (pt_cmpR op_notIn_seq (pv 7) (pv 3) (by rfl))) (fun _ _ _ _ _ => (pv 7))) pa_nil))) (pg_name (i := 6) sc_splits_of.nd rfl (Or.inr rfl)) (pss_one (ps_expr (pe_bm PySem.F.plainAttrs_list PySem.F.slot_list_append PySem.F.type_list_append mt_append (pv 4) (pa_cons (pe_tup (pa_cons (pv 6) (pa_cons (pe_callTy call_tuple_of (by rfl) T.m_tuple (by decide +kernel) (pa_cons (pe_lc (own := [("x", 7)]) (g := (gName 7)) (tt := (tTest (tOp (rIn K true) (tVar 7) (tVar 6)))) (te := (tVar 7)) rfl sc_splits_of.nd (pi_tup (pv 5)) (blkOk_by (own := [("x", 7)]) (N := n_splits_of) (sc := defScope s_splits_of) (by decide +kernel)) (fun _ _ _ _ _ => (pg_name (i := 7) sc_splits_of.nd rfl (Or.inl rfl))) (fun _ _ _ _ _ => pts_one (pt_cmpR op_notIn_seq (pv 7) (pv 6) (by rfl))) (fun _ _ _ _ _ => (pv 7))) pa_nil)) pa_nil))) pa_nil))))))) (pss_one (ps_ret (pv 4)))))), pure_splits_of T h⟩

theorem splitsof_len {n : Nat} {gone : List Nat} {r : Nat} (hn : n < 9) (hr : r < 4) : (splitsofM n gone r).length ≤ 448 := by
  have := fm_len (F := splitF gone) (c := 8) (RC.combs n r) fun x hx => splitF_len (by rw [combs_len' hn hr x hx]; exact hr)
  have c56 := combs_many n hn r hr
  unfold splitsofM
  omega
theorem splits_len {n k : Nat} {gone : List Nat} (hn : n < 9) (hk : k < 4) (i : Nat) : (((List.range (k + 1)).take i).flatMap (splitsofM n gone)).length ≤ 1792 := by
  have := fm_len (F := splitsofM n gone) (c := 448) ((List.range (k + 1)).take i) fun r hr => splitsof_len hn (by have := List.mem_range.mp (List.mem_of_mem_take hr); omega)
  rw [List.length_take, List.length_range] at this
  omega
def sp_splits (T : Txt K mg) : Sp := fun vs H Q _ => ∃ sh s lo L, vs = [.ref sh, .ref lo] ∧ Sh K sh s H ∧ s.Ok ∧ SqT K H lo (ofN L) ∧ L.length ≤ 40000 ∧ ∀ p H', H p = none → Ex H H' → LD K 2 ((splitsM s.n (lostcM s L) s.k).map D2) p H' → Q (.ref p) H'
theorem len_splits (T : Txt K mg) {vs H Q E} (h : sp_splits T vs H Q E) : vs.length = 2 := by obtain ⟨_, _, _, _, rfl, _⟩ := h; rfl
theorem v_splits (T : Txt K mg) {H : Hp} {sh lo : Addr} {s : Shp} {L : List Nat} (S : Sh K sh s H) (o : s.Ok) (h : SqT K H lo (ofN L)) (hl : L.length ≤ 40000) : SpN (sp_splits T) [.ref sh, .ref lo] H (LD K 2 ((splitsM s.n (lostcM s L) s.k).map D2)) := fun H1 u Q q E => ⟨sh, s, lo, L, rfl, S.ex u, o, ex_t u h, hl, q⟩
def t_splits (T : Txt K mg) : TS := (tSeq (tAsg (tLst tNil) (gName 2)) (tSeq (tFor (iRng1 (tCons (tOp rAddI (tOp (rIxT K) (tVar 0) (tC (.int 3))) (tC (.int 1))) tNil)) (gName 3) (tAsg (tOp rCat (tVar 2) (tCall (sp_splits_of T) [] E0 (tCons (tVar 0) (tCons (tVar 1) (tCons (tVar 3) tNil))))) (gName 2))) (tRet (tVar 2))))

theorem pure_splits (T : Txt K mg) {vs H Q} {E : XK} (h : sp_splits T vs H Q E) : t_splits T { nx := fun _ H' => Q .non H', rt := Q } (L2.start n_splits vs) H := by
  obtain ⟨sh, s, lo, L, rfl, S, o, hlo, hL, q⟩ := h
  have n8 := o.n.2
  have k3 := o.k.2.1
  have hn9 : s.n < 9 := by omega
  have hk4 : s.k < 4 := by omega
  refine q_setN (en_nilD (K := K) (k := 2)) fun f H1 nf u1 hf => ?_
  refine q_forR1 (n := (s.k : Int) + 1) (ea_1 (ev_addI (sh_k (S.ex u1) (ev_var rfl)) ev_c)) ⟨by omega, by omega⟩ (fun i σ' H' => ∃ p u, σ' = [some (.ref sh), some (.ref lo), some (.ref p), u] ∧ Ex H H' ∧ H p = none ∧ LD K 2 ((((List.range (s.k + 1)).take i).flatMap (splitsofM s.n (lostcM s L))).map D2) p H')
    (fun H2 u2 => ⟨f, none, rfl, u1.trans u2, nf, hf.ex u2⟩) ?_ ?_
  · rintro i σ' H' hi ⟨p, u, rfl, e, np, hp⟩
    have hi4 : i < 4 := by omega
    have hri : (List.range (s.k + 1))[i]? = some i := by rw [List.getElem?_range (by omega)]
    have l1 := splits_len (gone := lostcM s L) hn9 hk4 i
    have l2 := splitsof_len (gone := lostcM s L) hn9 hi4
    refine s_setN (en_catD (K := K) (ev_var rfl) hp (en_call (ea_3 (ev_var rfl) (ev_var rfl) (ev_var rfl)) (v_splits_of T (S.ex e) o (ex_t e hlo) hL hi4)) (by rw [List.length_map, List.length_map]; omega)) fun p2 H2 np2 u2 h2 => ⟨p2, _, rfl, e.trans u2, fresh_back e np2, ?_⟩
    rw [take_fm hri, List.map_append]
    exact h2
  · rintro σ' H' ⟨p, u, rfl, e, np, hp⟩
    have z : ((s.k : Int) + 1).toNat = s.k + 1 := by omega
    rw [z, List.take_of_length_le (by rw [List.length_range]; omega)] at hp
    exact s_ret (ev_var rfl) fun H2 e2 => q p H2 np (e.trans e2) (hp.ex e2)
theorem ok_splits (T : Txt K mg) : FnOk P w K mg base CX0 3 T.f_splits T.fd_splits ["shape", "lost"] (sp_splits T) :=
  T.d_splits.F.ok sc_splits (fun vs H Q E h => len_splits T h) fun cdv A outer s H vs Q E hr h => ⟨t_splits T, by
    exact (pss_cons (ps_set (i := 2) sc_splits.nd rfl (Or.inl rfl) (pe_lst pa_nil)) (pss_cons (ps_for PassesOwn.never rfl (pi_range1 (by rfl) T.m_range (pa_cons (pe_op op_add (pe_ix ix_tup (pv 0) pe_int (fun _ _ => rfl)) pe_int) pa_nil)) (pg_name (i := 3) sc_splits.nd rfl (Or.inl rfl)) (pss_one (ps_set (i := 2) sc_splits.nd rfl (Or.inl rfl) (pe_op op_cat (pv 2) (pe_call (ok_splits_of T) (hr.mono (by decide)) (by rfl) T.d_splits_of.g T.d_splits_of.F.kp T.d_splits_of.b .nil pass0 (pa_cons (pv 0) (pa_cons (pv 1) (pa_cons (pv 3) pa_nil)))))))) (pss_one (ps_ret (pv 2))))), pure_splits T h⟩

end
end My


set_option maxHeartbeats 2000000
namespace Own
open PySem PySem.Spec PyProof.Rows L2 LamX
open Evl
/-! Tl: loops over a list of data that isn't the one at f. -/
section
variable {K : PySem.W.Frag} {σ : L2.St} {H H' H1 : Hp} {te ta tb tc tl : TE} {D : Ends} {tu tz : TS} {g : TG} {k k0 : Nat} {a f p : Addr} {ds es : List PyData} {d e : PyData} {v : V}
def EvF (f : Addr) (te : TE) (σ : L2.St) (H : Hp) (P : Addr → Hp → Prop) : Prop := ∀ H1, Ex H H1 → ∀ Q : VK, (∀ l H2, l ≠ f → Ex H1 H2 → P l H2 → Q (.ref l) H2) → te σ H1 Q
theorem ef_new {P : Addr → Hp → Prop} {o : HO} (h : EvN te σ H P) (hf : H f = some o) : EvF f te σ H P := fun H1 u Q q => h H1 u Q fun l H2 nl u2 p => q l H2 (fun z => by rw [z, u _ _ hf] at nl; cases nl) u2 p
theorem ef_old (h : Ev te σ H (.ref p)) (n : p ≠ f) (hp : LD K k ds p H) : EvF f te σ H (LD K k ds) := fun H1 u Q q => h H1 u _ fun H2 u2 => q p H2 n u2 (hp.ex (u.trans u2))
theorem s_forF {ys : List V} (h : EvF f tl σ H (LD K k ds)) (hf : H f = some (.lst ys)) (Pv : Hp → Nat → L2.St → Hp → Prop) (h0 : ∀ HL, Ex H HL → Pv HL 0 σ HL) (hB : ∀ HL i σ' H', Pv HL i σ' H' → But f HL H')
    (hs : ∀ HL (i : Nat) d x σ' H', Ex H HL → ds[i]? = some d → Gd K H' k x d → Pv HL i σ' H' → g x σ' H' fun σ2 H2 => tu { D with nx := Pv HL (i + 1), ct := Pv HL (i + 1), bk := D.nx } σ2 H2) (hd : ∀ HL σ' H', Ex H HL → Pv HL ds.length σ' H' → D.nx σ' H') :
    tFor (iList K tl) g tu D σ H :=
  h H (.refl H) _ fun L HL nf u ⟨xs, hL, gx⟩ => by
    have hfL := u _ _ hf
    have l1 := gdAll_len gx
    exact ⟨L, rfl, ⟨xs, sq_of hL⟩, for_list (xs := xs) (Pv HL) (h0 HL u) (fun i σ' H' _ p => sq_of (hB HL i σ' H' p _ _ nf hL))
      (fun i x σ' H' hx p => by
        obtain ⟨d, hd, gd⟩ := gdAll_at gx hx
        exact hs HL i d x σ' H' u hd (gd.kp ((hB HL i σ' H' p).kp hfL)) p) (fun σ' H' p => hd HL σ' H' u (by rw [← l1]; exact p))⟩
theorem q_forF {ys : List V} (h : EvF f tl σ H (LD K k ds)) (hf : H f = some (.lst ys)) (Pv : Hp → Nat → L2.St → Hp → Prop) (h0 : ∀ HL, Ex H HL → Pv HL 0 σ HL) (hB : ∀ HL i σ' H', Pv HL i σ' H' → But f HL H')
    (hs : ∀ HL (i : Nat) d x σ' H', Ex H HL → ds[i]? = some d → Gd K H' k x d → Pv HL i σ' H' → g x σ' H' fun σ2 H2 => tu { D with nx := Pv HL (i + 1), ct := Pv HL (i + 1), bk := tz D } σ2 H2) (hd : ∀ HL σ' H', Ex H HL → Pv HL ds.length σ' H' → tz D σ' H') :
    tSeq (tFor (iList K tl) g tu) tz D σ H := s_forF (D := { D with nx := tz D }) h hf Pv h0 hB hs hd
/-- a, b = a pair of data -/
theorem g_pairD {x : V} {i j : Nat} {d1 d2 : PyData} {Q : L2.St → Hp → Prop} (gx : Gd K H k x (.tuple [d1, d2])) (q : ∀ x1 x2, Gd K H (k - 1) x1 d1 → Gd K H (k - 1) x2 d2 → Q ((σ.set i (some x1)).set j (some x2)) H) :
    gTup K 2 (gCons (gName i) (gCons (gName j) gNil)) x σ H Q := by
  obtain ⟨b, xs, m, rfl, rfl, hs, hl, _, _, _, hx⟩ := gx.tup
  match xs, hl with
  | [x1, x2], _ =>
    obtain ⟨e1, h1, g1⟩ := hx 0 x1 rfl
    obtain ⟨e2, h2, g2⟩ := hx 1 x2 rfl
    injection h1 with h1
    injection h2 with h2
    subst h1 h2
    exact ⟨b, _, rfl, hs, rfl, x1, _, rfl, x2, _, rfl, rfl, q x1 x2 g1 g2⟩
/-- (x, y, z) of three data -/
theorem ex_tripD {d1 d2 d3 : PyData} (h1 : EvX ta σ H (PD K k d1)) (h2 : EvX tb σ H (PD K k d2)) (h3 : EvX tc σ H (PD K k d3)) : EvX (tTup (tCons ta (tCons tb (tCons tc tNil)))) σ H (PD K (k + 1) (.tuple [d1, d2, d3])) := fun H1 u Q q =>
  h1 H1 u _ fun x H2 u2 g1 => h2 H2 (u.trans u2) _ fun y H3 u3 g2 => h3 H3 ((u.trans u2).trans u3) _ fun z H4 u4 g3 => ⟨by show 3 ≤ sizeLine; decide, fun p np => q _ _ (((u2.trans u3).trans u4).trans (Ex.new np)) (by
    have gs : GdAll K H4 k [x, y, z] [d1, d2, d3] := .cons (Gd.ex (u3.trans u4) g1) (.cons (Gd.ex u4 g2) (.cons g3 .nil))
    exact gd_tup (st_of upd_same) (gs.kp (.new np)) (by show 3 ≤ 20; decide))⟩
/-- x != () -/
theorem ev_neNoneT {x : V} {l : List Nat} (ha : Ev ta σ H x) (g : Gd K H k x (D1 l)) (hk : k ≤ 60) : Ev (tOp (rNeD K) ta (tTup tNil)) σ H (.bl (!decide (l = []))) := fun H1 u Q q =>
  ha H1 u _ fun H2 u2 => ⟨Nat.zero_le _, fun p np => by
    have e : PyData.eqv (D1 l) (.tuple []) = decide (l = []) := by
      cases l <;> simp [D1, intsD, natI, PyData.eqv, PyData.eqvAll]
    refine ⟨D1 l, .tuple [], ((g.ex (u.trans u2)).kp (.new np)).dp, .tup (st_of upd_same) .nil, fine_shaped hk g.fn, rfl, ?_⟩
    rw [e]
    exact q _ (u2.trans (Ex.new np))⟩
end
/-- tuple(a list that stands) -/
theorem ex_tupV {K : PySem.W.Frag} {σ : L2.St} {H : Hp} {te : TE} {l : Addr} {xs : List V} (h : Ev te σ H (.ref l)) (hl : H l = some (.lst xs)) : EvX (tCB (rTupOf K) (tCons te tNil)) σ H (PSq K xs) := fun H1 u Q q =>
  h H1 u _ fun H2 u2 => ⟨l, xs, rfl, .inl ⟨sq_of ((u.trans u2) _ _ hl), fun t nt => q _ _ (u2.trans (Ex.new nt)) ⟨t, rfl, st_of upd_same⟩⟩⟩
/-- a tuple whose items read as ds -/
def TD (K : PySem.W.Frag) (k : Nat) (ds : List PyData) : Addr → Hp → Prop := fun p H => ∃ vs, SqT K H p vs ∧ GdAll K H k vs ds
theorem TD.kp {K : PySem.W.Frag} {k : Nat} {ds : List PyData} {p : Addr} {H H' : Hp} (e : Kp H H') (h : TD K k ds p H) : TD K k ds p H' := let ⟨vs, h1, h2⟩ := h; ⟨vs, e.sqT h1, h2.kp e⟩
end Own


set_option maxHeartbeats 1000000
namespace My
open PySem PySem.Spec PyProof.Rows L2 Own LamX
open Evl (Ex RetV)
section
variable {P : Program} {w : World} {K : PySem.W.Frag} {mg : Str → Option Value} {base : Heap}

open Evl
/-! ### kinds -/
def kindsF (s : Shp) (L : List Nat) (x : List Nat × List Nat) : List N3 := (if s.m = 1 ∧ x.1 ≠ [] then [keptM s L] else partsM (keptM s L)).map fun came => (x.1, x.2, came)
def kindsL (s : Shp) (L : List Nat) : List N3 := (splitsM s.n (lostcM s L) s.k).flatMap (kindsF s L)
def kindsM (s : Shp) (L : List Nat) : List N3 := (kindsL s L).mergeSort (PySem.W.dataLe false keyD)
theorem kept_nats {s : Shp} {L : List Nat} (c5 : s.c ≤ 5) : Nats 5 (keptM s L) := by
  have l : (keptM s L).length ≤ (List.range s.c).length := List.length_filter_le _ _
  rw [List.length_range] at l
  refine ⟨by omega, fun i hi => ?_⟩
  have := List.mem_range.mp (List.mem_filter.mp hi).1
  omega
theorem kindsF_len {s : Shp} {L : List Nat} (c5 : s.c ≤ 5) (x : List Nat × List Nat) : (kindsF s L x).length ≤ 32 := by
  unfold kindsF
  rw [List.length_map]
  split
  · show 1 ≤ 32; decide
  · rw [partsM_len _ _ rfl]
    exact Nat.le_trans (Nat.pow_le_pow_right (by decide) (kept_nats c5).1) (by decide)
theorem pre_len {s : Shp} {L : List Nat} (o : s.Ok) (c5 : s.c ≤ 5) (i : Nat) : (((splitsM s.n (lostcM s L) s.k).take i).flatMap (kindsF s L)).length ≤ 57344 := by
  have n8 := o.n.2
  have k3 := o.k.2.1
  have h1 := fm_len (F := kindsF s L) (c := 32) ((splitsM s.n (lostcM s L) s.k).take i) fun x _ => kindsF_len c5 x
  have h2 := splits_len (gone := lostcM s L) (n := s.n) (k := s.k) (by omega) (by omega) (s.k + 1)
  rw [List.take_of_length_le (by rw [List.length_range]; omega)] at h2
  have h3 : (splitsM s.n (lostcM s L) s.k).length ≤ 1792 := h2
  rw [List.length_take] at h1
  omega
def sp_kinds (T : Txt K mg) : Sp := fun vs H Q E => ∃ sh s k x d, vs = [.ref sh, x] ∧ Sh K sh s H ∧ s.Ok ∧ s.c ≤ 5 ∧ Gd K H k x d ∧ Tabs T.tabs H ∧
  (risingD d (s.c + s.n) = true → ∃ L, d = D1 L ∧ ∀ p H', ExtN H H' → Tabs T.tabs H' → TD K 2 ((kindsM s L).map D3) p H' → Q (.ref p) H') ∧
  (risingD d (s.c + s.n) = false → ∀ H' dd, Ex H H' → Wh H' dd (.int (-1)) → E (.ref T.c_BadShelf) (some dd) H')
theorem len_kinds (T : Txt K mg) {vs H Q E} (h : sp_kinds T vs H Q E) : vs.length = 2 := by obtain ⟨_, _, _, _, _, rfl, _⟩ := h; rfl
def t_kinds (T : Txt K mg) (E : XK) : TS := (tSeq (tDrop (tCall (sp_made_shape T) [] E (tCons (tVar 0) tNil))) (tSeq (tDrop (tCall (sp_made_lost T) [] E (tCons (tVar 0) (tCons (tVar 1) tNil)))) (tSeq (tAsg (tCall (sp_kept_sums T) [] E0 (tCons (tVar 0) (tCons (tVar 1) tNil))) (gName 2)) (tSeq (tAsg (tCall (sp_parts_of T) [] E0 (tCons (tVar 2) tNil)) (gName 3)) (tSeq (tAsg (tLst tNil) (gName 4)) (tSeq (tFor (iList K (tCall (sp_splits T) [] E0 (tCons (tVar 0) (tCons (tVar 1) tNil)))) (gTup K 2 (gCons (gName 5) (gCons (gName 6) gNil))) (tSeq (tAsg (tAndV (tOp rEq (tOp (rIxT K) (tVar 0) (tC (.int 5))) (tC (.int 1))) (tOp (rNeD K) (tVar 5) (tTup tNil))) (gName 7)) (tFor (iList K (tIf (tB (tVar 7)) (tLst (tCons (tCB (rTupOf K) (tCons (tVar 2) tNil)) tNil)) (tVar 3))) (gName 8) (tDrop (tBM K "list" rAppend (tVar 4) (tCons (tTup (tCons (tVar 5) (tCons (tVar 6) (tCons (tVar 8) tNil)))) tNil)))))) (tRet (tCB (rTupOf K) (tCons (tSortK T.tabs K (tCons (tVar 4) tNil)) tNil)))))))))

theorem pure_kinds (T : Txt K mg) {vs H Q} {E : XK} (h : sp_kinds T vs H Q E) : t_kinds T E { nx := fun _ H' => Q .non H', rt := Q } (L2.start n_kinds vs) H := by
  obtain ⟨sh, s, k, x, d, rfl, S, o, c5, g, hT, qv, qe⟩ := h
  refine ⟨_, rfl, ⟨3, _, shD s, rfl, S.gd o, fun _ H1 e1 => ?_, fun f hf => by rw [fault_ok o] at hf; cases hf⟩⟩
  refine ⟨_, rfl, _, rfl, ⟨sh, s, k, x, d, rfl, S.ex e1, g.ex e1, fun hr H2 e2 => ?_, fun hr H2 dd e2 ed => qe hr H2 dd (e1.trans e2) ed⟩⟩
  obtain ⟨L, rfl, q⟩ := qv hr
  obtain ⟨lo, rfl, hlo, l20⟩ := gd_D1_of g
  have E2 := e1.trans e2
  have kn := kept_nats (L := L) c5
  refine q_asgL (el_call (dvs := []) (ea_2 (ev_var rfl) (ev_var rfl)) (v_kept_sums T (S.ex E2) o (ex_t E2 hlo))) fun kp H3 nkp e3 hkp => ?_
  refine q_setN (en_call (ea_1 (ev_var rfl)) (v_parts_of T (sq_of hkp) ⟨by have := kn.1; omega, kn.2⟩)) fun ev H4 nev e4 hev => ?_
  refine q_setN (en_nilD (K := K) (k := 2)) fun f H5 nf e5 hf => ?_
  have E5 := ((E2.trans e3).trans e4).trans e5
  have hev5 := hev.ex e5
  have hkp5 := e5 _ _ (e4 _ _ hkp)
  obtain ⟨evs, hevs, _⟩ := id hev
  have evf : ev ≠ f := fun z => by rw [z, nf] at hevs; cases hevs
  have kpf : kp ≠ f := fun z => by have := e4 _ _ hkp; rw [z, nf] at this; cases this
  obtain ⟨fv, hfv, _⟩ := id hf
  refine q_forF (K := K) (k := 2) (f := f) (ef_new (en_call (ea_2 (ev_var rfl) (ev_var rfl)) (v_splits T (S.ex E5) o (ex_t E5 hlo) (by omega))) hfv) hfv
    (fun HL i σ' H' => ∃ u5 u6 u7 u8, σ' = [some (.ref sh), some (.ref lo), some (.ref kp), some (.ref ev), some (.ref f), u5, u6, u7, u8] ∧ But f H5 HL ∧ But f HL H' ∧ LD K 2 ((((splitsM s.n (lostcM s L) s.k).take i).flatMap (kindsF s L)).map D3) f H')
    (fun HL u => ⟨none, none, none, none, rfl, But.ex u, But.refl _ _, hf.ex u⟩) (fun HL i σ' H' ⟨_, _, _, _, _, _, b, _⟩ => b) ?_ ?_
  · rintro HL i d x σ' H' uL hd gx ⟨u5, u6, u7, u8, rfl, b1, b2, hD⟩
    rw [List.getElem?_map] at hd
    obtain ⟨sp, hsp, rfl⟩ : ∃ sp, (splitsM s.n (lostcM s L) s.k)[i]? = some sp ∧ d = D2 sp := by
      cases c : (splitsM s.n (lostcM s L) s.k)[i]? with
      | none => rw [c] at hd; cases hd
      | some l => rw [c] at hd; exact ⟨l, rfl, (Option.some.inj hd).symm⟩
    have b5 := b1.trans b2
    have kp5 := b5.kp hfv
    refine g_pairD gx fun x1 x2 g1 g2 => ?_
    have g1 : Gd K H' 1 x1 (D1 sp.1) := g1
    have g2 : Gd K H' 1 x2 (D1 sp.2) := g2
    refine q_asg (ev_andV (ev_eqI (sh_m (Sh.kp kp5 (S.ex E5)) (ev_var rfl)) ev_c) fun _ => ev_neNoneT (ev_var rfl) g1 (by decide)) fun H6 e6 => ?_
    have b6 := b5.trans (But.ex e6)
    have hD6 := hD.ex e6
    obtain ⟨gv6, hgv6, _⟩ := id hD6
    have hkp6 := b6 _ _ kpf hkp5
    have hev6 := hev5.but hfv evf b6
    have it : EvF f (tIf (tB (tVar 7)) (tLst (tCons (tCB (rTupOf K) (tCons (tVar 2) tNil)) tNil)) (tVar 3)) [some (.ref sh), some (.ref lo), some (.ref kp), some (.ref ev), some (.ref f), some x1, some x2, some (.bl (decide ((s.m : Int) = 1) && !decide (sp.1 = []))), u8] H6
        (LD K 1 ((if s.m = 1 ∧ sp.1 ≠ [] then [keptM s L] else partsM (keptM s L)).map D1)) := by
      have bb : (decide ((s.m : Int) = 1) && !decide (sp.1 = [])) = decide (s.m = 1 ∧ sp.1 ≠ []) := by
        by_cases h1 : s.m = 1 <;> by_cases h2 : sp.1 = [] <;> simp [h1, h2] <;> omega
      rw [bb]
      refine fun H7 u7' Q' q' => et_B (ev_var (i := 7) rfl) H7 u7' _ fun H8 u8' => ?_
      by_cases hc : s.m = 1 ∧ sp.1 ≠ []
      · rw [if_pos hc] at q'
        rw [decide_eq_true hc, if_pos rfl]
        refine ef_new (en_oneD (K := K) (k := 1) (d := D1 (keptM s L)) (ex_D1 (ex_tupV (ev_var rfl) hkp6) kn (by decide))) hgv6 H8 (u7'.trans u8') Q' fun l H9 nl u9 hl => q' l H9 nl (u8'.trans u9) hl
      · rw [if_neg hc] at q'
        rw [decide_eq_false hc, if_neg (by decide)]
        exact ef_old (ev_var rfl) evf hev6 H8 (u7'.trans u8') Q' fun l H9 nl u9 hl => q' l H9 nl (u8'.trans u9) hl
    refine s_forF (K := K) (k := 1) (f := f) it hgv6
      (fun HM m σ'' H'' => ∃ u8, σ'' = [some (.ref sh), some (.ref lo), some (.ref kp), some (.ref ev), some (.ref f), some x1, some x2, some (.bl (decide ((s.m : Int) = 1) && !decide (sp.1 = []))), u8] ∧ But f H6 HM ∧ But f HM H'' ∧
        LD K 2 (((((splitsM s.n (lostcM s L) s.k).take i).flatMap (kindsF s L)) ++ (kindsF s L sp).take m).map D3) f H'')
      (fun HM uM => ⟨u8, rfl, But.ex uM, But.refl _ _, by rw [List.take_zero, List.append_nil]; exact hD6.ex uM⟩) (fun HM m σ'' H'' ⟨_, _, _, b, _⟩ => b) ?_ ?_
    · rintro HM m d x σ'' H'' uM hd gy ⟨u8, rfl, c1, c2, hD7⟩
      rw [List.getElem?_map] at hd
      obtain ⟨came, hcm, rfl⟩ : ∃ came, (if s.m = 1 ∧ sp.1 ≠ [] then [keptM s L] else partsM (keptM s L))[m]? = some came ∧ d = D1 came := by
        cases c : (if s.m = 1 ∧ sp.1 ≠ [] then [keptM s L] else partsM (keptM s L))[m]? with
        | none => rw [c] at hd; cases hd
        | some l => rw [c] at hd; exact ⟨l, rfl, (Option.some.inj hd).symm⟩
      have kp7 : Kp H' H'' := (Kp.ex e6).trans ((c1.trans c2).kp hgv6)
      refine s_appD (K := K) hD7 rfl (ex_tripD (ex_vD rfl (g1.kp kp7)) (ex_vD rfl (g2.kp kp7)) (ex_vD rfl gy)) ?_ fun H8 b8 h8 => ⟨_, rfl, c1, c2.trans b8, ?_⟩
      · have h1 := pre_len (L := L) o c5 i
        have h2 := kindsF_len (s := s) (L := L) c5 sp
        rw [List.length_map, List.length_append, List.length_take]
        omega
      · have hs : (kindsF s L sp)[m]? = some (sp.1, sp.2, came) := by
          unfold kindsF
          rw [List.getElem?_map, hcm]
          rfl
        have z : ((((splitsM s.n (lostcM s L) s.k).take i).flatMap (kindsF s L)) ++ (kindsF s L sp).take (m + 1)).map D3 = ((((splitsM s.n (lostcM s L) s.k).take i).flatMap (kindsF s L)) ++ (kindsF s L sp).take m).map D3 ++ [.tuple [D1 sp.1, D1 sp.2, D1 came]] := by
          rw [List.take_succ, hs, List.map_append, List.map_append, List.map_append, List.append_assoc]
          rfl
        rw [z]
        exact h8
    · rintro HM σ'' H'' uM ⟨u8, rfl, c1, c2, hD7⟩
      refine ⟨_, _, _, _, rfl, b1, ((b2.trans (But.ex e6)).trans c1).trans c2, ?_⟩
      rw [take_fm hsp]
      have e : ((if s.m = 1 ∧ sp.1 ≠ [] then [keptM s L] else partsM (keptM s L)).map D1).length = (kindsF s L sp).length := by unfold kindsF; rw [List.length_map, List.length_map]
      rw [e, List.take_length] at hD7
      exact hD7
  · rintro HL σ' H' uL ⟨u5, u6, u7, u8, rfl, b1, b2, hD⟩
    have b5 := b1.trans b2
    have hf0 : H f = none := fresh_back ((E2.trans e3).trans e4) nf
    have EH : Ex H H' := fun b o e => b5 b o (fun z => by rw [z, hf0] at e; cases e) (E5 b o e)
    rw [List.length_map, List.take_length] at hD
    have hz := pre_len (L := L) o c5 (splitsM s.n (lostcM s L) s.k).length
    rw [List.take_length] at hz
    refine ⟨_, rfl, hT.ext EH, f, kindsL s L, rfl, hD, by show (kindsL s L).length ≤ 100000; unfold kindsL; omega, fun H6 p H7 eN T6 np e7 hp => ?_⟩
    obtain ⟨vs, hvs, gvs⟩ := id hp
    refine ⟨p, vs, rfl, .inl ⟨sq_of hvs, fun t nt => q t _ (((ExtN.of EH).trans eN).trans (ExtN.of (e7.trans (Ex.new nt)))) (T6.ext (e7.trans (Ex.new nt))) ⟨vs, st_of upd_same, gvs.kp (.new nt)⟩⟩⟩
theorem ok_kinds (T : Txt K mg) (B : Bt T base) : FnOk P w K mg base (L2.CX P w) 6 T.f_kinds T.fd_kinds ["shape", "lost"] (sp_kinds T) :=
  fnC_okX T.FC_kinds sc_kinds (fun vs H Q E h => len_kinds T h) fun A outer s H vs Q E hr h => ⟨t_kinds T E, by
    exact (pss_cons (ps_expr (pe_call (ok_made_shape T) (hr.mono (by decide)) (by rfl) T.d_made_shape.g T.d_made_shape.F.kp T.d_made_shape.b .nil (passes_call (takes_of rfl rfl rfl rfl) fun _ _ _ _ h => h) (pa_cons (pv 0) pa_nil))) (pss_cons (ps_expr (pe_call (ok_made_lost T) (hr.mono (by decide)) (by rfl) T.d_made_lost.g T.d_made_lost.F.kp T.d_made_lost.b .nil (passes_call (takes_of rfl rfl rfl rfl) fun _ _ _ _ h => h) (pa_cons (pv 0) (pa_cons (pv 1) pa_nil)))) (pss_cons (ps_set (i := 2) sc_kinds.nd rfl (Or.inl rfl) (pe_call (ok_kept_sums T) (hr.mono (by decide)) (by rfl) T.d_kept_sums.g T.d_kept_sums.F.kp T.d_kept_sums.b .nil pass0 (pa_cons (pv 0) (pa_cons (pv 1) pa_nil)))) (pss_cons (ps_set (i := 3) sc_kinds.nd rfl (Or.inl rfl) (pe_call (ok_parts_of T) (hr.mono (by decide)) (by rfl) T.d_parts_of.g T.d_parts_of.F.kp T.d_parts_of.b .nil pass0 (pa_cons (pv 2) pa_nil))) (pss_cons (ps_set (i := 4) sc_kinds.nd rfl (Or.inl rfl) (pe_lst pa_nil)) (pss_cons (ps_for (passes_of rfl) rfl (pi_list (pe_call (ok_splits T) (hr.mono (by decide)) (by rfl) T.d_splits.g T.d_splits.F.kp T.d_splits.b .nil pass0 (pa_cons (pv 0) (pa_cons (pv 1) pa_nil)))) (pg_tup rfl (pgs_cons (pg_name (i := 5) sc_kinds.nd rfl (Or.inl rfl)) (pgs_cons (pg_name (i := 6) sc_kinds.nd rfl (Or.inl rfl)) pgs_nil))) (pss_cons (ps_set (i := 7) sc_kinds.nd rfl (Or.inl rfl) (pe_and (pe_cmpR op_eq (pe_ix ix_tup (pv 0) pe_int (fun _ _ => rfl)) pe_int (nomark _)) (pe_one (pe_cmpR (op_neD hr.units) (pv 5) (pe_tup pa_nil) (nomark _))))) (pss_one (ps_for (passes_of rfl) rfl (pi_list (pe_ifExp (pt_val (pv 7)) (pe_lst (pa_cons (pe_callTy call_tuple_of (by rfl) T.m_tuple (by decide +kernel) (pa_cons (pv 2) pa_nil)) pa_nil)) (pv 3))) (pg_name (i := 8) sc_kinds.nd rfl (Or.inl rfl)) (pss_one (ps_expr (pe_bm PySem.F.plainAttrs_list PySem.F.slot_list_append PySem.F.type_list_append mt_append (pv 4) (pa_cons (pe_tup (pa_cons (pv 5) (pa_cons (pv 6) (pa_cons (pv 8) pa_nil)))) pa_nil)))))))) (pss_one (ps_ret (pe_callTy call_tuple_of (by rfl) T.m_tuple (by decide +kernel) (pa_cons (pe_sortK (T := T.tabs) (by rfl) T.m_sorted T.m_len (pa_cons (pv 4) pa_nil) B.tb_kinds rfl T.mem_kinds T.one_kinds (hr.mono (by decide)) rfl (fun _ _ _ _ _ _ _ => rfl) rfl rfl rfl (by decide) (by decide) rfl rfl rfl) pa_nil)))))))))), pure_kinds T h⟩

end
end My


set_option maxHeartbeats 1000000
namespace My
open PySem PySem.Spec PyProof.Rows L2 Own LamX
open Evl (Ex RetV)
section
variable {P : Program} {w : World} {K : PySem.W.Frag} {mg : Str → Option Value} {base : Heap}

open Evl
/-! ### the draws -/
abbrev sp_law_take (T : Txt K mg) : Sp := spTake
abbrev sp_law_one (T : Txt K mg) : Sp := spOne K
abbrev sp_law_pool (T : Txt K mg) : Sp := spPool K
theorem len_law_take (T : Txt K mg) {vs H Q E} (h : sp_law_take T vs H Q E) : vs.length = 2 := by obtain ⟨_, _, rfl, _⟩ := h; rfl
theorem len_law_one (T : Txt K mg) {vs H Q E} (h : sp_law_one T vs H Q E) : vs.length = 2 := by obtain ⟨_, _, _, rfl, _⟩ := h; rfl
theorem len_law_pool (T : Txt K mg) {vs H Q E} (h : sp_law_pool T vs H Q E) : vs.length = 2 := by obtain ⟨_, _, _, rfl, _⟩ := h; rfl
def t_law_take (T : Txt K mg) : TS := (tSeq (tIfS (tTest (tOp rGtI (tOp (rIxL K) (tVar 0) (tC (.int 0))) (tC (.int 0)))) (tSeq (tAsg (tOp rModI (tCB rInt1 (tCons (tOp (rIxL K) (tVar 0) (tC (.int 0))) tNil)) (tVar 1)) (gName 2)) (tSeq (tAsg (tOp rDivI (tOp (rIxL K) (tVar 0) (tC (.int 0))) (tVar 1)) (gSub (tVar 0) (tC (.int 0)) rSetL)) (tRet (tVar 2)))) tNext) (tSeq (tAsg (tOp rModI (tCB rInt1 (tCons (tOp rAddI (tOp rMulI (tOp (rIxL K) (tVar 0) (tC (.int 1))) (tC (.int 39373))) (tC (.int 7))) tNil)) (tC (.int 2147483647))) (gSub (tVar 0) (tC (.int 1)) rSetL)) (tRet (tOp rModI (tCB rInt1 (tCons (tOp rDivI (tOp rModI (tCB rInt1 (tCons (tOp rMulI (tOp (rIxL K) (tVar 0) (tC (.int 1))) (tOp (rIxL K) (tVar 0) (tC (.int 1)))) tNil)) (tC (.int 2147483629))) (tC (.int 32))) tNil)) (tVar 1)))))

theorem up_set {a : Addr} {H H1 : Hp} {big mixed : Int} (e : Ex H H1) (h1 : 0 ≤ big) (h2 : 0 ≤ mixed) (h3 : mixed < 2147483647) : Up a H (upd H1 a (.lst [.int big, .int mixed])) :=
  ⟨fun b o nb hb => by rw [upd_ne nb]; exact e b o hb, big, mixed, upd_same, h1, h2, h3⟩
theorem pure_law_take (T : Txt K mg) {vs H Q} {E : XK} (h : sp_law_take T vs H Q E) : t_law_take T { nx := fun _ H' => Q .non H', rt := Q } (L2.start n_law_take vs) H := by
  obtain ⟨a, top, rfl, ⟨big, mixed, hs, hb, hm, hm2⟩, h0, h1, q⟩ := h
  have at0 : ∀ H1, Ex H H1 → ∀ (σ : L2.St), σ[0]? = some (some (.ref a)) → Ev (tOp (rIxL K) (tVar 0) (tC (.int 0))) σ H1 (.int big) := fun H1 e σ e0 => ev_ixL (ev_var e0) ev_c (sq_of (e a _ hs)) (atI_nat (j := 0) rfl)
  have at1 : ∀ H1, Ex H H1 → ∀ (σ : L2.St), σ[0]? = some (some (.ref a)) → Ev (tOp (rIxL K) (tVar 0) (tC (.int 1))) σ H1 (.int mixed) := fun H1 e σ e0 => ev_ixL (ev_var e0) ev_c (sq_of (e a _ hs)) (atI_nat (j := 1) rfl)
  refine q_when (ev_gtI (at0 H (Ex.refl H) _ rfl) ev_c) (fun c H1 e1 => ?_) (fun c H1 e1 => ?_)
  · refine q_asg (ev_modI (ev_int1 (at0 H1 e1 _ rfl)) (ev_var rfl) h0) fun H2 e2 => ?_
    have E2 := e1.trans e2
    refine q_setL (j := 0) (E2 a _ hs) (ev_divI (at0 H2 E2 _ rfl) (ev_var rfl) ⟨h0, h1⟩) (ev_var rfl) ev_c (by show 0 < 2; decide) fun H3 e3 => ?_
    refine s_ret (ev_var rfl) fun H4 e4 => ?_
    have m0 := Int.emod_nonneg big (show top ≠ 0 by omega)
    have m1 := Int.emod_lt_of_pos big h0
    have d0 : 0 ≤ big / top := Int.ediv_nonneg hb (by omega)
    have u := up_set (a := a) (E2.trans e3) d0 hm hm2
    exact q _ _ m0 m1 (u.trans (.ex e4 u.src))
  · have b0 : big = 0 := by have := of_decide_eq_false c; omega
    have r0 : 0 ≤ (mixed * 39373 + 7) % 2147483647 := Int.emod_nonneg _ (by decide)
    have r1 : (mixed * 39373 + 7) % 2147483647 < 2147483647 := Int.emod_lt_of_pos _ (by decide)
    refine q_setL (j := 1) (e1 a _ hs) (ev_modI (ev_int1 (ev_addI (ev_mulI (at1 H1 e1 _ rfl) ev_c (.inr ⟨by decide, by decide⟩)) ev_c)) ev_c (by decide)) (ev_var rfl) ev_c (by show 1 < 2; decide) fun H3 e3 => ?_
    have u := up_set (a := a) (e1.trans e3) hb r0 r1
    have a1 : ∀ (σ : L2.St), σ[0]? = some (some (.ref a)) → Ev (tOp (rIxL K) (tVar 0) (tC (.int 1))) σ (upd H3 a (.lst [.int big, .int ((mixed * 39373 + 7) % 2147483647)])) (.int ((mixed * 39373 + 7) % 2147483647)) :=
      fun σ e0 => ev_ixL (ev_var e0) ev_c (sq_of upd_same) (atI_nat (j := 1) rfl)
    refine s_ret (ev_modI (ev_int1 (ev_divI (ev_modI (ev_int1 (ev_mulI (a1 _ rfl) (a1 _ rfl) (.inl ⟨by omega, by omega⟩))) ev_c (by decide)) ev_c ⟨by decide, by decide⟩)) (ev_var rfl) h0) fun H4 e4 => ?_
    exact q _ _ (Int.emod_nonneg _ (by omega)) (Int.emod_lt_of_pos _ h0) (u.trans (.ex e4 u.src))
theorem ok_law_take (T : Txt K mg) : FnOk P w K mg base CX0 1 T.f_law_take T.fd_law_take ["source", "top"] (sp_law_take T) :=
  T.d_law_take.F.ok sc_law_take (fun vs H Q E h => len_law_take T h) fun cdv A outer s H vs Q E hr h => ⟨t_law_take T, by
    exact (pss_cons (ps_if (pt_cmpR op_gt (pe_ix ix_list (pv 0) pe_int (fun _ _ => rfl)) pe_int (nomark _)) (pss_cons (ps_set (i := 2) sc_law_take.nd rfl (Or.inl rfl) (pe_op op_mod (pe_callTy call_int1 (by rfl) T.m_int (by decide +kernel) (pa_cons (pe_ix ix_list (pv 0) pe_int (fun _ _ => rfl)) pa_nil)) (pv 1))) (pss_cons (ps_asg (pe_op op_fdiv (pe_ix ix_list (pv 0) pe_int (fun _ _ => rfl)) (pv 1)) (pg_sub (pv 0) pe_int set_list)) (pss_one (ps_ret (pv 2))))) pss_nil) (pss_cons (ps_asg (pe_op op_mod (pe_callTy call_int1 (by rfl) T.m_int (by decide +kernel) (pa_cons (pe_op op_add (pe_op op_mul (pe_ix ix_list (pv 0) pe_int (fun _ _ => rfl)) pe_int) pe_int) pa_nil)) pe_int) (pg_sub (pv 0) pe_int set_list)) (pss_one (ps_ret (pe_op op_mod (pe_callTy call_int1 (by rfl) T.m_int (by decide +kernel) (pa_cons (pe_op op_fdiv (pe_op op_mod (pe_callTy call_int1 (by rfl) T.m_int (by decide +kernel) (pa_cons (pe_op op_mul (pe_ix ix_list (pv 0) pe_int (fun _ _ => rfl)) (pe_ix ix_list (pv 0) pe_int (fun _ _ => rfl))) pa_nil)) pe_int) pe_int) pa_nil)) (pv 1)))))), pure_law_take T h⟩

def t_law_one (T : Txt K mg) : TS := (tRet (tOp (rIxL K) (tVar 1) (tCall (sp_law_take T) [] E0 (tCons (tVar 0) (tCons (tCB (rLenV K) (tCons (tVar 1) tNil)) tNil)))))

theorem pure_law_one (T : Txt K mg) {vs H Q} {E : XK} (h : sp_law_one T vs H Q E) : t_law_one T { nx := fun _ H' => Q .non H', rt := Q } (L2.start n_law_one vs) H := by
  obtain ⟨a, b, xs, rfl, nb, s, hx, ne, hl, q⟩ := h
  have h0 : 0 < xs.length := List.length_pos_iff.mpr ne
  refine ⟨_, rfl, _, rfl, _, rfl, _, _, rfl, .inl ⟨xs, hx, rfl⟩, ?_⟩
  refine ⟨a, xs.length, rfl, s, by omega, by omega, fun r H' r0 r1 u => ?_⟩
  have hr : r.toNat < xs.length := by omega
  have er : (r.toNat : Int) = r := by omega
  have hx' : SqL K H' b xs := by
    rcases hx with (z | ⟨o, z⟩) | z
    · exact .inl (.inl (u.keep b _ nb z))
    · exact .inl (.inr ⟨o, u.keep b _ nb z⟩)
    · exact .inr z
  refine ⟨b, xs, r, xs[r.toNat], rfl, rfl, hx', ?_, q _ (List.getElem_mem hr) H' u⟩
  exact at_of er.symm (List.getElem?_eq_getElem hr)
theorem ok_law_one (T : Txt K mg) : FnOk P w K mg base CX0 2 T.f_law_one T.fd_law_one ["source", "things"] (sp_law_one T) :=
  T.d_law_one.F.ok sc_law_one (fun vs H Q E h => len_law_one T h) fun cdv A outer s H vs Q E hr h => ⟨t_law_one T, by
    exact (pss_one (ps_ret (pe_ix ix_list (pv 1) (pe_call (ok_law_take T) (hr.mono (by decide)) (by rfl) T.d_law_take.g T.d_law_take.F.kp T.d_law_take.b .nil pass0 (pa_cons (pv 0) (pa_cons (pe_callB call_len (by rfl) T.m_len (by decide +kernel) (pa_cons (pv 1) pa_nil)) pa_nil))) (fun _ _ => rfl)))), pure_law_one T h⟩

def t_law_pool (T : Txt K mg) : TS := (tSeq (tAsg (tC (.int 0)) (gName 2)) (tSeq (tIfS (tTest (tOp rLtI (tVar 1) (tCB (rLenV K) (tCons (tVar 0) tNil)))) (tAsg (tOp (rIxL K) (tVar 0) (tVar 1)) (gName 2)) (tIfS (tTest (tOp (rNeD K) (tVar 0) (tLst tNil))) (tAsg (tOp (rIxL K) (tVar 0) (tC (.int 0))) (gName 2)) tNext)) (tSeq (tAsg (tCB Own.rMax2 (tCons (tCB rInt1 (tCons (tVar 2) tNil)) (tCons (tCB rInt1 (tCons (tOp rSubI (tUn rNegI (tC (.int 1))) (tVar 2)) tNil)) tNil))) (gName 3)) (tSeq (tAsg (tOp rModI (tCB rInt1 (tCons (tOp rMulI (tOp rAddI (tOp rAddI (tOp rAddI (tOp rModI (tCB rInt1 (tCons (tVar 3) tNil)) (tC (.int 2147483629))) (tOp rMulI (tOp rMulI (tC (.int 7919)) (tVar 1)) (tVar 1))) (tOp rMulI (tC (.int 31)) (tVar 1))) (tC (.int 17))) (tC (.int 48271))) tNil)) (tC (.int 2147483647))) (gName 4)) (tRet (tLst (tCons (tOp rMulI (tVar 3) (tCB rInt1 (tCons (tAndV (tOp rGeI (tVar 3) (tOp rPowI (tC (.int 10)) (tC (.int 18)))) (tOp rLtI (tVar 1) (tCB (rLenV K) (tCons (tVar 0) tNil)))) tNil))) (tCons (tVar 4) tNil))))))))

theorem pure_law_pool (T : Txt K mg) {vs H Q} {E : XK} (h : sp_law_pool T vs H Q E) : t_law_pool T { nx := fun _ H' => Q .non H', rt := Q } (L2.start n_law_pool vs) H := by
  obtain ⟨b, ns, k, rfl, hs, hl, k0, k1, q⟩ := h
  have len : ∀ H1, Ex H H1 → ∀ (σ : L2.St), σ[0]? = some (some (.ref b)) → Ev (tCB (rLenV K) (tCons (tVar 0) tNil)) σ H1 (.int (ns.length : Int)) := fun H1 e σ e0 => by
    have := ev_lenL (K := K) (ev_var e0) (ex_l e hs)
    rwa [List.length_map] at this
  refine q_asg ev_c fun H1 e1 => ?_
  refine q_split (fun σ' H' => ∃ c : Int, σ' = [some (.ref b), some (.int k), some (.int c), none, none] ∧ Ex H H') ?_ (fun R => ?_)
  · rintro σ' H2 ⟨c, rfl, e2⟩
    -- big
    refine q_asg (Own.ev_max2 (ev_int1 (ev_var rfl)) (ev_int1 (ev_subI (ev_negI ev_c) (ev_var rfl)))) fun H3 e3 => ?_
    generalize hbig : (if -1 - c > c then -1 - c else c) = big
    have b0 : 0 ≤ big := by rw [← hbig]; split <;> omega
    have m0 : 0 ≤ big % 2147483629 := Int.emod_nonneg _ (by decide)
    have m1 : big % 2147483629 < 2147483629 := Int.emod_lt_of_pos _ (by decide)
    -- mixed
    refine q_asg (ev_modI (ev_int1 (ev_mulI (ev_addI (ev_addI (ev_addI (ev_modI (ev_int1 (ev_var rfl)) ev_c (by decide)) (ev_mulI (ev_mulI ev_c (ev_var rfl) (.inl ⟨by decide, by decide⟩)) (ev_var rfl) (.inr ⟨by omega, by omega⟩)))
      (ev_mulI ev_c (ev_var rfl) (.inl ⟨by decide, by decide⟩))) ev_c) ev_c (.inr ⟨by decide, by decide⟩))) ev_c (by decide)) fun H4 e4 => ?_
    generalize hmix : ((big % 2147483629 + 7919 * k * k + 31 * k + 17) * 48271) % 2147483647 = mixed
    have x0 : 0 ≤ mixed := by rw [← hmix]; exact Int.emod_nonneg _ (by decide)
    have x1 : mixed < 2147483647 := by rw [← hmix]; exact Int.emod_lt_of_pos _ (by decide)
    have E4 := (e2.trans e3).trans e4
    refine s_retL (el_lst (ea_2 (ev_mulI (ev_var rfl) (ev_intB (ev_andV (ev_geV (ev_var rfl) (ev_powI ev_c ev_c ⟨by decide, by decide, by decide⟩)) fun _ => ev_ltV (ev_var rfl) (len H4 E4 _ rfl))) (.inr ?_)) (ev_var rfl)) (by show 2 ≤ 100000; decide)) fun p H5 hp e5 h5 => ?_
    · split <;> exact ⟨by decide, by decide⟩
    · refine q p H5 ?_ (E4.trans e5) ⟨_, mixed, h5, ?_, x0, x1⟩
      · exact fresh_back E4 hp
      · refine Int.mul_nonneg b0 ?_
        split <;> decide
  · refine s_if (ev_ltI (ev_var rfl) (len H1 e1 _ rfl)) ?_ ?_
    · intro c H2 e2
      have c := of_decide_eq_true c
      have hk : k.toNat < ns.length := by omega
      refine s_asg (v := .int ns[k.toNat]) (ev_ixL (ev_var rfl) (ev_var rfl) (ex_l (e1.trans e2) hs) ?_) fun H3 e3 => R _ _ ⟨_, rfl, (e1.trans e2).trans e3⟩
      refine at_of (j := k.toNat) (by omega) ?_
      rw [List.getElem?_map, List.getElem?_eq_getElem hk]
      rfl
    · intro c H2 e2
      refine s_when (et_neInts (ev_var rfl) (ex_l (e1.trans e2) hs)) (fun c H3 e3 => ?_) (fun c H3 e3 => R _ _ ⟨0, rfl, (e1.trans e2).trans e3⟩)
      cases hn : ns with
      | nil => rw [hn] at c; cases c
      | cons n r =>
        refine s_asg (v := .int n) (ev_ixL (ev_var rfl) ev_c (ex_l ((e1.trans e2).trans e3) hs) (atI_nat (j := 0) (by rw [hn]; rfl))) fun H4 e4 => R _ _ ⟨n, rfl, ((e1.trans e2).trans e3).trans e4⟩
theorem ok_law_pool (T : Txt K mg) : FnOk P w K mg base CX0 1 T.f_law_pool T.fd_law_pool ["script", "k"] (sp_law_pool T) :=
  T.d_law_pool.F.ok sc_law_pool (fun vs H Q E h => len_law_pool T h) fun cdv A outer s H vs Q E hr h => ⟨t_law_pool T, by
    exact (pss_cons (ps_set (i := 2) sc_law_pool.nd rfl (Or.inl rfl) pe_int) (pss_cons (ps_if (pt_cmpR op_lt (pv 1) (pe_callB call_len (by rfl) T.m_len (by decide +kernel) (pa_cons (pv 0) pa_nil)) (nomark _)) (pss_one (ps_set (i := 2) sc_law_pool.nd rfl (Or.inl rfl) (pe_ix ix_list (pv 0) (pv 1) (fun _ _ => rfl)))) (pss_one (ps_if (pt_cmpR (op_neD hr.units) (pv 0) (pe_lst pa_nil) (nomark _)) (pss_one (ps_set (i := 2) sc_law_pool.nd rfl (Or.inl rfl) (pe_ix ix_list (pv 0) pe_int (fun _ _ => rfl)))) pss_nil))) (pss_cons (ps_set (i := 3) sc_law_pool.nd rfl (Or.inl rfl) (pe_callB (call_max2 rfl) (by rfl) T.m_max (by decide +kernel) (pa_cons (pe_callTy call_int1 (by rfl) T.m_int (by decide +kernel) (pa_cons (pv 2) pa_nil)) (pa_cons (pe_callTy call_int1 (by rfl) T.m_int (by decide +kernel) (pa_cons (pe_op op_sub (pe_un un_neg pe_int) (pv 2)) pa_nil)) pa_nil)))) (pss_cons (ps_set (i := 4) sc_law_pool.nd rfl (Or.inl rfl) (pe_op op_mod (pe_callTy call_int1 (by rfl) T.m_int (by decide +kernel) (pa_cons (pe_op op_mul (pe_op op_add (pe_op op_add (pe_op op_add (pe_op op_mod (pe_callTy call_int1 (by rfl) T.m_int (by decide +kernel) (pa_cons (pv 3) pa_nil)) pe_int) (pe_op op_mul (pe_op op_mul pe_int (pv 1)) (pv 1))) (pe_op op_mul pe_int (pv 1))) pe_int) pe_int) pa_nil)) pe_int)) (pss_one (ps_ret (pe_lst (pa_cons (pe_op op_mul (pv 3) (pe_callTy call_int1 (by rfl) T.m_int (by decide +kernel) (pa_cons (pe_and (pe_cmpR op_ge (pv 3) (pe_op op_pow pe_int pe_int) (nomark _)) (pe_one (pe_cmpR op_lt (pv 1) (pe_callB call_len (by rfl) T.m_len (by decide +kernel) (pa_cons (pv 0) pa_nil)) (nomark _)))) pa_nil))) (pa_cons (pv 4) pa_nil))))))))), pure_law_pool T h⟩

end
end My


set_option maxHeartbeats 1000000
namespace My
open PySem PySem.Spec PyProof.Rows L2 Own LamX
open Evl (Ex RetV)
section
variable {P : Program} {w : World} {K : PySem.W.Frag} {mg : Str → Option Value} {base : Heap}

open Evl
/-! ### shapes drawn, lots, what is bad -/
theorem es_eqB {a : Addr} {σ : L2.St} {H : Hp} {te : TE} {lo hi : Int} (h : EvS a te σ H (PInt lo hi)) : EvS a (tCB rInt1 (tCons (tOp rEq te (tC (.int 0))) tNil)) σ H (PInt 0 1) := fun H1 u Q q => h H1 u _ fun v H2 u2 ⟨i, e, _⟩ => by
  subst e
  exact ⟨rfl, .inr ⟨_, rfl, q _ H2 u2 ⟨_, rfl, by split <;> decide, by split <;> decide⟩⟩⟩
def sp_law_any_shape (T : Txt K mg) : Sp := fun vs H Q _ => ∃ a, vs = [.ref a] ∧ Src H a ∧ ∀ sh s H', Up a H H' → Sh K sh s H' → s.Ok → s.c ≤ 5 → s.n ≤ 4 → Q (.ref sh) H'
theorem len_law_any_shape (T : Txt K mg) {vs H Q E} (h : sp_law_any_shape T vs H Q E) : vs.length = 1 := by obtain ⟨_, rfl, _⟩ := h; rfl
def t_law_any_shape (T : Txt K mg) : TS := (tSeq (tAsg (tOp rAddI (tC (.int 1)) (tCall (sp_law_take T) [] E0 (tCons (tVar 0) (tCons (tC (.int 4)) tNil)))) (gName 1)) (tSeq (tAsg (tCB rInt1 (tCons (tOp rEq (tCall (sp_law_take T) [] E0 (tCons (tVar 0) (tCons (tC (.int 3)) tNil))) (tC (.int 0))) tNil)) (gName 2)) (tSeq (tAsg (tTup (tCons (tOp rAddI (tC (.int 1)) (tCall (sp_law_take T) [] E0 (tCons (tVar 0) (tCons (tCB rMin2 (tCons (tC (.int 3)) (tCons (tVar 1) tNil))) tNil)))) (tCons (tCall (sp_law_one T) [] E0 (tCons (tVar 0) (tCons (tLst (tCons (tC (.int 5)) (tCons (tC (.int 7)) (tCons (tC (.int 257)) tNil)))) tNil))) tNil))) (gTup K 2 (gCons (gName 3) (gCons (gName 4) gNil)))) (tSeq (tAsg (tCB (rTupOf K) (tCons (tLc (iRng1 (tCons (tCall (sp_law_take T) [] E0 (tCons (tVar 0) (tCons (tC (.int 5)) tNil))) tNil)) (gName 6) tYes (tCB (rTupOf K) (tCons (tLc (iRng1 (tCons (tVar 1) tNil)) (gName 7) tYes (tCall (sp_law_take T) [] E0 (tCons (tVar 0) (tCons (tVar 4) tNil))) [7]) tNil)) [6]) tNil)) (gName 5)) (tRet (tTup (tCons (tVar 4) (tCons (tOp rAddI (tC (.int 1)) (tCall (sp_law_take T) [] E0 (tCons (tVar 0) (tCons (tC (.int 3)) tNil)))) (tCons (tVar 1) (tCons (tVar 3) (tCons (tIf (tTest (tOp rEq (tVar 2) (tC (.int 1)))) (tC (.int 0)) (tCall (sp_law_take T) [] E0 (tCons (tVar 0) (tCons (tC (.int 3)) tNil)))) (tCons (tVar 2) (tCons (tVar 5) tNil)))))))))))))

theorem pure_law_any_shape (T : Txt K mg) {vs H Q} {E : XK} (h : sp_law_any_shape T vs H Q E) : t_law_any_shape T { nx := fun _ H' => Q .non H', rt := Q } (L2.start n_law_any_shape vs) H := by
  obtain ⟨a, rfl, src, q⟩ := h
  have cp : ∀ {i : Int} {σ : L2.St} {H : Hp}, Prm i → EvS a (tC (.int i)) σ H PPrm := fun h => es_c fun _ => ⟨_, rfl, h⟩
  refine ss_asg src (es_add (es_int (lo := 1) (hi := 1) (by decide) (by decide)) (es_take (lo := 4) (hi := 4) rfl (es_int (by decide) (by decide)) (by decide) (by decide))) fun v H1 u1 ⟨ni, ev, n0, n1⟩ => ?_
  subst ev
  obtain ⟨n, rfl⟩ : ∃ n : Nat, ni = (n : Int) := ⟨ni.toNat, by omega⟩
  refine ss_asg u1.src (es_eqB (es_take (lo := 3) (hi := 3) rfl (es_int (by decide) (by decide)) (by decide) (by decide))) fun v H2 u2 ⟨mi, ev, m0, m1⟩ => ?_
  subst ev
  obtain ⟨m, rfl⟩ : ∃ n : Nat, mi = (n : Int) := ⟨mi.toNat, by omega⟩
  have U2 := u1.trans u2
  refine ss_tupPQ (D := { nx := _, rt := _, bk := _, ct := _ }) U2.src (es_add (es_int (lo := 1) (hi := 1) (by decide) (by decide)) (es_take (lo := min 3 (n : Int)) (hi := min 3 (n : Int)) rfl (es_min (es_int (lo := 3) (hi := 3) (by decide) (by decide)) (es_vint (lo := (n : Int)) (hi := (n : Int)) rfl (Int.le_refl _) (Int.le_refl _))) (by omega) (by omega)))
    (es_one (P := PPrm) rfl (es_lst (n := 3) (ea_consS (cp ⟨by decide, by decide, by decide +kernel⟩) (ea_consS (cp ⟨by decide, by decide, by decide +kernel⟩) (ea_consS (cp ⟨by decide, by decide, by decide +kernel⟩) ea_nilS mono_prm) mono_prm) mono_prm) (by decide) mono_prm) (by decide) (by decide) mono_prm) mono_int fun x y H3 H4 u3 e4 ⟨ki, ex, k0, k1⟩ ⟨p, ey, P⟩ => ?_
  subst ex ey
  obtain ⟨k, rfl⟩ : ∃ n : Nat, ki = (n : Int) := ⟨ki.toNat, by omega⟩
  have p0 := P.1
  have p1 := P.2.1
  have U4 : Up a H H4 := (U2.trans u3).trans (.ex e4 (U2.trans u3).src)
  refine es_take (s0 := 0) (a := a) (lo := 5) (hi := 5) rfl (es_int (by decide) (by decide)) (by decide) (by decide) H4 (.refl U4.src) _ fun v H5 u5 ⟨ci, ev, c0, c1⟩ => ?_
  subst ev
  obtain ⟨c, rfl⟩ : ∃ n : Nat, ci = (n : Int) := ⟨ci.toNat, by omega⟩
  have U5 := U4.trans u5
  refine es_imp (es_tupX (es_lcE (te := tC (.int (c : Int))) (P := fun _ => Rig K p n) (n := c) (fun H5 u5 => ev_c) (by omega) (fun x => rfl) (fun i H5 u5 hi => es_imp (es_tupX (es_lcE (P := fun _ => PInt 0 (p - 1)) (n := n) (fun H6 u6 => ev_var rfl) (by omega) (fun x => rfl) (fun j H6 u6 hj => es_take (lo := p) (hi := p) rfl (es_vint rfl (by omega) (by omega)) (by omega) (by omega)) fun i => monoK_int) fun i => monoK_int) fun v H6 h => rig_of h) fun i => monoK_rig) fun i => monoK_rig) (fun v H5 h => mat_of h) H5 (.refl U5.src) _ fun v H6 u6 ⟨tb, M, ev, mt, wf, hM⟩ => ?_
  subst ev
  have U6 := U5.trans u6
  have he : EvS a (tIf (tTest (tOp rEq (tVar 2) (tC (.int 1)))) (tC (.int 0)) (tCall (sp_law_take T) [] E0 (tCons (tVar 0) (tCons (tC (.int 3)) tNil)))) [some (.ref a), some (.int (n : Int)), some (.int (m : Int)), some (.int (k : Int)), some (.int p), some (.ref tb), none, none] H6 (fun v _ => ∃ e : Nat, v = .int (e : Int) ∧ e ≤ 2 ∧ (m = 1 → e = 0)) := by
    intro H8 u8 Q' q'
    refine et_eqI (ev_var (i := 2) rfl) ev_c H8 (.refl H8) _ fun H9 e9 => ?_
    by_cases z : (m : Int) = 1
    · rw [decide_eq_true z]
      exact q' (.int 0) H9 (.ex e9 u8.src) ⟨0, rfl, by decide, fun _ => rfl⟩
    · rw [decide_eq_false z]
      exact es_take (s0 := 0) (a := a) (lo := 3) (hi := 3) rfl (es_int (by decide) (by decide)) (by decide) (by decide) H9 (.refl (u8.src.ex e9)) Q' fun v H10 u10 ⟨i, ei, i0, i1⟩ => q' v H10 ((Up.ex e9 u8.src).trans u10) ⟨i.toNat, by rw [ei]; congr 1; omega, by omega, fun h => absurd (by omega) z⟩
  refine ⟨_, rfl, _, rfl, a, 3, rfl, U6.src, by decide, by decide, fun r H7 r0 r1 u7 => ⟨1, r, rfl, rfl, _, rfl, _, rfl, he H7 u7 _ fun v H8 u8 ⟨e, ev, e0, em⟩ => ?_⟩⟩
  subst ev
  refine ⟨_, rfl, _, rfl, by show 7 ≤ sizeLine; decide, fun sh nsh => ?_⟩
  have U8 := (U6.trans u7).trans u8
  have mt8 := mt.kp ((u7.trans u8).kp U6.src)
  refine q sh ⟨p, (1 + r).toNat, n, k, e, m, M⟩ _ (U8.trans (.ex (Ex.new nsh) U8.src)) ⟨tb, st_of ?_, mt8.ex (Ex.new nsh)⟩ ⟨P, ⟨by show 1 ≤ (1 + r).toNat; omega, by show (1 + r).toNat ≤ 16; omega⟩, ⟨by show 1 ≤ n; omega, by show n ≤ 8; omega⟩, ⟨by show 1 ≤ k; omega, by show k ≤ 3; omega, by show k ≤ n; omega⟩, e0, ⟨by show m ≤ 1; omega, em⟩, by show M.length ≤ 8; omega, wf⟩ (by show M.length ≤ 5; omega) (by show n ≤ 4; omega)
  rw [upd_same]
  show some (HO.tup [.int p, .int (1 + r), .int n, .int k, .int e, .int m, .ref tb]) = some (HO.tup [.int p, .int ((1 + r).toNat : Int), .int n, .int k, .int e, .int m, .ref tb])
  rw [show (((1 + r).toNat : Nat) : Int) = 1 + r by omega]
theorem ok_law_any_shape (T : Txt K mg) : FnOk P w K mg base CX0 3 T.f_law_any_shape T.fd_law_any_shape ["source"] (sp_law_any_shape T) :=
  T.d_law_any_shape.F.ok sc_law_any_shape (fun vs H Q E h => len_law_any_shape T h) fun cdv A outer s H vs Q E hr h => ⟨t_law_any_shape T, by
    exact (pss_cons (ps_set (i := 1) sc_law_any_shape.nd rfl (Or.inr rfl) (pe_op op_add pe_int (pe_call (ok_law_take T) (hr.mono (by decide)) (by rfl) T.d_law_take.g T.d_law_take.F.kp T.d_law_take.b .nil pass0 (pa_cons (pv 0) (pa_cons pe_int pa_nil))))) (pss_cons (ps_set (i := 2) sc_law_any_shape.nd rfl (Or.inl rfl) (pe_callTy call_int1 (by rfl) T.m_int (by decide +kernel) (pa_cons (pe_cmpR op_eq (pe_call (ok_law_take T) (hr.mono (by decide)) (by rfl) T.d_law_take.g T.d_law_take.F.kp T.d_law_take.b .nil pass0 (pa_cons (pv 0) (pa_cons pe_int pa_nil))) pe_int (nomark _)) pa_nil))) (pss_cons (ps_asg (pe_tup (pa_cons (pe_op op_add pe_int (pe_call (ok_law_take T) (hr.mono (by decide)) (by rfl) T.d_law_take.g T.d_law_take.F.kp T.d_law_take.b .nil pass0 (pa_cons (pv 0) (pa_cons (pe_callB (call_min2 rfl) (by rfl) T.m_min (by decide +kernel) (pa_cons pe_int (pa_cons (pv 1) pa_nil))) pa_nil)))) (pa_cons (pe_call (ok_law_one T) (hr.mono (by decide)) (by rfl) T.d_law_one.g T.d_law_one.F.kp T.d_law_one.b .nil pass0 (pa_cons (pv 0) (pa_cons (pe_lst (pa_cons pe_int (pa_cons pe_int (pa_cons pe_int pa_nil)))) pa_nil))) pa_nil))) (pg_tup rfl (pgs_cons (pg_name (i := 3) sc_law_any_shape.nd rfl (Or.inl rfl)) (pgs_cons (pg_name (i := 4) sc_law_any_shape.nd rfl (Or.inr rfl)) pgs_nil)))) (pss_cons (ps_set (i := 5) sc_law_any_shape.nd rfl (Or.inl rfl) (pe_callTy call_tuple_of (by rfl) T.m_tuple (by decide +kernel) (pa_cons (pe_lc (own := [("j", 6)]) (g := (gName 6)) (tt := tYes) (te := (tCB (rTupOf K) (tCons (tLc (iRng1 (tCons (tVar 1) tNil)) (gName 7) tYes (tCall (sp_law_take T) [] E0 (tCons (tVar 0) (tCons (tVar 4) tNil))) [7]) tNil))) rfl sc_law_any_shape.nd (pi_range1 (by rfl) T.m_range (pa_cons (pe_call (ok_law_take T) (hr.mono (by decide)) (by rfl) T.d_law_take.g T.d_law_take.F.kp T.d_law_take.b .nil pass0 (pa_cons (pv 0) (pa_cons pe_int pa_nil))) pa_nil)) (blkOk_by (own := [("j", 6)]) (N := n_law_any_shape) (sc := defScope s_law_any_shape) (by decide +kernel)) (fun _ _ _ _ _ => (pg_name (i := 6) sc_law_any_shape.nd rfl (Or.inl rfl))) (fun _ _ _ _ _ => pts_nil) (fun _ _ _ _ _ => (pe_callTy call_tuple_of (by rfl) T.m_tuple (by decide +kernel) (pa_cons (pe_lcIn (own := [("x", 7)]) (g := (gName 7)) (tt := tYes) (te := (tCall (sp_law_take T) [] E0 (tCons (tVar 0) (tCons (tVar 4) tNil)))) rfl sc_law_any_shape.nd (pi_range1 (by rfl) T.m_range (pa_cons (pv 1) pa_nil)) (blkOk_by (own := [("x", 7)]) (N := n_law_any_shape) (sc := _) (by decide +kernel)) (fun _ _ _ _ _ => (pg_name (i := 7) sc_law_any_shape.nd rfl (Or.inl rfl))) (fun _ _ _ _ _ => pts_nil) (fun _ _ _ _ _ => (pe_call (ok_law_take T) (hr.mono (by decide)) (by rfl) T.d_law_take.g T.d_law_take.F.kp T.d_law_take.b .nil pass0 (pa_cons (pv 0) (pa_cons (pv 4) pa_nil))))) pa_nil)))) pa_nil))) (pss_one (ps_ret (pe_tup (pa_cons (pv 4) (pa_cons (pe_op op_add pe_int (pe_call (ok_law_take T) (hr.mono (by decide)) (by rfl) T.d_law_take.g T.d_law_take.F.kp T.d_law_take.b .nil pass0 (pa_cons (pv 0) (pa_cons pe_int pa_nil)))) (pa_cons (pv 1) (pa_cons (pv 3) (pa_cons (pe_ifExp (pt_cmpR op_eq (pv 2) pe_int (nomark _)) pe_int (pe_call (ok_law_take T) (hr.mono (by decide)) (by rfl) T.d_law_take.g T.d_law_take.F.kp T.d_law_take.b .nil pass0 (pa_cons (pv 0) (pa_cons pe_int pa_nil)))) (pa_cons (pv 2) (pa_cons (pv 5) pa_nil)))))))))))))), pure_law_any_shape T h⟩

def sp_law_lots_of (T : Txt K mg) : Sp := sp_parts_of T
theorem len_law_lots_of (T : Txt K mg) {vs H Q E} (h : sp_law_lots_of T vs H Q E) : vs.length = 1 := len_parts_of T h
theorem v_law_lots_of (T : Txt K mg) {H : Hp} {b : Addr} {ns : List Nat} (h : SqL K H b (ofN ns)) (hn : Nats 8 ns) : SpN (sp_law_lots_of T) [.ref b] H (LD K 1 ((partsM ns).map D1)) := v_parts_of T h hn
def t_law_lots_of (T : Txt K mg) : TS := (tSeq (tAsg (tLst (tCons (tTup tNil) tNil)) (gName 1)) (tSeq (tFor (iList K (tVar 0)) (gName 2) (tAsg (tOp rCat (tVar 1) (tLc (iList K (tVar 1)) (gName 3) tYes (tOp (rCatA K) (tVar 3) (tTup (tCons (tVar 2) tNil))) [3])) (gName 1))) (tRet (tVar 1))))

theorem pure_law_lots_of (T : Txt K mg) {vs H Q} {E : XK} (h : sp_law_lots_of T vs H Q E) : t_law_lots_of T { nx := fun _ H' => Q .non H', rt := Q } (L2.start n_law_lots_of vs) H := pure_parts_of T h
theorem ok_law_lots_of (T : Txt K mg) : FnOk P w K mg base CX0 1 T.f_law_lots_of T.fd_law_lots_of ["things"] (sp_law_lots_of T) :=
  T.d_law_lots_of.F.ok sc_law_lots_of (fun vs H Q E h => len_law_lots_of T h) fun cdv A outer s H vs Q E hr h => ⟨t_law_lots_of T, by
    exact (pss_cons (ps_set (i := 1) sc_law_lots_of.nd rfl (Or.inl rfl) (pe_lst (pa_cons (pe_tup pa_nil) pa_nil))) (pss_cons (ps_for PassesOwn.never rfl (pi_list (pv 0)) (pg_name (i := 2) sc_law_lots_of.nd rfl (Or.inr rfl)) (pss_one (ps_set (i := 1) sc_law_lots_of.nd rfl (Or.inl rfl) (pe_op op_cat (pv 1) (pe_lc (own := [("lot", 3)]) (g := (gName 3)) (tt := tYes) (te := (tOp (rCatA K) (tVar 3) (tTup (tCons (tVar 2) tNil)))) rfl sc_law_lots_of.nd (pi_list (pv 1)) (blkOk_by (own := [("lot", 3)]) (N := n_law_lots_of) (sc := defScope s_law_lots_of) (by decide +kernel)) (fun _ _ _ _ _ => (pg_name (i := 3) sc_law_lots_of.nd rfl (Or.inl rfl))) (fun _ _ _ _ _ => pts_nil) (fun _ _ _ _ _ => (pe_op op_catA (pv 3) (pe_tup (pa_cons (pv 2) pa_nil))))))))) (pss_one (ps_ret (pv 1))))), pure_law_lots_of T h⟩

def sp_law_is_bad (T : Txt K mg) : Sp := fun vs H Q _ => ∃ sh s k x d, vs = [.ref sh, x] ∧ Sh K sh s H ∧ s.Ok ∧ s.c ≤ 5 ∧ Gd K H k x d ∧ Tabs T.tabs H ∧ risingD d (s.c + s.n) = false ∧ RetV (.bl true) H Q
theorem len_law_is_bad (T : Txt K mg) {vs H Q E} (h : sp_law_is_bad T vs H Q E) : vs.length = 2 := by obtain ⟨_, _, _, _, _, rfl, _⟩ := h; rfl
def t_law_is_bad (T : Txt K mg) : TS := (tSeq (tTryN K 2 (fun W => (tDrop (tCallS (sp_kinds T) (WE W) (tCons (tVar 0) (tCons (tVar 1) tNil))))) [(.ref T.c_BadShelf, fun a cls d => (tRet (tOp rEq (tXf a cls d T.c_BadShelf "what" (tVar 2)) (tUn rNegI (tC (.int 1)))))), (.ref T.c_Refused, fun a cls d => (tRet (tC (.bl false))))]) (tRet (tC (.bl false))))

theorem pure_law_is_bad (T : Txt K mg) {vs H Q} {E : XK} (h : sp_law_is_bad T vs H Q E) : t_law_is_bad T { nx := fun _ H' => Q .non H', rt := Q } (L2.start n_law_is_bad vs) H := by
  obtain ⟨sh, s, k, x, d, rfl, S, o, c5, g, hT, hr, q⟩ := h
  refine ⟨_, rfl, _, rfl, sh, s, k, x, d, rfl, S, o, c5, g, hT, fun hr' => ?_, fun _ H1 dd e1 ed => ?_⟩
  · rw [hr] at hr'
    cases hr'
  · refine ⟨true, T.te_BadShelf_BadShelf, fun _ b nb => ?_, fun z => by cases z⟩
    have t2 : Ev (tXf b (.ref T.c_BadShelf) (some dd) T.c_BadShelf "what" (tVar 2)) [some (.ref sh), some x, some (.ref b)] H1 (.int (-1)) := fun H5 e5 Qv qv => ⟨_, rfl, rfl, rfl, dd, _, .int (-1), rfl, e5 dd _ ed.choose_spec, by rfl, qv H5 (Ex.refl H5)⟩
    refine s_ret (ev_is (w := .bl true) (ev_eqI t2 ev_neg1) (by simp)) fun H2 e2 => ?_
    exact q H2 (e1.trans e2)
theorem ok_law_is_bad (T : Txt K mg) (B : Bt T base) : FnOk P w K mg base CX0 7 T.f_law_is_bad T.fd_law_is_bad ["shape", "lot"] (sp_law_is_bad T) :=
  T.d_law_is_bad.F.ok sc_law_is_bad (fun vs H Q E h => len_law_is_bad T h) fun cdv A outer s H vs Q E hr h => ⟨t_law_is_bad T, by
    exact (pss_cons (ps_try_named (i := 2) (tb := fun W => (tDrop (tCallS (sp_kinds T) (WE W) (tCons (tVar 0) (tCons (tVar 1) tNil))))) (out := fun _ _ _ _ => False) (cs := [(.ref T.c_BadShelf, fun a cls d => (tRet (tOp rEq (tXf a cls d T.c_BadShelf "what" (tVar 2)) (tUn rNegI (tC (.int 1)))))), (.ref T.c_Refused, fun a cls d => (tRet (tC (.bl false))))]) rfl rfl sc_law_is_bad.nd rfl rfl L2.takes0 (fun W pn xe tk xp => (pss_one (ps_expr (pe_callS (ok_kinds T B) (hr.mono (by decide)) (by rfl) T.d_kinds.g T.d_kinds.F.kp T.d_kinds.b (fun σ => passAt tk σ) (pa_cons (pv 0) (pa_cons (pv 1) pa_nil)))))) (.cons ⟨by rfl, by decide, Or.inl T.g_BadShelf⟩ (fun a oe cls d pn hz hf => (pss_one (ps_ret (pe_cmpR op_eq (pe_xf T.x_BadShelf T.n_BadShelf_what.1 hz hf (pv 2)) (pe_un un_neg pe_int) (nomark _))))) (.cons ⟨by rfl, by decide, Or.inl T.g_Refused⟩ (fun a oe cls d pn hz hf => (pss_one (ps_ret pe_bl))) .nil))) (pss_one (ps_ret pe_bl))), pure_law_is_bad T h⟩

end
end My


set_option maxHeartbeats 1000000
namespace My
open PySem PySem.Spec PyProof.Rows L2 Own LamX
open Evl (Ex RetV)
section
variable {P : Program} {w : World} {K : PySem.W.Frag} {mg : Str → Option Value} {base : Heap}

open Evl
/-! ### the two ways of listing -/
def pairsD (n : Nat) (gone : List Nat) (k : Nat) : List (List Nat × List Nat) := (partsM ((List.range n).filter fun i => !decide (i ∈ gone))).flatMap fun came =>
  (partsM ((List.range n).filter fun i => !decide (i ∈ came))).flatMap fun others => if came.length + others.length ≤ k then [(came, others)] else []
def gBits (n : Nat) (b0 b1 b2 b3 : Bool) : List Nat := (List.range n).filter fun i => match i with | 0 => b0 | 1 => b1 | 2 => b2 | _ => b3
theorem splits_perm0 : ∀ n < 5, ∀ k < 4, ∀ b0 b1 b2 b3 : Bool, (splitsM n (gBits n b0 b1 b2 b3) k).isPerm (pairsD n (gBits n b0 b1 b2 b3) k) = true := by decide +kernel
theorem gBits_mem {n : Nat} (hn : n < 5) (gone : List Nat) : ∀ i, i < n → (decide (i ∈ gBits n (decide (0 ∈ gone)) (decide (1 ∈ gone)) (decide (2 ∈ gone)) (decide (3 ∈ gone)))) = decide (i ∈ gone) := by
  intro i hi
  have h4 : i < 4 := by omega
  unfold gBits
  rw [decide_eq_decide, List.mem_filter, List.mem_range]
  match i, h4 with
  | 0, _ => simp; intro _; omega
  | 1, _ => simp; intro _; omega
  | 2, _ => simp; intro _; omega
  | 3, _ => simp; intro _; omega
theorem splitF_congr {n : Nat} {g1 g2 : List Nat} (h : ∀ i, i < n → decide (i ∈ g1) = decide (i ∈ g2)) {cells : List Nat} (hc : ∀ i ∈ cells, i < n) : splitF g1 cells = splitF g2 cells := by
  unfold splitF
  rw [List.filter_congr fun i hi => by rw [h i (hc i hi)]]
theorem fm_congr {α β : Type} {F G : α → List β} : ∀ l : List α, (∀ x ∈ l, F x = G x) → l.flatMap F = l.flatMap G
  | [], _ => rfl
  | x :: l, h => by rw [List.flatMap_cons, List.flatMap_cons, h x List.mem_cons_self, fm_congr l fun y hy => h y (List.mem_cons_of_mem _ hy)]
theorem splits_congr {n k : Nat} (hn : n < 9) (hk : k < 4) {g1 g2 : List Nat} (h : ∀ i, i < n → decide (i ∈ g1) = decide (i ∈ g2)) : splitsM n g1 k = splitsM n g2 k := by
  unfold splitsM
  refine fm_congr _ fun r hr => ?_
  unfold splitsofM
  refine fm_congr _ fun cells hc => splitF_congr h (RC.combs_len n hn r (by have := List.mem_range.mp hr; omega) cells hc).2
theorem pairsD_congr {n k : Nat} {g1 g2 : List Nat} (h : ∀ i, i < n → decide (i ∈ g1) = decide (i ∈ g2)) : pairsD n g1 k = pairsD n g2 k := by
  unfold pairsD
  rw [List.filter_congr fun i hi => by rw [h i (List.mem_range.mp hi)]]
theorem splits_perm {n k : Nat} (hn : n < 5) (hk : k < 4) (gone : List Nat) : (splitsM n gone k).Perm (pairsD n gone k) := by
  have h := gBits_mem hn gone
  rw [← splits_congr (k := k) (by omega) hk h, ← pairsD_congr (k := k) h]
  exact List.isPerm_iff.mp (splits_perm0 n hn k hk _ _ _ _)
theorem parts_whole : ∀ (k : Nat) (ns : List Nat), ns.length = k → (partsM ns).filter (fun m => decide (m.length = ns.length)) = [ns]
  | 0, ns, h => by rw [List.length_eq_zero_iff.mp h]; rfl
  | k + 1, ns, h => by
    have e : ns = ns.dropLast ++ [ns.getLast (by intro z; rw [z] at h; cases h)] := (List.dropLast_concat_getLast _).symm
    have ll : ns.dropLast.length = k := by rw [List.length_dropLast, h]; rfl
    generalize ns.getLast (by intro z; rw [z] at h; cases h) = y at e
    generalize ns.dropLast = ms at e ll
    subst e
    rw [partsM_app]
    unfold partStep
    rw [List.filter_append, List.filter_eq_nil_iff.mpr (fun m hm => ?_), List.nil_append, List.filter_map]
    · have ih := parts_whole k ms ll
      rw [show ((fun m => decide (m.length = (ms ++ [y]).length)) ∘ fun x => x ++ [y]) = fun m : List Nat => decide (m.length = ms.length) from by
        funext m
        simp]
      rw [ih]
      rfl
    · have := (partsM_sub k ms ll m hm).length_le
      rw [List.length_append]
      simp
      omega
def freeM (s : Shp) (L : List Nat) : List Nat := (List.range s.n).filter fun x => !decide (s.c + x ∈ L)
def dueF (s : Shp) (L : List Nat) (x : List Nat × List Nat) : List N3 := ((partsM (keptM s L)).filter fun mask => decide (s.m = 0) || (decide (x.1 = []) || decide (mask.length = (keptM s L).length))).map fun mask => (x.1, x.2, mask)
def dueL (s : Shp) (L : List Nat) : List N3 := (partsM (freeM s L)).flatMap fun came => (partsM ((List.range s.n).filter fun i => !decide (i ∈ came))).flatMap fun others => if came.length + others.length ≤ s.k then dueF s L (came, others) else []
def dueM (s : Shp) (L : List Nat) : List N3 := (dueL s L).mergeSort (PySem.W.dataLe false keyD)
theorem kindsF_due {s : Shp} (o : s.Ok) (L : List Nat) (x : List Nat × List Nat) : kindsF s L x = dueF s L x := by
  unfold kindsF dueF
  have m1 := o.m.1
  by_cases h : s.m = 1 ∧ x.1 ≠ []
  · rw [if_pos h, ← parts_whole _ (keptM s L) rfl]
    congr 1
    refine List.filter_congr fun m _ => ?_
    have m0 : ¬ s.m = 0 := by omega
    simp [m0, h.2]
  · rw [if_neg h]
    have z : ((partsM (keptM s L)).filter fun mask => decide (s.m = 0) || (decide (x.1 = []) || decide (mask.length = (keptM s L).length))) = partsM (keptM s L) := by
      refine List.filter_eq_self.mpr fun m _ => ?_
      by_cases h1 : s.m = 1
      · have : x.1 = [] := Decidable.byContradiction fun z => h ⟨h1, z⟩
        simp [this]
      · have : s.m = 0 := by omega
        simp [this]
    rw [z]
theorem free_gone (s : Shp) (L : List Nat) : freeM s L = (List.range s.n).filter fun i => !decide (i ∈ lostcM s L) := by
  unfold freeM
  refine List.filter_congr fun i _ => ?_
  congr 1
  rw [decide_eq_decide]
  unfold lostcM
  rw [List.mem_map]
  constructor
  · intro h
    exact ⟨s.c + i, List.mem_filter.mpr ⟨h, by simp⟩, by omega⟩
  · rintro ⟨j, hj, rfl⟩
    obtain ⟨h1, h2⟩ := List.mem_filter.mp hj
    have := of_decide_eq_true h2
    rwa [show s.c + (j - s.c) = j by omega]
theorem due_perm {s : Shp} (o : s.Ok) (n4 : s.n ≤ 4) (L : List Nat) : (kindsL s L).Perm (dueL s L) := by
  have e : dueL s L = (pairsD s.n (lostcM s L) s.k).flatMap (kindsF s L) := by
    unfold dueL pairsD
    rw [free_gone, List.flatMap_assoc]
    refine fm_congr _ fun came _ => ?_
    rw [List.flatMap_assoc]
    refine fm_congr _ fun others _ => ?_
    split
    · rw [List.flatMap_cons, List.flatMap_nil, List.append_nil, kindsF_due o]
    · rfl
  rw [e]
  exact List.Perm.flatMap_right _ (splits_perm (by omega) (by have := o.k.2.1; omega) (lostcM s L))
/-! ### one order -/
theorem toks_ints : ∀ (a b : List Int) (r t : List (Int ⊕ List Nat)), PySem.W.keyToksAll (a.map PyData.int) ++ r = PySem.W.keyToksAll (b.map PyData.int) ++ t → a = b ∧ r = t
  | [], [], r, t, h => by
    simp only [List.map_nil, PySem.W.keyToksAll] at h
    exact ⟨rfl, by simpa using h⟩
  | [], y :: b, r, t, h => by simp [PySem.W.keyToksAll] at h
  | x :: a, [], r, t, h => by simp [PySem.W.keyToksAll] at h
  | x :: a, y :: b, r, t, h => by
    simp only [List.map_cons, PySem.W.keyToksAll, PySem.W.keyToks, List.cons_append, List.nil_append, List.cons.injEq, Sum.inl.injEq, true_and] at h
    obtain ⟨h1, h2⟩ := h
    obtain ⟨h3, h4⟩ := toks_ints a b r t h2
    exact ⟨by rw [h1, h3], h4⟩
theorem natI_inj {a b : List Nat} (h : natI a = natI b) : a = b := by
  have := congrArg (List.map Int.toNat) h
  unfold natI at this
  rw [List.map_map, List.map_map] at this
  simpa [Function.comp_def] using this
theorem toks_D1 {a b : List Nat} {r t : List (Int ⊕ List Nat)} (h : PySem.W.keyToks (D1 a) ++ r = PySem.W.keyToks (D1 b) ++ t) : a = b ∧ r = t := by
  have h' : PySem.W.keyToksAll ((natI a).map PyData.int) ++ r = PySem.W.keyToksAll ((natI b).map PyData.int) ++ t := h
  obtain ⟨h1, h2⟩ := toks_ints _ _ _ _ h'
  exact ⟨natI_inj h1, h2⟩
theorem toks_key {x y : N3} (h : PySem.W.keyToks (keyD x) = PySem.W.keyToks (keyD y)) : x = y := by
  unfold keyD D3 at h
  simp only [PySem.W.keyToks, PySem.W.keyToksAll, List.cons_append, List.nil_append, List.append_assoc, List.cons.injEq, true_and] at h
  obtain ⟨_, h⟩ := h
  obtain ⟨e1, h⟩ := toks_D1 h
  simp only [List.cons.injEq, true_and] at h
  obtain ⟨e2, h⟩ := toks_D1 h
  simp only [List.cons.injEq, true_and] at h
  obtain ⟨e3, _⟩ := toks_D1 h
  obtain ⟨a, b, c⟩ := x
  obtain ⟨a', b', c'⟩ := y
  simp only at e1 e2 e3
  rw [e1, e2, e3]
theorem due_kinds {s : Shp} (o : s.Ok) (n4 : s.n ≤ 4) (L : List Nat) : kindsM s L = dueM s L := by
  have tl : PySem.W.TotalLe (PySem.W.dataLe false keyD) := PySem.W.sortLe_total _ _ _
  refine List.Perm.eq_of_pairwise (le := fun a b => PySem.W.dataLe false keyD a b = true) (fun a b _ _ h1 h2 => ?_) (PySem.W.sort_pairwise tl _) (PySem.W.sort_pairwise tl _) ?_
  · have e := PyProof.Rows.lex_total (O := PyProof.Rows.itemOrd) (PySem.W.keyToks (keyD a)) (PySem.W.keyToks (keyD b)) (by simpa [PySem.W.dataLe, PySem.W.sortLe] using h2) (by simpa [PySem.W.dataLe, PySem.W.sortLe] using h1)
    exact toks_key e
  · exact ((List.mergeSort_perm _ _).trans (due_perm o n4 L)).trans (List.mergeSort_perm _ _).symm
end
end My


set_option maxHeartbeats 1000000
namespace My
open PySem PySem.Spec PyProof.Rows L2 Own LamX
open Evl (Ex RetV)
section
variable {P : Program} {w : World} {K : PySem.W.Frag} {mg : Str → Option Value} {base : Heap}

open Evl
/-! ### what is due -/
theorem ev_eqNoneT {σ : L2.St} {H : Hp} {ta : TE} {x : V} {k : Nat} {l : List Nat} (ha : Ev ta σ H x) (g : Gd K H k x (D1 l)) (hk : k ≤ 60) : Ev (tOp (rEqD K) ta (tTup tNil)) σ H (.bl (decide (l = []))) := fun H1 u Q q =>
  ha H1 u _ fun H2 u2 => ⟨Nat.zero_le _, fun p np => by
    have e : PyData.eqv (D1 l) (.tuple []) = decide (l = []) := by
      cases l <;> simp [D1, intsD, natI, PyData.eqv, PyData.eqvAll]
    refine ⟨D1 l, .tuple [], ((g.ex (u.trans u2)).kp (.new np)).dp, .tup (st_of upd_same) .nil, fine_shaped hk g.fn, rfl, ?_⟩
    rw [e]
    exact q _ (u2.trans (Ex.new np))⟩
theorem ofN_len (l : List Nat) : (ofN l).length = l.length := by unfold ofN; rw [List.length_map]
def dueG (s : Shp) (L came others : List Nat) : List N3 := if came.length + others.length ≤ s.k then dueF s L (came, others) else []
def dueH (s : Shp) (L came : List Nat) : List N3 := (partsM ((List.range s.n).filter fun i => !decide (i ∈ came))).flatMap (dueG s L came)
theorem dueF_len {s : Shp} {L : List Nat} (c5 : s.c ≤ 5) (x : List Nat × List Nat) : (dueF s L x).length ≤ 32 := by
  unfold dueF
  rw [List.length_map]
  refine Nat.le_trans (List.length_filter_le _ _) ?_
  rw [partsM_len _ _ rfl]
  exact Nat.le_trans (Nat.pow_le_pow_right (by decide) (kept_nats c5).1) (by decide)
theorem dueG_len {s : Shp} {L : List Nat} (c5 : s.c ≤ 5) (came others : List Nat) : (dueG s L came others).length ≤ 32 := by
  unfold dueG
  split
  · exact dueF_len c5 _
  · exact Nat.zero_le _
theorem rest_nats {s : Shp} (n4 : s.n ≤ 4) (f : Nat → Bool) : Nats 4 ((List.range s.n).filter f) := by
  have l : ((List.range s.n).filter f).length ≤ (List.range s.n).length := List.length_filter_le _ _
  rw [List.length_range] at l
  refine ⟨by omega, fun i hi => ?_⟩
  have := List.mem_range.mp (List.mem_filter.mp hi).1
  omega
theorem parts16 {s : Shp} (n4 : s.n ≤ 4) (f : Nat → Bool) : (partsM ((List.range s.n).filter f)).length ≤ 16 := by
  rw [partsM_len _ _ rfl]
  exact Nat.le_trans (Nat.pow_le_pow_right (by decide) (rest_nats n4 f).1) (by decide)
theorem preG {s : Shp} {L : List Nat} (c5 : s.c ≤ 5) (n4 : s.n ≤ 4) (came : List Nat) (m : Nat) : (((partsM ((List.range s.n).filter fun i => !decide (i ∈ came))).take m).flatMap (dueG s L came)).length ≤ 512 := by
  have h := fm_len (F := dueG s L came) (c := 32) ((partsM ((List.range s.n).filter fun i => !decide (i ∈ came))).take m) fun x _ => dueG_len c5 came x
  have h2 := parts16 n4 (fun i => !decide (i ∈ came))
  rw [List.length_take] at h
  omega
theorem preH {s : Shp} {L : List Nat} (c5 : s.c ≤ 5) (n4 : s.n ≤ 4) (i : Nat) : (((partsM (freeM s L)).take i).flatMap (dueH s L)).length ≤ 8192 := by
  have h := fm_len (F := dueH s L) (c := 512) ((partsM (freeM s L)).take i) fun x _ => by
    have := preG (L := L) c5 n4 x (partsM ((List.range s.n).filter fun i => !decide (i ∈ x))).length
    rw [List.take_length] at this
    exact this
  have h2 : (partsM (freeM s L)).length ≤ 16 := parts16 n4 _
  rw [List.length_take] at h
  omega
theorem dueL_H (s : Shp) (L : List Nat) : dueL s L = (partsM (freeM s L)).flatMap (dueH s L) := rfl
theorem at_D1 {ps : List (List Nat)} {m : Nat} {d : PyData} (h : (ps.map D1)[m]? = some d) : ∃ l, ps[m]? = some l ∧ d = D1 l := by
  rw [List.getElem?_map] at h
  cases c : ps[m]? with
  | none => rw [c] at h; cases h
  | some l => rw [c] at h; exact ⟨l, rfl, (Option.some.inj h).symm⟩
def okM (s : Shp) (L came mask : List Nat) : Bool := decide (s.m = 0) || (decide (came = []) || decide (mask.length = (keptM s L).length))
def mskP (s : Shp) (L came others : List Nat) (q : Nat) : List N3 := (((partsM (keptM s L)).take q).filter (okM s L came)).map fun mask => (came, others, mask)
theorem ex_intD {K : PySem.W.Frag} {σ : L2.St} {H : Hp} {te : TE} {i : Int} {k : Nat} (h : Ev te σ H (.int i)) (hi : i.natAbs < 2 ^ 64) : EvX te σ H (PD K k (.int i)) := fun H1 u Q q => h H1 u _ fun H2 u2 => q _ H2 u2 (Gd.up (Nat.zero_le _) (gd_int hi))
theorem take_filt {α β : Type} {p : α → Bool} {g : α → β} {l : List α} {i : Nat} {x : α} (h : l[i]? = some x) : ((l.take (i + 1)).filter p).map g = ((l.take i).filter p).map g ++ (if p x = true then [g x] else []) := by
  rw [List.take_succ, h, List.filter_append, List.map_append]
  congr 1
  cases c : p x <;> simp [c]
def sp_law_due (T : Txt K mg) : Sp := fun vs H Q _ => ∃ sh s lo L, vs = [.ref sh, .ref lo] ∧ Sh K sh s H ∧ s.Ok ∧ s.c ≤ 5 ∧ s.n ≤ 4 ∧ SqT K H lo (ofN L) ∧ ∀ t H', Ex H H' → TD K 2 ((dueM s L).map D3) t H' → Q (.ref t) H'
theorem len_law_due (T : Txt K mg) {vs H Q E} (h : sp_law_due T vs H Q E) : vs.length = 2 := by obtain ⟨_, _, _, _, rfl, _⟩ := h; rfl
def t_law_due (T : Txt K mg) : TS := (tSeq (tAsg (tTup (tCons (tOp (rIxT K) (tVar 0) (tC (.int 2))) (tCons (tOp (rIxT K) (tVar 0) (tC (.int 3))) (tCons (tOp (rIxT K) (tVar 0) (tC (.int 5))) (tCons (tCB (rLenV K) (tCons (tOp (rIxT K) (tVar 0) (tC (.int 6))) tNil)) tNil))))) (gTup K 4 (gCons (gName 2) (gCons (gName 3) (gCons (gName 4) (gCons (gName 5) gNil)))))) (tSeq (tAsg (tLc (iRng1 (tCons (tVar 5) tNil)) (gName 12) (tTest (tOp (rIn K true) (tVar 12) (tVar 1))) (tVar 12) [12]) (gName 6)) (tSeq (tPar 7 8 (tCons (tCall (sp_law_lots_of T) [] E0 (tCons (tVar 6) tNil)) (tCons (tLst tNil) tNil))) (tSeq (tFor (iList K (tCall (sp_law_lots_of T) [] E0 (tCons (tLc (iRng1 (tCons (tVar 2) tNil)) (gName 13) (tTest (tOp (rIn K true) (tOp rAddI (tVar 5) (tVar 13)) (tVar 1))) (tVar 13) [13]) tNil))) (gName 9) (tFor (iList K (tCall (sp_law_lots_of T) [] E0 (tCons (tLc (iRng1 (tCons (tVar 2) tNil)) (gName 13) (tTest (tOp (rIn K true) (tVar 13) (tVar 9))) (tVar 13) [13]) tNil))) (gName 10) (tIfS (tTest (tOp rLeI (tOp rAddI (tCB (rLenV K) (tCons (tVar 9) tNil)) (tCB (rLenV K) (tCons (tVar 10) tNil))) (tVar 3))) (tFor (iList K (tVar 7)) (gName 11) (tIfS (tOr (tTest (tOp rEq (tVar 4) (tC (.int 0)))) (tOr (tTest (tOp (rEqD K) (tVar 9) (tTup tNil))) (tTest (tOp rEq (tCB (rLenV K) (tCons (tVar 11) tNil)) (tCB (rLenV K) (tCons (tVar 6) tNil)))))) (tDrop (tBM K "list" rAppend (tVar 8) (tCons (tTup (tCons (tOp rAddI (tCB (rLenV K) (tCons (tVar 9) tNil)) (tCB (rLenV K) (tCons (tVar 10) tNil))) (tCons (tTup (tCons (tVar 9) (tCons (tVar 10) (tCons (tVar 11) tNil)))) tNil))) tNil))) tNext)) tNext))) (tRet (tCB (rTupOf K) (tCons (tLc (iList K (tCB (rSortedD K) (tCons (tVar 8) tNil))) (gName 14) tYes (tOp (rIxT K) (tVar 14) (tC (.int 1))) [14]) tNil)))))))

theorem pure_law_due (T : Txt K mg) {vs H Q} {E : XK} (h : sp_law_due T vs H Q E) : t_law_due T { nx := fun _ H' => Q .non H', rt := Q } (L2.start n_law_due vs) H := by
  obtain ⟨sh, s, lo, L, rfl, S, o, c5, n4, hlo, q⟩ := h
  have kn := kept_nats (L := L) c5
  refine sh_n S (ev_var rfl) H (.refl H) _ fun H1 e1 => sh_k (S.ex e1) (ev_var rfl) H1 (.refl H1) _ fun H2 e2 => sh_m (S.ex (e1.trans e2)) (ev_var rfl) H2 (.refl H2) _ fun H3 e3 => sh_c (S.ex ((e1.trans e2).trans e3)) (ev_var rfl) H3 (.refl H3) _ fun H4 e4 => ?_
  have E4 := ((e1.trans e2).trans e3).trans e4
  refine ⟨by show 4 ≤ sizeLine; decide, fun t0 nt0 => ⟨t0, _, rfl, st_of upd_same, rfl, _, _, rfl, _, _, rfl, _, _, rfl, _, _, rfl, rfl, ?_⟩⟩
  generalize hH5 : upd H4 t0 _ = H5
  have E5 : Ex H H5 := by rw [← hH5]; exact E4.trans (Ex.new nt0)
  have S5 := S.ex E5
  have hlo5 := ex_t E5 hlo
  refine q_asgL (xs := ofN (keptM s L)) (el_lcR1 (n := (s.c : Int)) (fun i => !decide (i ∈ L)) (fun i => V.int (i : Int)) (ea_1 (ev_var rfl)) ⟨by omega, by omega⟩ (fun x => rfl) (fun i H1 u hi => et_notInT (ev_var rfl) (ev_var rfl) (ex_t u hlo5)) (fun i H1 u hi _ => ev_var rfl)) fun kp H6 nkp e6 hkp => ?_
  refine en_call (ea_1 (ev_var rfl)) (v_law_lots_of T (sq_of hkp) ⟨by have := kn.1; omega, kn.2⟩) H6 (.refl H6) _ fun mk H7 nmk e7 hmk => ⟨Nat.zero_le _, fun f nf => ⟨_, _, rfl, ?_⟩⟩
  generalize hH8 : upd H7 f _ = H8
  have e8 : Ex H7 H8 := by rw [← hH8]; exact Ex.new nf
  have hf8 : H8 f = some (.lst []) := by rw [← hH8]; exact upd_same
  have hD8 : LD K 3 ([] : List PyData) f H8 := ⟨[], hf8, .nil⟩
  have E7 := (E5.trans e6).trans e7
  have E8 := E7.trans e8
  have hf0 : H f = none := fresh_back E7 nf
  have hmk8 := hmk.ex e8
  have hkp8 := (e7.trans e8) _ _ hkp
  obtain ⟨mvs, hmvs, _⟩ := id hmk
  have mkf : mk ≠ f := fun z => by rw [z, nf] at hmvs; cases hmvs
  have kpf : kp ≠ f := fun z => by have := e7 _ _ hkp; rw [z, nf] at this; cases this
  have hfree : ∀ (H9 : Hp), Ex H8 H9 → ofN (freeM s L) = given ((s.n : Int)).toNat (fun i => !decide (s.c + i ∈ L)) (fun i => V.int (i : Int)) := fun _ _ => rfl
  have S8 := S.ex E8
  have hlo8 := ex_t E8 hlo
  have it1 : EvN (tCall (sp_law_lots_of T) [] E0 (tCons (tLc (iRng1 (tCons (tVar 2) tNil)) (gName 13) (tTest (tOp (rIn K true) (tOp rAddI (tVar 5) (tVar 13)) (tVar 1))) (tVar 13) [13]) tNil)) [some (.ref sh), some (.ref lo), some (.int (s.n : Int)), some (.int (s.k : Int)), some (.int (s.m : Int)), some (.int (s.c : Int)), some (.ref kp), some (.ref mk), some (.ref f), none, none, none, none, none, none] H8 (LD K 1 ((partsM (freeM s L)).map D1)) :=
    en_callL (xs := ofN (freeM s L)) (el_lcR1 (n := (s.n : Int)) (fun i => !decide (s.c + i ∈ L)) (fun i => V.int (i : Int)) (ea_1 (ev_var rfl)) ⟨by omega, by omega⟩ (fun x => rfl) (fun i H1 u hi => et_notInT (ev_is (ev_addI (i := (s.c : Int)) (j := (i : Int)) (ev_var rfl) (ev_var rfl)) (by rw [Int.natCast_add])) (ev_var rfl) (ex_t u hlo8)) (fun i H1 u hi _ => ev_var rfl)) (fun b H9 u hb => v_law_lots_of T (sq_of hb) (by have := rest_nats n4 (fun x => !decide (s.c + x ∈ L)); exact ⟨by have := this.1; unfold freeM; omega, this.2⟩))
  refine q_forF (K := K) (k := 1) (f := f) (ef_new it1 hf8) hf8
    (fun HL i σ' H' => ∃ u9 u10 u11, σ' = [some (.ref sh), some (.ref lo), some (.int (s.n : Int)), some (.int (s.k : Int)), some (.int (s.m : Int)), some (.int (s.c : Int)), some (.ref kp), some (.ref mk), some (.ref f), u9, u10, u11, none, none, none] ∧ But f H8 HL ∧ But f HL H' ∧ LD K 3 ((((partsM (freeM s L)).take i).flatMap (dueH s L)).map keyD) f H')
    (fun HL u => ⟨none, none, none, rfl, But.ex u, But.refl _ _, hD8.ex u⟩) (fun HL i σ' H' ⟨_, _, _, _, _, b, _⟩ => b) ?_ ?_
  · rintro HL i d x σ' H' uL hd gx ⟨u9, u10, u11, rfl, b1, b2, hD⟩
    obtain ⟨came, hcame, rfl⟩ := at_D1 hd
    obtain ⟨ca, rfl, hca, l20⟩ := gd_D1_of gx
    have b3 := b1.trans b2
    obtain ⟨gv, hgv, _⟩ := id hD
    have it2 : EvN (tCall (sp_law_lots_of T) [] E0 (tCons (tLc (iRng1 (tCons (tVar 2) tNil)) (gName 13) (tTest (tOp (rIn K true) (tVar 13) (tVar 9))) (tVar 13) [13]) tNil)) [some (.ref sh), some (.ref lo), some (.int (s.n : Int)), some (.int (s.k : Int)), some (.int (s.m : Int)), some (.int (s.c : Int)), some (.ref kp), some (.ref mk), some (.ref f), some (.ref ca), u10, u11, none, none, none] H' (LD K 1 ((partsM ((List.range s.n).filter fun i => !decide (i ∈ came))).map D1)) :=
      en_callL (xs := ofN ((List.range s.n).filter fun i => !decide (i ∈ came))) (el_lcR1 (n := (s.n : Int)) (fun i => !decide (i ∈ came)) (fun i => V.int (i : Int)) (ea_1 (ev_var rfl)) ⟨by omega, by omega⟩ (fun x => rfl) (fun i H1 u hi => et_notInT (ev_var rfl) (ev_var rfl) (ex_t u hca)) (fun i H1 u hi _ => ev_var rfl)) (fun b H9 u hb => v_law_lots_of T (sq_of hb) (by have := rest_nats n4 (fun i => !decide (i ∈ came)); exact ⟨by have := this.1; omega, this.2⟩))
    refine s_forF (K := K) (k := 1) (f := f) (ef_new it2 hgv) hgv
      (fun HM m σ'' H'' => ∃ u10 u11, σ'' = [some (.ref sh), some (.ref lo), some (.int (s.n : Int)), some (.int (s.k : Int)), some (.int (s.m : Int)), some (.int (s.c : Int)), some (.ref kp), some (.ref mk), some (.ref f), some (.ref ca), u10, u11, none, none, none] ∧ But f H' HM ∧ But f HM H'' ∧
        LD K 3 ((((partsM (freeM s L)).take i).flatMap (dueH s L) ++ ((partsM ((List.range s.n).filter fun i => !decide (i ∈ came))).take m).flatMap (dueG s L came)).map keyD) f H'')
      (fun HM uM => ⟨u10, u11, rfl, But.ex uM, But.refl _ _, by rw [List.take_zero, List.flatMap_nil, List.append_nil]; exact hD.ex uM⟩) (fun HM m σ'' H'' ⟨_, _, _, _, b, _⟩ => b) ?_ ?_
    · rintro HM m d x σ'' H'' uM hd gy ⟨u10, u11, rfl, c1, c2, hDm⟩
      obtain ⟨others, hoth, rfl⟩ := at_D1 hd
      obtain ⟨oa, rfl, hoa, o20⟩ := gd_D1_of gy
      have c3 := c1.trans c2
      have kc : Kp H' H'' := c3.kp hgv
      have hca2 : SqT K H'' ca (ofN came) := kc.sqT hca
      have len9 : ∀ Hx, Ex H'' Hx → ∀ σx : L2.St, σx[9]? = some (some (.ref ca)) → Ev (tCB (rLenV K) (tCons (tVar 9) tNil)) σx Hx (.int (came.length : Int)) := fun Hx u σx e => by
        have := ev_lenT (K := K) (ev_var e) (ex_t u hca2)
        rwa [ofN_len] at this
      have len10 : ∀ Hx, Ex H'' Hx → ∀ σx : L2.St, σx[10]? = some (some (.ref oa)) → Ev (tCB (rLenV K) (tCons (tVar 10) tNil)) σx Hx (.int (others.length : Int)) := fun Hx u σx e => by
        have := ev_lenT (K := K) (ev_var e) (ex_t u hoa)
        rwa [ofN_len] at this
      have stepG : ∀ {H3 : Hp} {u11 : Option V}, But f H'' H3 → LD K 3 (((((partsM (freeM s L)).take i).flatMap (dueH s L) ++ ((partsM ((List.range s.n).filter fun i => !decide (i ∈ came))).take m).flatMap (dueG s L came)) ++ dueG s L came others).map keyD) f H3 →
          ∃ u10 u11', [some (.ref sh), some (.ref lo), some (.int (s.n : Int)), some (.int (s.k : Int)), some (.int (s.m : Int)), some (.int (s.c : Int)), some (.ref kp), some (.ref mk), some (.ref f), some (.ref ca), some (.ref oa), u11, none, none, none] = [some (.ref sh), some (.ref lo), some (.int (s.n : Int)), some (.int (s.k : Int)), some (.int (s.m : Int)), some (.int (s.c : Int)), some (.ref kp), some (.ref mk), some (.ref f), some (.ref ca), u10, u11', none, none, none] ∧ But f H' HM ∧ But f HM H3 ∧
          LD K 3 ((((partsM (freeM s L)).take i).flatMap (dueH s L) ++ ((partsM ((List.range s.n).filter fun i => !decide (i ∈ came))).take (m + 1)).flatMap (dueG s L came)).map keyD) f H3 := fun {H3 u11} b h3 => ⟨_, _, rfl, c1, c2.trans b, by rw [take_fm hoth, ← List.append_assoc]; exact h3⟩
      refine s_if (ev_leI (ev_addI (len9 _ (.refl _) _ rfl) (len10 _ (.refl _) _ rfl)) (ev_var rfl)) (fun hc H3 e3 => ?_) (fun hc H3 e3 => ?_)
      · have hck : came.length + others.length ≤ s.k := by have := of_decide_eq_true hc; omega
        have hD3 := hDm.ex e3
        obtain ⟨gv3, hgv3, _⟩ := id hD3
        have kb : But f H8 H3 := (b3.trans c3).trans (But.ex e3)
        have hmk3 := hmk8.but hf8 mkf kb
        have hkp3 := kb _ _ kpf hkp8
        refine s_forF (K := K) (k := 1) (f := f) (ef_old (ev_var rfl) mkf hmk3) hgv3
          (fun HN r σ3 H4' => ∃ u11, σ3 = [some (.ref sh), some (.ref lo), some (.int (s.n : Int)), some (.int (s.k : Int)), some (.int (s.m : Int)), some (.int (s.c : Int)), some (.ref kp), some (.ref mk), some (.ref f), some (.ref ca), some (.ref oa), u11, none, none, none] ∧ But f H3 HN ∧ But f HN H4' ∧
            LD K 3 (((((partsM (freeM s L)).take i).flatMap (dueH s L) ++ ((partsM ((List.range s.n).filter fun i => !decide (i ∈ came))).take m).flatMap (dueG s L came)) ++ mskP s L came others r).map keyD) f H4')
          (fun HN uN => ⟨u11, rfl, But.ex uN, But.refl _ _, by unfold mskP; rw [List.take_zero, List.filter_nil, List.map_nil, List.append_nil]; exact hD3.ex uN⟩) (fun HN r σ3 H4' ⟨_, _, _, b, _⟩ => b) ?_ ?_
        · rintro HN r d x σ3 H4' uN hd gz ⟨u11, rfl, d1, d2, hDr⟩
          obtain ⟨mask, hmask, rfl⟩ := at_D1 hd
          obtain ⟨ma, rfl, hma, m20⟩ := gd_D1_of gz
          have d3 := d1.trans d2
          have kd : Kp H'' H4' := (Kp.ex e3).trans (d3.kp hgv3)
          have gca : Gd K H4' 1 (.ref ca) (D1 came) := (Gd.kp (kc.trans kd) gx)
          have goa : Gd K H4' 1 (.ref oa) (D1 others) := Gd.kp kd gy
          have hca4 : SqT K H4' ca (ofN came) := kd.sqT hca2
          have hoa4 : SqT K H4' oa (ofN others) := kd.sqT hoa
          have hkp4 := d3 _ _ kpf hkp3
          have ts : ∀ (tt : TT), True := fun _ => trivial
          have test : EvT (tOr (tTest (tOp rEq (tVar 4) (tC (.int 0)))) (tOr (tTest (tOp (rEqD K) (tVar 9) (tTup tNil))) (tTest (tOp rEq (tCB (rLenV K) (tCons (tVar 11) tNil)) (tCB (rLenV K) (tCons (tVar 6) tNil))))))
              [some (.ref sh), some (.ref lo), some (.int (s.n : Int)), some (.int (s.k : Int)), some (.int (s.m : Int)), some (.int (s.c : Int)), some (.ref kp), some (.ref mk), some (.ref f), some (.ref ca), some (.ref oa), some (.ref ma), none, none, none] H4' (okM s L came mask) := by
            have a1 := ev_lenT (K := K) (ta := tVar 11) (σ := [some (.ref sh), some (.ref lo), some (.int (s.n : Int)), some (.int (s.k : Int)), some (.int (s.m : Int)), some (.int (s.c : Int)), some (.ref kp), some (.ref mk), some (.ref f), some (.ref ca), some (.ref oa), some (.ref ma), none, none, none]) (ev_var rfl) hma
            have a2 := ev_lenL (K := K) (ta := tVar 6) (σ := [some (.ref sh), some (.ref lo), some (.int (s.n : Int)), some (.int (s.k : Int)), some (.int (s.m : Int)), some (.int (s.c : Int)), some (.ref kp), some (.ref mk), some (.ref f), some (.ref ca), some (.ref oa), some (.ref ma), none, none, none]) (ev_var rfl) (sq_of hkp4)
            rw [ofN_len] at a1 a2
            have z := et_or (et_eqI (σ := [some (.ref sh), some (.ref lo), some (.int (s.n : Int)), some (.int (s.k : Int)), some (.int (s.m : Int)), some (.int (s.c : Int)), some (.ref kp), some (.ref mk), some (.ref f), some (.ref ca), some (.ref oa), some (.ref ma), none, none, none]) (H := H4') (ev_var (i := 4) rfl) (ev_c (v := .int 0))) fun _ => et_or (et_test (ev_eqNoneT (ev_var (i := 9) rfl) gca (by decide))) fun _ => et_eqI a1 a2
            have e : (decide ((s.m : Int) = 0) || (decide (came = []) || decide ((mask.length : Int) = ((keptM s L).length : Int)))) = okM s L came mask := by
              unfold okM
              rw [show decide ((s.m : Int) = 0) = decide (s.m = 0) from by rw [decide_eq_decide]; omega, show decide ((mask.length : Int) = ((keptM s L).length : Int)) = decide (mask.length = (keptM s L).length) from by rw [decide_eq_decide]; omega]
            rwa [e] at z
          have take1 : mskP s L came others (r + 1) = mskP s L came others r ++ (if okM s L came mask = true then [(came, others, mask)] else []) := take_filt hmask
          refine s_if test (fun ok H5' e5' => ?_) (fun ok H5' e5' => ?_)
          · have l9 := ev_lenT (K := K) (ta := tVar 9) (σ := [some (.ref sh), some (.ref lo), some (.int (s.n : Int)), some (.int (s.k : Int)), some (.int (s.m : Int)), some (.int (s.c : Int)), some (.ref kp), some (.ref mk), some (.ref f), some (.ref ca), some (.ref oa), some (.ref ma), none, none, none]) (H := H5') (ev_var rfl) (ex_t e5' hca4)
            have l10 := ev_lenT (K := K) (ta := tVar 10) (σ := [some (.ref sh), some (.ref lo), some (.int (s.n : Int)), some (.int (s.k : Int)), some (.int (s.m : Int)), some (.int (s.c : Int)), some (.ref kp), some (.ref mk), some (.ref f), some (.ref ca), some (.ref oa), some (.ref ma), none, none, none]) (H := H5') (ev_var rfl) (ex_t e5' hoa4)
            rw [ofN_len] at l9 l10
            refine s_appD (K := K) (e := keyD (came, others, mask)) (hDr.ex e5') rfl (ex_pairD (ex_intD (ev_addI l9 l10) (by show Int.natAbs ((came.length : Int) + (others.length : Int)) < 2 ^ 64; omega)) (ex_tripD (ex_vD rfl (gca.ex e5')) (ex_vD rfl (goa.ex e5')) (ex_vD rfl (gz.ex e5')))) ?_ fun H6' b6 h6 => ⟨_, rfl, d1, (d2.trans (But.ex e5')).trans b6, ?_⟩
            · have h1 := preH (L := L) c5 n4 i
              have h2 := preG (L := L) c5 n4 came m
              have h3 : (mskP s L came others r).length ≤ 32 := by
                unfold mskP
                rw [List.length_map]
                refine Nat.le_trans (List.length_filter_le _ _) (Nat.le_trans (by rw [List.length_take]; exact Nat.min_le_right _ _) ?_)
                rw [partsM_len _ _ rfl]
                exact Nat.le_trans (Nat.pow_le_pow_right (by decide) kn.1) (by decide)
              rw [List.length_map, List.length_append, List.length_append]
              omega
            · rw [take1, if_pos ok, ← List.append_assoc, List.map_append (l₂ := [(came, others, mask)])]
              exact h6
          · refine ⟨_, rfl, d1, d2.trans (But.ex e5'), ?_⟩
            rw [take1, if_neg (by rw [ok]; decide), List.append_nil]
            exact hDr.ex e5'
        · rintro HN σ3 H4' uN ⟨u11, rfl, d1, d2, hDr⟩
          refine stepG (((But.ex e3).trans d1).trans d2) ?_
          rw [List.length_map] at hDr
          have z : mskP s L came others (partsM (keptM s L)).length = dueG s L came others := by
            unfold mskP dueG dueF
            rw [List.take_length, if_pos hck]
            rfl
          rw [z] at hDr
          exact hDr
      · refine stepG (But.ex e3) ?_
        have z : dueG s L came others = [] := by
          unfold dueG
          rw [if_neg (by have := of_decide_eq_false hc; omega)]
        rw [z, List.append_nil]
        exact hDm.ex e3
    · rintro HM σ'' H'' uM ⟨u10, u11, rfl, c1, c2, hDm⟩
      refine ⟨_, _, _, rfl, b1, (b2.trans c1).trans c2, ?_⟩
      rw [take_fm hcame]
      rw [List.length_map, List.take_length] at hDm
      exact hDm
  · rintro HL σ' H' uL ⟨u9, u10, u11, rfl, b1, b2, hD⟩
    have b3 := b1.trans b2
    have EH : Ex H H' := fun b o e => b3 b o (fun z => by rw [z, hf0] at e; cases e) (E8 b o e)
    rw [List.length_map, List.take_length] at hD
    have hz := preH (L := L) c5 n4 (partsM (freeM s L)).length
    rw [List.take_length] at hz
    refine ⟨_, rfl, f, dueL s L, rfl, hD, by rw [dueL_H]; omega, fun p H1' np e1' hp => ?_⟩
    have hp : LD K 3 ((dueM s L).map keyD) p H1' := hp
    have dl : (dueM s L).length ≤ 8192 := by
      have : (dueM s L).length = (dueL s L).length := (List.mergeSort_perm _ _).length_eq
      rw [this, dueL_H]; exact hz
    have key := (en_lcD (K := K) (j := 14) (vs := [14]) (te := tOp (rIxT K) (tVar 14) (tC (.int 1))) (σ := [some (.ref sh), some (.ref lo), some (.int (s.n : Int)), some (.int (s.k : Int)), some (.int (s.m : Int)), some (.int (s.c : Int)), some (.ref kp), some (.ref mk), some (.ref f), u9, u10, u11, none, none, none]) (a := p) (tl := tC (.ref p)) (k0 := 3) (k := 2) (es := (dueM s L).map D3) ev_c hp (by rw [List.length_map]; omega) (by rw [List.length_map, List.length_map]) (fun x => rfl) (by
      intro i x d H3' u3 hd gx
      rw [List.getElem?_map] at hd
      obtain ⟨y, hy, rfl⟩ : ∃ y, (dueM s L)[i]? = some y ∧ d = keyD y := by
        cases c : (dueM s L)[i]? with
        | none => rw [c] at hd; cases hd
        | some l => rw [c] at hd; exact ⟨l, rfl, (Option.some.inj hd).symm⟩
      obtain ⟨b, xs, j, rfl, ej, hs, hxl, _, _, _, hx⟩ := gx.tup
      match xs, hxl with
      | [x0, x1], _ =>
        obtain ⟨e1, h1, g1⟩ := hx 1 x1 rfl
        injection h1 with h1
        subst h1
        have ej2 : j = 2 := by omega
        subst ej2
        exact fun H4' u4 Qv qv => ev_ixT (ev_var rfl) ev_c hs (atI_nat (j := 1) rfl) H4' u4 Qv fun H5' e5' => qv x1 H5' e5' ⟨D3 y, by rw [List.getElem?_map, hy]; rfl, g1.ex (u4.trans e5')⟩))
    refine key H1' (.refl H1') (fun v H2 => rTupOf K [v] H2 Q) fun l H2' nl e2' hl => ?_
    obtain ⟨vs, hvs, gvs⟩ := hl
    exact ⟨l, vs, rfl, .inl ⟨sq_of hvs, fun t nt => q t _ (EH.trans (e1'.trans (e2'.trans (Ex.new nt)))) ⟨vs, st_of upd_same, gvs.kp (.new nt)⟩⟩⟩
theorem ok_law_due (T : Txt K mg) : FnOk P w K mg base CX0 2 T.f_law_due T.fd_law_due ["shape", "lost"] (sp_law_due T) :=
  T.d_law_due.F.ok sc_law_due (fun vs H Q E h => len_law_due T h) fun cdv A outer s H vs Q E hr h => ⟨t_law_due T, by
    exact (pss_cons (ps_asg (pe_tup (pa_cons (pe_ix ix_tup (pv 0) pe_int (fun _ _ => rfl)) (pa_cons (pe_ix ix_tup (pv 0) pe_int (fun _ _ => rfl)) (pa_cons (pe_ix ix_tup (pv 0) pe_int (fun _ _ => rfl)) (pa_cons (pe_callB call_len (by rfl) T.m_len (by decide +kernel) (pa_cons (pe_ix ix_tup (pv 0) pe_int (fun _ _ => rfl)) pa_nil)) pa_nil))))) (pg_tup rfl (pgs_cons (pg_name (i := 2) sc_law_due.nd rfl (Or.inl rfl)) (pgs_cons (pg_name (i := 3) sc_law_due.nd rfl (Or.inl rfl)) (pgs_cons (pg_name (i := 4) sc_law_due.nd rfl (Or.inl rfl)) (pgs_cons (pg_name (i := 5) sc_law_due.nd rfl (Or.inr rfl)) pgs_nil)))))) (pss_cons (ps_setLc (i := 6) (own := [("j", 12)]) (g := (gName 12)) (tt := (tTest (tOp (rIn K true) (tVar 12) (tVar 1)))) (te := (tVar 12)) rfl sc_law_due.nd rfl rfl (sw_true rfl rfl rfl (by decide +kernel)) (pi_range1 (by rfl) T.m_range (pa_cons (pv 5) pa_nil)) (blkOk_by (own := [("j", 12)]) (N := n_law_due) (sc := defScope s_law_due) (by decide +kernel)) (fun _ _ _ _ _ => (pg_name (i := 12) sc_law_due.nd rfl (Or.inl rfl))) (fun _ _ _ _ _ => pts_one (pt_cmpR op_notIn_seq (pv 12) (pv 1) (by rfl))) (fun _ _ _ _ _ => (pv 12))) (pss_cons (ps_par (i := 7) (j := 8) rfl sc_law_due.nd rfl rfl (by decide) rfl rfl (pa_cons (pe_call (ok_law_lots_of T) (hr.mono (by decide)) (by rfl) T.d_law_lots_of.g T.d_law_lots_of.F.kp T.d_law_lots_of.b .nil pass0 (pa_cons (pv 6) pa_nil)) (pa_cons (pe_lst pa_nil) pa_nil)) (by rfl)) (pss_cons (ps_for PassesOwn.never rfl (pi_list (pe_call (ok_law_lots_of T) (hr.mono (by decide)) (by rfl) T.d_law_lots_of.g T.d_law_lots_of.F.kp T.d_law_lots_of.b .nil pass0 (pa_cons (pe_lc (own := [("x", 13)]) (g := (gName 13)) (tt := (tTest (tOp (rIn K true) (tOp rAddI (tVar 5) (tVar 13)) (tVar 1)))) (te := (tVar 13)) rfl sc_law_due.nd (pi_range1 (by rfl) T.m_range (pa_cons (pv 2) pa_nil)) (blkOk_by (own := [("x", 13)]) (N := n_law_due) (sc := defScope s_law_due) (by decide +kernel)) (fun _ _ _ _ _ => (pg_name (i := 13) sc_law_due.nd rfl (Or.inl rfl))) (fun _ _ _ _ _ => pts_one (pt_cmpR op_notIn_seq (pe_op op_add (pv 5) (pv 13)) (pv 1) (by rfl))) (fun _ _ _ _ _ => (pv 13))) pa_nil))) (pg_name (i := 9) sc_law_due.nd rfl (Or.inr rfl)) (pss_one (ps_for PassesOwn.never rfl (pi_list (pe_call (ok_law_lots_of T) (hr.mono (by decide)) (by rfl) T.d_law_lots_of.g T.d_law_lots_of.F.kp T.d_law_lots_of.b .nil pass0 (pa_cons (pe_lc (own := [("x", 13)]) (g := (gName 13)) (tt := (tTest (tOp (rIn K true) (tVar 13) (tVar 9)))) (te := (tVar 13)) rfl sc_law_due.nd (pi_range1 (by rfl) T.m_range (pa_cons (pv 2) pa_nil)) (blkOk_by (own := [("x", 13)]) (N := n_law_due) (sc := defScope s_law_due) (by decide +kernel)) (fun _ _ _ _ _ => (pg_name (i := 13) sc_law_due.nd rfl (Or.inl rfl))) (fun _ _ _ _ _ => pts_one (pt_cmpR op_notIn_seq (pv 13) (pv 9) (by rfl))) (fun _ _ _ _ _ => (pv 13))) pa_nil))) (pg_name (i := 10) sc_law_due.nd rfl (Or.inl rfl)) (pss_one (ps_if (pt_cmpR op_le (pe_op op_add (pe_callB call_len (by rfl) T.m_len (by decide +kernel) (pa_cons (pv 9) pa_nil)) (pe_callB call_len (by rfl) T.m_len (by decide +kernel) (pa_cons (pv 10) pa_nil))) (pv 3) (nomark _)) (pss_one (ps_for PassesOwn.never rfl (pi_list (pv 7)) (pg_name (i := 11) sc_law_due.nd rfl (Or.inl rfl)) (pss_one (ps_if (PW.pt (pw_or (pt_cmpR op_eq (pv 4) pe_int (nomark _)) (pw_or (pt_cmpR (op_eqD hr.units) (pv 9) (pe_tup pa_nil) (nomark _)) (pw_or1 (pt_cmpR op_eq (pe_callB call_len (by rfl) T.m_len (by decide +kernel) (pa_cons (pv 11) pa_nil)) (pe_callB call_len (by rfl) T.m_len (by decide +kernel) (pa_cons (pv 6) pa_nil)) (nomark _)))))) (pss_one (ps_expr (pe_bm PySem.F.plainAttrs_list PySem.F.slot_list_append PySem.F.type_list_append mt_append (pv 8) (pa_cons (pe_tup (pa_cons (pe_op op_add (pe_callB call_len (by rfl) T.m_len (by decide +kernel) (pa_cons (pv 9) pa_nil)) (pe_callB call_len (by rfl) T.m_len (by decide +kernel) (pa_cons (pv 10) pa_nil))) (pa_cons (pe_tup (pa_cons (pv 9) (pa_cons (pv 10) (pa_cons (pv 11) pa_nil)))) pa_nil))) pa_nil)))) pss_nil)))) pss_nil))))) (pss_one (ps_ret (pe_callTy call_tuple_of (by rfl) T.m_tuple (by decide +kernel) (pa_cons (pe_lc (own := [("one", 14)]) (g := (gName 14)) (tt := tYes) (te := (tOp (rIxT K) (tVar 14) (tC (.int 1)))) rfl sc_law_due.nd (pi_list (pe_callB (cr_sortedD hr.units) (by rfl) T.m_sorted (by decide +kernel) (pa_cons (pv 8) pa_nil))) (blkOk_by (own := [("one", 14)]) (N := n_law_due) (sc := defScope s_law_due) (by decide +kernel)) (fun _ _ _ _ _ => (pg_name (i := 14) sc_law_due.nd rfl (Or.inl rfl))) (fun _ _ _ _ _ => pts_nil) (fun _ _ _ _ _ => (pe_ix ix_tup (pv 14) pe_int (fun _ _ => rfl)))) pa_nil)))))))), pure_law_due T h⟩

end
end My


set_option maxHeartbeats 1000000
namespace My
open PySem PySem.Spec PyProof.Rows L2 Own LamX
open Evl (Ex RetV)
section
variable {P : Program} {w : World} {K : PySem.W.Frag} {mg : Str → Option Value} {base : Heap}

open Evl
/-! ### the law -/
theorem int_text {i : Nat} (h : i < 2 ^ 60) : ((PyData.int (i : Int)).shown).length ≤ 50 := text_le (.int (i : Int)) 0 (decide_eq_true (by rw [Int.natAbs_natCast]; omega))
theorem ints_text : ∀ l : List Nat, (∀ i ∈ l, i < 2 ^ 60) → piled (PyData.shownAll ((natI l).map PyData.int)) ≤ l.length * 52
  | [], _ => by simp [natI, PyData.shownAll, piled]
  | i :: l, h => by
    have h1 := int_text (h i List.mem_cons_self)
    have h2 := ints_text l fun x hx => h x (List.mem_cons_of_mem _ hx)
    show piled (PyData.shownAll (PyData.int (i : Int) :: (natI l).map PyData.int)) ≤ _
    simp only [PyData.shownAll, piled_cons, List.length_cons, Nat.succ_mul]
    omega
theorem D1_text {l : List Nat} (n : Nats 5 l) : (D1 l).shown.length ≤ 262 := by
  have h1 := ints_text l n.2
  have h2 := tuple_text (PyData.shownAll ((natI l).map PyData.int))
  have h3 := n.1
  show (PyData.tuple ((natI l).map PyData.int)).shown.length ≤ 262
  simp only [PyData.shown]
  omega
def N5 (x : N3) : Prop := Nats 5 x.1 ∧ Nats 5 x.2.1 ∧ Nats 5 x.2.2
theorem D3_text {x : N3} (n : N5 x) : (D3 x).shown.length ≤ 794 := by
  have h1 := D1_text n.1
  have h2 := D1_text n.2.1
  have h3 := D1_text n.2.2
  have h4 := tuple_text (PyData.shownAll [D1 x.1, D1 x.2.1, D1 x.2.2])
  unfold D3
  simp only [PyData.shown]
  simp only [PyData.shownAll, piled_cons, piled] at h4 ⊢
  simp at h4 ⊢
  omega
theorem D3s_text : ∀ xs : List N3, (∀ x ∈ xs, N5 x) → piled (PyData.shownAll (xs.map D3)) ≤ xs.length * 796
  | [], _ => by simp [PyData.shownAll, piled]
  | x :: xs, h => by
    have h1 := D3_text (h x List.mem_cons_self)
    have h2 := D3s_text xs fun y hy => h y (List.mem_cons_of_mem _ hy)
    simp only [List.map_cons, PyData.shownAll, piled_cons, List.length_cons, Nat.succ_mul]
    omega
theorem sub_nats {l ns : List Nat} {m : Nat} (s : l.Sublist ns) (n : Nats m ns) : Nats m l := ⟨Nat.le_trans s.length_le n.1, fun i hi => n.2 i (s.subset hi)⟩
theorem due_N5 {s : Shp} (c5 : s.c ≤ 5) (n4 : s.n ≤ 4) (L : List Nat) : ∀ x ∈ dueM s L, N5 x := by
  intro x hx
  have hx := (List.mergeSort_perm (dueL s L) _).mem_iff.mp hx
  rw [dueL_H, List.mem_flatMap] at hx
  obtain ⟨came, hc, hx⟩ := hx
  unfold dueH at hx
  rw [List.mem_flatMap] at hx
  obtain ⟨others, ho, hx⟩ := hx
  have nc : Nats 5 came := by
    have := sub_nats (partsM_sub _ _ rfl came hc) (rest_nats n4 (fun x => !decide (s.c + x ∈ L)))
    exact ⟨by have := this.1; omega, this.2⟩
  have no : Nats 5 others := by
    have := sub_nats (partsM_sub _ _ rfl others ho) (rest_nats n4 (fun i => !decide (i ∈ came)))
    exact ⟨by have := this.1; omega, this.2⟩
  unfold dueG at hx
  split at hx
  · unfold dueF at hx
    obtain ⟨mask, hm, rfl⟩ := List.mem_map.mp hx
    exact ⟨nc, no, sub_nats (partsM_sub _ _ rfl mask (List.mem_filter.mp hm).1) (kept_nats c5)⟩
  · cases hx
theorem due_len {s : Shp} (c5 : s.c ≤ 5) (n4 : s.n ≤ 4) (L : List Nat) : (dueM s L).length ≤ 8192 := by
  have : (dueM s L).length = (dueL s L).length := (List.mergeSort_perm _ _).length_eq
  have hz := preH (L := L) c5 n4 (partsM (freeM s L)).length
  rw [List.take_length] at hz
  rw [this, dueL_H]
  exact hz
/-- what is told, as data -/
def toldD (s : Shp) (L : List Nat) : PyData := .tuple ((dueM s L).map D3)
theorem told_fine {s : Shp} (c5 : s.c ≤ 5) (n4 : s.n ≤ 4) (L : List Nat) : ∀ d ∈ (dueM s L).map D3, fine 2 d = true := by
  intro d hd
  obtain ⟨x, hx, rfl⟩ := List.mem_map.mp hd
  have n5 := due_N5 c5 n4 L x hx
  have f1 : ∀ l : List Nat, Nats 5 l → fine 1 (D1 l) = true := fun l n => by
    show (decide (((natI l).map PyData.int).length ≤ 20) && ((natI l).map PyData.int).all (fine 0)) = true
    rw [Bool.and_eq_true]
    refine ⟨decide_eq_true (by rw [List.length_map]; unfold natI; rw [List.length_map]; have := n.1; omega), List.all_eq_true.mpr fun d hd => ?_⟩
    obtain ⟨i, hi, rfl⟩ := List.mem_map.mp hd
    obtain ⟨j, hj, rfl⟩ := List.mem_map.mp hi
    have := n.2 j hj
    exact decide_eq_true (by show (Int.natAbs (j : Int)) < 2 ^ 64; rw [Int.natAbs_natCast]; omega)
  show (decide (3 ≤ 20) && [D1 x.1, D1 x.2.1, D1 x.2.2].all (fine 1)) = true
  simp [f1 _ n5.1, f1 _ n5.2.1, f1 _ n5.2.2]
theorem told_ok {s : Shp} (c5 : s.c ≤ 5) (n4 : s.n ≤ 4) (L : List Nat) : (toldD s L).showable = true ∧ (toldD s L).hasDict = false ∧ (toldD s L).depth ≤ 60 ∧ (toldD s L).shown.length ≤ sizeLine := by
  have f := told_fine c5 n4 L
  obtain ⟨h1, h2, h3⟩ := showsAll _ 2 f
  have h4 := D3s_text _ (due_N5 c5 n4 L)
  have h5 := tuple_text (PyData.shownAll ((dueM s L).map D3))
  have h6 := due_len c5 n4 L
  unfold toldD
  refine ⟨by simpa only [PyData.showable] using h1, by simpa only [PyData.hasDict] using h2, by simp only [PyData.depth]; omega, ?_⟩
  simp only [PyData.shown]
  rw [sizeLine_eq]
  omega
theorem told_lay {s : Shp} (c5 : s.c ≤ 5) (n4 : s.n ≤ 4) (L : List Nat) : (toldD s L).canLay0 = true := by
  have := fine_layAll _ 2 (told_fine c5 n4 L)
  unfold toldD
  simpa only [PyData.canLay0] using this
theorem told_shaped {s : Shp} (c5 : s.c ≤ 5) (n4 : s.n ≤ 4) (L : List Nat) : SeqAt.shaped (toldD s L) = true := by
  unfold SeqAt.shaped
  rw [told_lay c5 n4 L, decide_eq_true (show (toldD s L).depth ≤ 64 by have := (told_ok c5 n4 L).2.2.1; omega)]
  rfl
theorem td_dp {s : Shp} {L : List Nat} {K : PySem.W.Frag} {H : Hp} {t : Addr} (h : TD K 2 ((dueM s L).map D3) t H) : Dp K H (.ref t) (toldD s L) := let ⟨_, h1, h2⟩ := h; .tup h1 h2.dp.1
theorem pwl : ∀ (l : List Nat) (lo n : Nat), (∀ i ∈ l, lo ≤ i ∧ i < n) → l.Pairwise (· < ·) → l.length + lo ≤ n ∨ l = []
  | [], _, _, _, _ => .inr rfl
  | x :: r, lo, n, h, p => .inl (by
    rw [List.pairwise_cons] at p
    have hx := h x List.mem_cons_self
    rcases pwl r (x + 1) n (fun i hi => ⟨p.1 i hi, (h i (List.mem_cons_of_mem _ hi)).2⟩) p.2 with z | z
    · rw [List.length_cons]; omega
    · subst z; show 1 + lo ≤ n; omega)
theorem pwl_len {l : List Nat} {n : Nat} (h : ∀ i ∈ l, i < n) (p : l.Pairwise (· < ·)) : l.length ≤ n := by
  rcases pwl l 0 n (fun i hi => ⟨Nat.zero_le _, h i hi⟩) p with z | z
  · omega
  · rw [z]; exact Nat.zero_le _
theorem ris_of5 : ∀ {l : List Int} {lo top : Int}, (∀ x ∈ l, lo ≤ x ∧ x < top) → l.Pairwise (· < ·) → risD lo (l.map PyData.int) top = true
  | [], _, _, _, _ => rfl
  | x :: l, lo, top, h, p => by
    rw [List.pairwise_cons] at p
    have hx := h x List.mem_cons_self
    rw [List.map_cons, ris_yes hx.1 (by omega)]
    exact ris_of5 (fun y hy => ⟨by have := p.1 y hy; omega, (h y (List.mem_cons_of_mem _ hy)).2⟩) p.2
theorem ris_D1 {l : List Nat} {top : Nat} (h : ∀ i ∈ l, i < top) (hp : l.Pairwise (· < ·)) : risingD (D1 l) (top : Int) = true :=
  ris_of5 (l := natI l) (fun x hx => by obtain ⟨i, hi, rfl⟩ := List.mem_map.mp hx; have := h i hi; omega) (by unfold natI; rw [List.pairwise_map]; exact hp.imp fun {a b} h => by omega)
end
end My


set_option maxHeartbeats 1000000
namespace My
open PySem PySem.Spec PyProof.Rows L2 Own LamX
open Evl (Ex RetV)
section
variable {P : Program} {w : World} {K : PySem.W.Frag} {mg : Str → Option Value} {base : Heap}

open Evl
theorem src_extN {a : Addr} {H H1 : Hp} (s : Src H a) (e : ExtN H H1) : Src H1 a := let ⟨x, y, h, r⟩ := s; ⟨x, y, e _ _ h (fun _ z => by cases z), r⟩
theorem tabs_up {a : Addr} {H H1 : Hp} {T : List (Addr × Str)} (t : Tabs T H) (u : Up a H H1) (s : Src H a) : Tabs T H1 := fun p hp => by
  obtain ⟨ps, h1, h2, h3⟩ := t p hp
  refine ⟨ps, u.keep _ _ (s.at h1 fun _ z => by cases z) h1, h2, fun pos cv hc => ?_⟩
  obtain ⟨c, e1, e2⟩ := h3 pos cv hc
  exact ⟨c, e1, u.keep _ _ (s.at e2 fun _ z => by unfold CodeO at z; cases z) e2⟩
theorem s_forX {K : PySem.W.Frag} {σ : L2.St} {H : Hp} {D : Ends} {tu : TS} {P : VP} {n j : Nat} {tl : TE} (h : EvX tl σ H (PLx n P)) (Pv : Hp → Nat → L2.St → Hp → Prop) (h0 : ∀ HL, Ex H HL → Pv HL 0 σ HL) (hE : ∀ HL i σ' H', Pv HL i σ' H' → Ex HL H')
    (hs : ∀ HL i x σ' H', Ex H HL → P x HL → Pv HL i σ' H' → tu { D with nx := Pv HL (i + 1), ct := Pv HL (i + 1), bk := D.nx } (σ'.set j (some x)) H') (hd : ∀ HL i σ' H', Ex H HL → Pv HL i σ' H' → D.nx σ' H') : tFor (iList K tl) (gName j) tu D σ H :=
  h H (.refl H) _ fun v HL eL ⟨L, xs, ev, hLx, _, hp⟩ => ⟨L, ev, ⟨xs, sq_of hLx⟩, for_list (xs := xs) (Pv HL) (h0 HL eL) (fun i σ' H' _ p => sq_of (hE HL i σ' H' p _ _ hLx)) (fun i x σ' H' hx p => hs HL i x σ' H' eL (hp x (List.mem_of_getElem? hx)) p) (fun σ' H' p => hd HL _ σ' H' eL p)⟩
theorem es_tupSub {K : PySem.W.Frag} {σ : L2.St} {H : Hp} {te : TE} {a : Addr} {H0 : Hp} {n : Nat} {w : Nat → V} (h : EvS a te σ H (PSubF H0 a n w)) : EvS a (tCB (rTupOf K) (tCons te tNil)) σ H (fun v' H' => ∃ (p : Addr) (S : List Nat), v' = .ref p ∧ SqT K H' p (S.map w) ∧ S.Pairwise (· < ·) ∧ ∀ i ∈ S, i < n) := fun H1 u Q q =>
  h H1 u _ fun x H2 u2 ⟨b, S, ev, _, _, hb, hp, hl⟩ => by
    subst ev
    exact ⟨b, _, rfl, .inl ⟨sq_of hb, fun t nt => q _ _ (u2.trans (.ex (Ex.new nt) u2.src)) ⟨t, S, rfl, st_of upd_same, hp, hl⟩⟩⟩
theorem rim2 (l : Int) : 1 ≤ (if (if 2 < l then 2 else l) > 1 then (if 2 < l then 2 else l) else 1) ∧ (if (if 2 < l then 2 else l) > 1 then (if 2 < l then 2 else l) else 1) ≤ 2 := by
  by_cases h : 2 < l
  · rw [if_pos h]; decide
  · rw [if_neg h]
    by_cases h2 : l > 1
    · rw [if_pos h2]; omega
    · rw [if_neg h2]; decide
def t_law (T : Txt K mg) : TS := (tSeq (tFor (iRng1 (tCons (tCB Own.rMax2 (tCons (tC (.int 1)) (tCons (tCB rMin2 (tCons (tCB (rLenV K) (tCons (tVar 0) tNil)) (tCons (tC (.int 2)) tNil))) tNil))) tNil)) (gName 1) (tSeq (tAsg (tCall (sp_law_pool T) [] E0 (tCons (tVar 0) (tCons (tVar 1) tNil))) (gName 2)) (tSeq (tAsg (tCall (sp_law_any_shape T) [] E0 (tCons (tVar 2) tNil)) (gName 3)) (tSeq (tAsg (tOp rAddI (tCB (rLenV K) (tCons (tOp (rIxT K) (tVar 3) (tC (.int 6))) tNil)) (tOp (rIxT K) (tVar 3) (tC (.int 2)))) (gName 4)) (tSeq (tAsg (tCB (rTupOf K) (tCons (tLc (iRng1 (tCons (tVar 4) tNil)) (gName 8) (tTest (tOp rEq (tCall (sp_law_take T) [] E0 (tCons (tVar 2) (tCons (tC (.int 4)) tNil))) (tC (.int 0)))) (tVar 8) [8]) tNil)) (gName 5)) (tSeq (tIfS (tTest (tOp rEq (tCall (sp_law_take T) [] E0 (tCons (tVar 2) (tCons (tC (.int 3)) tNil))) (tC (.int 0)))) (tAsg (tTup tNil) (gName 5)) tNext) (tSeq (tAsg (tCall (sp_kinds T) [] E0 (tCons (tVar 3) (tCons (tVar 5) tNil))) (gName 6)) (tSeq (tIfS (tOr (tTest (tOp rNe (tCB (rShow K) (tCons (tVar 6) tNil)) (tCB (rShow K) (tCons (tCall (sp_law_due T) [] E0 (tCons (tVar 3) (tCons (tVar 5) tNil))) tNil)))) (tTest (tOp (rNeD K) (tCall (sp_kinds T) [] E0 (tCons (tVar 3) (tCons (tVar 5) tNil))) (tVar 6)))) (tRet (tC (.bl false))) tNext) (tFor (iList K (tLst (tCons (tC .non) (tCons (tC (.int 0)) (tCons (tC (.str "0")) (tCons (tTup (tCons (tC (.int 0)) (tCons (tC (.int 0)) tNil))) (tCons (tTup (tCons (tVar 4) tNil)) (tCons (tTup (tCons (tUn rNegI (tC (.int 1))) tNil)) (tCons (tTup (tCons (tOp rSubI (tVar 4) (tC (.int 1))) (tCons (tC (.int 0)) tNil))) (tCons (tTup (tCons (tC (.str "0")) tNil)) tNil)))))))))) (gName 7) (tIfS (tNot (tB (tCall (sp_law_is_bad T) [] E0 (tCons (tVar 3) (tCons (tVar 7) tNil))))) (tRet (tC (.bl false))) tNext)))))))))) (tRet (tC (.bl true))))

theorem pure_law (T : Txt K mg) {vs H Q} {E : XK} (h : sp_law T.Ps K vs H Q E) : t_law T { nx := fun _ H' => Q .non H', rt := Q } (L2.start n_law vs) H := by
  obtain ⟨b, ns, rfl, hs, hl63, nolst, htab, q⟩ := h
  have hsk : ∀ {H' : Hp}, Kp H H' → SqL K H' b (ns.map V.int) := fun e => by
    rcases hs with (w | ⟨o, w⟩) | w
    · exact absurd w (nolst _)
    · exact .inl (.inr ⟨o, e b _ w ⟨(by intro xs z; cases z), (by intro xs z; cases z)⟩⟩)
    · exact .inr w
  have T0 : Tabs T.tabs H := fun p hp => TabS.nil (htab p.1 (by
    unfold Txt.tabs at hp
    unfold Txt.Ps
    simp only [List.mem_cons, List.not_mem_nil, or_false] at hp ⊢
    rw [hp]))
  have len3 := ev_lenL (K := K) (σ := L2.start n_law [.ref b]) (ta := tVar 0) (H := H) (ev_var rfl) hs
  have rm := rim2 ((ns.map V.int).length : Int)
  refine q_forR1 (ea_1 (Own.ev_max2 (ev_c (v := .int 1)) (ev_min2 len3 (ev_c (v := .int 2))))) ⟨by omega, by omega⟩ (fun i σ' H' => ∃ u1 u2 u3 u4 u5 u6 u7, σ' = [some (.ref b), u1, u2, u3, u4, u5, u6, u7, none] ∧ Kp H H' ∧ Tabs T.tabs H')
    (fun H4 e4 => ⟨_, _, _, _, _, _, _, rfl, .ex e4, T0.ext e4⟩) (fun i σ' H' hi p => ?_) (fun σ' H' ⟨u1, u2, u3, u4, u5, u6, u7, es, _, _⟩ => by subst es; exact s_ret ev_c fun H2 e2 => q H2)
  obtain ⟨u1, u2, u3, u4, u5, u6, u7, rfl, k4, T4⟩ := p
  have hi3 : i ≤ 100 := by
    have : (i : Int) < 4 := Int.lt_of_lt_of_le hi (by omega)
    omega
  refine ⟨_, rfl, _, rfl, b, ns, i, rfl, hsk k4, hl63, by omega, by omega, fun a H5 na e5 src => ?_⟩
  have T5 : Tabs T.tabs H5 := T4.ext e5
  refine ⟨_, rfl, a, rfl, src, fun sh s H6 u6' S6 o c5 n4 => ?_⟩
  have s6 := u6'.src
  have T6 : Tabs T.tabs H6 := tabs_up T5 u6' src
  have k6 : Kp H H6 := (k4.trans (.ex e5)).trans (u6'.kp src)
  refine q_asg (v := .int ((s.c + s.n : Nat) : Int)) (ev_is (ev_addI (sh_c S6 (ev_var rfl)) (sh_n S6 (ev_var rfl))) (by rw [Int.natCast_add])) fun H7 e7 => ?_
  have s7 : Src H7 a := s6.ex e7
  have T7 := T6.ext e7
  have S7 := S6.ex e7
  -- lost
  refine ss_asg s7 (es_tupSub (es_lcRT (n := s.c + s.n) (fun (i : Nat) => V.int (i : Int)) (fun H9 u9 => ev_var rfl) (by omega) (fun x => rfl) (fun i H9 u9 hi => est_cmpEq (es_take (lo := 4) (hi := 4) rfl (es_int (by decide) (by decide)) (by decide) (by decide))) (fun i H9 u9 hi => ev_var rfl))) fun v H9 u9 ⟨lo, lost, ev, hlo, hlp, hln⟩ => ?_
  subst ev
  have T9 := tabs_up T7 u9 s7
  have S9 := S7.kp (u9.kp s7)
  have k9 : Kp H H9 := (k6.trans (.ex e7)).trans (u9.kp s7)
  refine q_split (fun σ' H' => ∃ lo L, σ' = [some (.ref b), some (.int (i : Int)), some (.ref a), some (.ref sh), some (.int ((s.c + s.n : Nat) : Int)), some (.ref lo), u6, u7, none] ∧ Kp H H' ∧ Tabs T.tabs H' ∧ Sh K sh s H' ∧ SqT K H' lo (ofN L) ∧ L.Pairwise (· < ·) ∧ ∀ i ∈ L, i < s.c + s.n) ?_ (fun R => ?_)
  · rintro σ' H10 ⟨lo, L, rfl, k10, T10, S10, hL, hLp, hLn⟩
    have lL := pwl_len hLn hLp
    have gL : ∀ {H' : Hp}, Kp H10 H' → Gd K H' 1 (.ref lo) (D1 L) := fun e => gd_D1 (m := 20) (e.sqT hL) ⟨by omega, fun i hi => by have := hLn i hi; omega⟩ (Nat.le_refl _)
    have rL : risingD (D1 L) (s.c + s.n) = true := by
      have := ris_D1 hLn hLp
      rwa [Int.natCast_add] at this
    have KD : kindsM s L = dueM s L := due_kinds o n4 L
    refine ⟨_, rfl, _, rfl, sh, s, 1, _, D1 L, rfl, S10, o, c5, gL (.refl _), T10, fun _ => ⟨L, rfl, fun t H11 eN T11 td => ?_⟩, fun hr => by rw [rL] at hr; cases hr⟩
    rw [KD] at td
    have kN : Kp H10 H11 := extN_kp eN
    have S11 := Sh.kp kN S10
    have hL11 := kN.sqT hL
    have okT := told_ok c5 n4 L
    have shT : Ev (tCB (rShow K) (tCons (tVar 6) tNil)) [some (.ref b), some (.int (i : Int)), some (.ref a), some (.ref sh), some (.int ((s.c + s.n : Nat) : Int)), some (.ref lo), some (.ref t), u7, none] H11 (.str (toldD s L).shown) := fun H12 u12 Qv qv =>
      ⟨_, rfl, .ref t, toldD s L, rfl, td_dp (td.kp (.ex u12)), okT, qv H12 (.refl _)⟩
    have shD' : Ev (tCB (rShow K) (tCons (tCall (sp_law_due T) [] E0 (tCons (tVar 3) (tCons (tVar 5) tNil))) tNil)) [some (.ref b), some (.int (i : Int)), some (.ref a), some (.ref sh), some (.int ((s.c + s.n : Nat) : Int)), some (.ref lo), some (.ref t), u7, none] H11 (.str (toldD s L).shown) := fun H12 u12 Qv qv =>
      ⟨_, rfl, _, rfl, sh, s, lo, L, rfl, S11.ex u12, o, c5, n4, ex_t u12 hL11, fun t2 H13 e13 td2 => ⟨.ref t2, toldD s L, rfl, td_dp td2, okT, qv H13 e13⟩⟩
    refine et_neSame shT shD' H11 (.refl H11) _ fun H12 e12 => ?_
    dsimp only
    rw [if_neg (by decide)]
    have T12 := T11.ext e12
    refine ⟨_, rfl, _, rfl, sh, s, 1, _, D1 L, rfl, S11.ex e12, o, c5, gL (kN.trans (.ex e12)), T12, fun _ => ⟨L, rfl, fun t3 H13 eN3 T13 td3 => ?_⟩, fun hr => by rw [rL] at hr; cases hr⟩
    rw [KD] at td3
    have kN3 : Kp H11 H13 := (Kp.ex e12).trans (extN_kp eN3)
    refine ⟨_, rfl, toldD s L, toldD s L, td_dp td3, td_dp (td.kp kN3), told_shaped c5 n4 L, told_shaped c5 n4 L, ?_⟩
    rw [SeqAt.eqv_refl _ (told_lay c5 n4 L)]
    refine ⟨false, rfl, ?_⟩
    dsimp only
    rw [if_neg (by decide)]
    have S13 := Sh.kp kN3 S11
    have k13 : Kp H H13 := (k10.trans kN).trans kN3
    have n1 := o.n.1
    -- what is no lot of shelves
    have bd : ∀ {d : PyData} {σ : L2.St} {te : TE} {v : V}, (∀ H1, Ex H13 H1 → Ev te σ H1 v) → (∀ H1, Gd K H1 1 v d) → risingD d (s.c + s.n) = false → EvX te σ H13 (PBad K 1 fun d => risingD d (s.c + s.n) = false) := fun h g hr => fun H1 e Q q => h H1 e H1 (.refl H1) _ fun H2 e2 => q _ H2 e2 ⟨_, g H2, hr⟩
    have t1 : ∀ {d : PyData} {σ : L2.St} {te : TE}, EvX te σ H13 (PD K 0 d) → risingD (.tuple [d]) (s.c + s.n) = false → EvX (tTup (tCons te tNil)) σ H13 (PBad K 1 fun d => risingD d (s.c + s.n) = false) := fun h hr => fun H1 e Q q => h H1 e _ fun v H2 e2 g => ⟨by show 1 ≤ sizeLine; decide, fun p np => q _ _ (e2.trans (Ex.new np)) ⟨_, gd_tup (st_of upd_same) (.cons (Gd.ex (Ex.new np) g) .nil) (by show 1 ≤ 20; decide), hr⟩⟩
    have t2 : ∀ {d d2 : PyData} {σ : L2.St} {te tb : TE}, EvX te σ H13 (PD K 0 d) → EvX tb σ H13 (PD K 0 d2) → risingD (.tuple [d, d2]) (s.c + s.n) = false → EvX (tTup (tCons te (tCons tb tNil))) σ H13 (PBad K 1 fun d => risingD d (s.c + s.n) = false) := fun h h2 hr => fun H1 e Q q => h H1 e _ fun v H2 e2 g => h2 H2 (e.trans e2) _ fun w H3 e3 g2 => ⟨by show 2 ≤ sizeLine; decide, fun p np => q _ _ (e2.trans (e3.trans (Ex.new np))) ⟨_, gd_tup (st_of upd_same) (.cons (Gd.ex (e3.trans (Ex.new np)) g) (.cons (Gd.ex (Ex.new np) g2) .nil)) (by show 2 ≤ 20; decide), hr⟩⟩
    have cG : ∀ {i : Int} {σ : L2.St}, i.natAbs < 2 ^ 64 → EvX (tC (.int i)) σ H13 (PD K 0 (.int i)) := fun h => ex_c fun _ => gd_int h
    refine s_forX (K := K) (n := 8) (P := PBad K 1 fun d => risingD d (s.c + s.n) = false) (ex_lst (n := 8)
      (xa_cons (bd (v := .non) (fun H1 e => ev_c) (fun H1 => gd_non.up (by decide)) rfl)
      (xa_cons (bd (v := .int 0) (fun H1 e => ev_c) (fun H1 => (gd_int (by decide)).up (by decide)) rfl)
      (xa_cons (bd (v := .str "0") (fun H1 e => ev_c) (fun H1 => (gd_str (by decide +kernel)).up (by decide)) rfl)
      (xa_cons (t2 (d := .int 0) (d2 := .int 0) (cG (by decide)) (cG (by decide)) (by show (decide _ && decide _ && (decide ((0 : Int) + 1 ≤ 0) && _ && _)) = false; simp))
      (xa_cons (t1 (d := .int (s.c + s.n)) (ex_intD (i := (s.c : Int) + s.n) (ev_is (ev_var (i := 4) rfl) (by rw [Int.natCast_add])) (by omega)) (by show (decide _ && decide ((s.c : Int) + s.n ≤ s.c + s.n - 1) && _) = false; rw [decide_eq_false (p := (s.c : Int) + s.n ≤ s.c + s.n - 1) (by omega), Bool.and_false, Bool.false_and]))
      (xa_cons (t1 (d := .int (-1)) (ex_intD ev_neg1 (by decide)) rfl)
      (xa_cons (t2 (d := .int ((s.c : Int) + s.n - 1)) (d2 := .int 0) (ex_intD (i := (s.c : Int) + s.n - 1) (ev_subI (i := (s.c : Int) + s.n) (ev_is (ev_var (i := 4) rfl) (by rw [Int.natCast_add])) ev_c) (by omega)) (cG (by decide)) (by show (decide _ && decide _ && (decide ((s.c : Int) + s.n - 1 + 1 ≤ 0) && _ && _)) = false; rw [decide_eq_false (p := (s.c : Int) + s.n - 1 + 1 ≤ 0) (by omega), Bool.false_and, Bool.false_and, Bool.and_false]))
      (xa_cons (t1 (d := .str "0") (ex_c fun _ => gd_str (by decide +kernel)) rfl) xa_nil monoK_bad) monoK_bad) monoK_bad) monoK_bad) monoK_bad) monoK_bad) monoK_bad) monoK_bad) (by decide) monoK_bad)
      (fun HL j σ' H' => ∃ u, σ' = [some (.ref b), some (.int (i : Int)), some (.ref a), some (.ref sh), some (.int ((s.c + s.n : Nat) : Int)), some (.ref lo), some (.ref t), u, none] ∧ Ex HL H')
      (fun HL eL => ⟨_, rfl, .refl HL⟩) (fun HL j σ' H' ⟨_, _, e⟩ => e) (fun HL j x σ' H' eL px p => ?_) (fun HL j σ' H' eL p => ?_)
    · obtain ⟨u, rfl, eH⟩ := p
      obtain ⟨d, gdd, hr⟩ := px
      have E := eL.trans eH
      exact s_when (et_is (et_not (et_B (ev_call (sp := sp_law_is_bad T) (E := E0) (dvs := []) (ta := tCons (tVar 3) (tCons (tVar 7) tNil)) (ea_2 (ev_var (i := 3) rfl) (ev_var (i := 7) rfl)) (spv fun H1 e Q q E' => ⟨sh, s, 1, x, d, rfl, S13.ex (E.trans e), o, c5, (gdd.ex eH).ex e, T13.ext (E.trans e), hr, q⟩)))) (b := false) rfl) (fun c => by cases c) fun _ H14 e14 => ⟨_, rfl, eH.trans e14⟩
    · obtain ⟨u, rfl, eH⟩ := p
      exact ⟨_, _, _, _, _, _, _, rfl, k13.trans (.ex (eL.trans eH)), T13.ext (eL.trans eH)⟩
  · have s9 := u9.src
    refine est_cmpEq (es_take (s0 := 0) (a := a) (lo := 3) (hi := 3) rfl (es_int (by decide) (by decide)) (by decide) (by decide)) H9 (.refl s9) _ fun cc H10 u10 => ?_
    have T10 := tabs_up T9 u10 s9
    have S10 := S9.kp (u10.kp s9)
    have k10 : Kp H H10 := k9.trans (u10.kp s9)
    dsimp only
    cases cc with
    | true =>
      rw [if_pos rfl]
      exact ⟨Nat.zero_le _, fun p np => R _ _ ⟨p, [], rfl, k10.trans (.new np), T10.ext (Ex.new np), S10.ex (Ex.new np), st_of upd_same, .nil, fun i hi => absurd hi List.not_mem_nil⟩⟩
    | false =>
      rw [if_neg (by decide)]
      exact R _ _ ⟨lo, lost, rfl, k10, T10, S10, u10.sqT s9 hlo, hlp, hln⟩
theorem len_law (T : Txt K mg) {vs H Q E} (h : sp_law T.Ps K vs H Q E) : vs.length = 1 := by obtain ⟨_, _, rfl, _⟩ := h; rfl
theorem ok_law (T : Txt K mg) (B : Bt T base) : FnG P w K mg base CX0 8 T.f_law T.fd_law ["script"] (sp_law T.Ps K) :=
  fnG_ok T.d_law.F sc_law (fun vs H Q E h => len_law T h) fun cdv A outer s H vs Q E hg hr h => ⟨t_law T, by
    exact (pss_cons (ps_for PassesOwn.never rfl (pi_range1 (by rfl) T.m_range (pa_cons (pe_callB (call_max2 rfl) (by rfl) T.m_max (by decide +kernel) (pa_cons pe_int (pa_cons (pe_callB (call_min2 rfl) (by rfl) T.m_min (by decide +kernel) (pa_cons (pe_callB call_len (by rfl) T.m_len (by decide +kernel) (pa_cons (pv 0) pa_nil)) (pa_cons pe_int pa_nil))) pa_nil))) pa_nil)) (pg_name (i := 1) sc_law.nd rfl (Or.inl rfl)) (pss_cons (ps_set (i := 2) sc_law.nd rfl (Or.inr rfl) (pe_call (ok_law_pool T) (hr.mono (by decide)) (by rfl) T.d_law_pool.g T.d_law_pool.F.kp T.d_law_pool.b .nil pass0 (pa_cons (pv 0) (pa_cons (pv 1) pa_nil)))) (pss_cons (ps_set (i := 3) sc_law.nd rfl (Or.inl rfl) (pe_call (ok_law_any_shape T) (hr.mono (by decide)) (by rfl) T.d_law_any_shape.g T.d_law_any_shape.F.kp T.d_law_any_shape.b .nil pass0 (pa_cons (pv 2) pa_nil))) (pss_cons (ps_set (i := 4) sc_law.nd rfl (Or.inl rfl) (pe_op op_add (pe_callB call_len (by rfl) T.m_len (by decide +kernel) (pa_cons (pe_ix ix_tup (pv 3) pe_int (fun _ _ => rfl)) pa_nil)) (pe_ix ix_tup (pv 3) pe_int (fun _ _ => rfl)))) (pss_cons (ps_set (i := 5) sc_law.nd rfl (Or.inl rfl) (pe_callTy call_tuple_of (by rfl) T.m_tuple (by decide +kernel) (pa_cons (pe_lc (own := [("s", 8)]) (g := (gName 8)) (tt := (tTest (tOp rEq (tCall (sp_law_take T) [] E0 (tCons (tVar 2) (tCons (tC (.int 4)) tNil))) (tC (.int 0))))) (te := (tVar 8)) rfl sc_law.nd (pi_range1 (by rfl) T.m_range (pa_cons (pv 4) pa_nil)) (blkOk_by (own := [("s", 8)]) (N := n_law) (sc := defScope s_law) (by decide +kernel)) (fun _ _ _ _ _ => (pg_name (i := 8) sc_law.nd rfl (Or.inl rfl))) (fun _ _ _ _ _ => pts_one (pt_cmpR op_eq (pe_call (ok_law_take T) (hr.mono (by decide)) (by rfl) T.d_law_take.g T.d_law_take.F.kp T.d_law_take.b .nil pass0 (pa_cons (pv 2) (pa_cons pe_int pa_nil))) pe_int (nomark _))) (fun _ _ _ _ _ => (pv 8))) pa_nil))) (pss_cons (ps_if (pt_cmpR op_eq (pe_call (ok_law_take T) (hr.mono (by decide)) (by rfl) T.d_law_take.g T.d_law_take.F.kp T.d_law_take.b .nil pass0 (pa_cons (pv 2) (pa_cons pe_int pa_nil))) pe_int (nomark _)) (pss_one (ps_set (i := 5) sc_law.nd rfl (Or.inl rfl) (pe_tup pa_nil))) pss_nil) (pss_cons (ps_set (i := 6) sc_law.nd rfl (Or.inl rfl) (pe_call (ok_kinds T B) (hr.mono (by decide)) (by rfl) T.d_kinds.g T.d_kinds.F.kp T.d_kinds.b .nil passL (pa_cons (pv 3) (pa_cons (pv 5) pa_nil)))) (pss_cons (ps_if (PW.pt (pw_or (pt_cmpR op_ne (pe_callB (call_show hg hr.units) (by rfl) T.m_repr (by decide +kernel) (pa_cons (pv 6) pa_nil)) (pe_callB (call_show hg hr.units) (by rfl) T.m_repr (by decide +kernel) (pa_cons (pe_call (ok_law_due T) (hr.mono (by decide)) (by rfl) T.d_law_due.g T.d_law_due.F.kp T.d_law_due.b .nil pass0 (pa_cons (pv 3) (pa_cons (pv 5) pa_nil))) pa_nil)) (nomark _)) (pw_or1 (pt_cmpR (op_neD hr.units) (pe_call (ok_kinds T B) (hr.mono (by decide)) (by rfl) T.d_kinds.g T.d_kinds.F.kp T.d_kinds.b .nil passL (pa_cons (pv 3) (pa_cons (pv 5) pa_nil))) (pv 6) (nomark _))))) (pss_one (ps_ret pe_bl)) pss_nil) (pss_one (ps_for PassesOwn.never rfl (pi_list (pe_lst (pa_cons pe_non (pa_cons pe_int (pa_cons pe_str (pa_cons (pe_tup (pa_cons pe_int (pa_cons pe_int pa_nil))) (pa_cons (pe_tup (pa_cons (pv 4) pa_nil)) (pa_cons (pe_tup (pa_cons (pe_un un_neg pe_int) pa_nil)) (pa_cons (pe_tup (pa_cons (pe_op op_sub (pv 4) pe_int) (pa_cons pe_int pa_nil))) (pa_cons (pe_tup (pa_cons pe_str pa_nil)) pa_nil)))))))))) (pg_name (i := 7) sc_law.nd rfl (Or.inl rfl)) (pss_one (ps_if (pt_not (pt_val (pe_call (ok_law_is_bad T B) (hr.mono (by decide)) (by rfl) T.d_law_is_bad.g T.d_law_is_bad.F.kp T.d_law_is_bad.b .nil pass0 (pa_cons (pv 3) (pa_cons (pv 7) pa_nil))))) (pss_one (ps_ret pe_bl)) pss_nil)))))))))))) (pss_one (ps_ret pe_bl))), pure_law T h⟩

end
end My


namespace My
open PySem PySem.Spec PyProof.Rows L2 Own LamX
theorem all_mk {P : Program} {w : World} {K : PySem.W.Frag} {h : Heap} {mg : Str → Option Value} {fa : Addr} (ts : List Addr) (X : K.In h) (G : h.Ns mainGlobals mg) (hfa : mg "law" = some (.ref fa))
    {f0 : Addr} {od0 an0 : Option Addr} {sl0 : Array (Option Value)} {oc0 kV0 dc0 pm0 ct0 : Value} {cd0 : Value}
    (a0 : PySem.W.nsIn K mainGlobals "number_within" = some (some (.ref f0))) (l0 : K.lookup f0 = some ⟨oc0, od0, .func (PySem.W.fnOf "number_within" "number_within" (defArgs s_number_within) (defBody s_number_within) (defScope s_number_within) .none kV0 dc0 pm0 an0 cd0 ct0), sl0⟩) (c0 : PySem.W.codeIn K cd0 "number_within" = true) (k0 : PySem.W.keepIn K (.ref f0) = true)
    {f1 : Addr} {od1 an1 : Option Addr} {sl1 : Array (Option Value)} {oc1 kV1 dc1 pm1 ct1 : Value} {cd1 : Value}
    (a1 : PySem.W.nsIn K mainGlobals "tuple_of" = some (some (.ref f1))) (l1 : K.lookup f1 = some ⟨oc1, od1, .func (PySem.W.fnOf "tuple_of" "tuple_of" (defArgs s_tuple_of) (defBody s_tuple_of) (defScope s_tuple_of) .none kV1 dc1 pm1 an1 cd1 ct1), sl1⟩) (c1 : PySem.W.codeIn K cd1 "tuple_of" = true) (k1 : PySem.W.keepIn K (.ref f1) = true)
    {f2 : Addr} {od2 an2 : Option Addr} {sl2 : Array (Option Value)} {oc2 kV2 dc2 pm2 ct2 : Value} {cd2 : Value}
    (a2 : PySem.W.nsIn K mainGlobals "rising_below" = some (some (.ref f2))) (l2 : K.lookup f2 = some ⟨oc2, od2, .func (PySem.W.fnOf "rising_below" "rising_below" (defArgs s_rising_below) (defBody s_rising_below) (defScope s_rising_below) .none kV2 dc2 pm2 an2 cd2 ct2), sl2⟩) (c2 : PySem.W.codeIn K cd2 "rising_below" = true) (k2 : PySem.W.keepIn K (.ref f2) = true)
    {f3 : Addr} {od3 an3 : Option Addr} {sl3 : Array (Option Value)} {oc3 kV3 dc3 pm3 ct3 : Value} {cd3 : Value}
    (a3 : PySem.W.nsIn K mainGlobals "is_prime" = some (some (.ref f3))) (l3 : K.lookup f3 = some ⟨oc3, od3, .func (PySem.W.fnOf "is_prime" "is_prime" (defArgs s_is_prime) (defBody s_is_prime) (defScope s_is_prime) .none kV3 dc3 pm3 an3 cd3 ct3), sl3⟩) (c3 : PySem.W.codeIn K cd3 "is_prime" = true) (k3 : PySem.W.keepIn K (.ref f3) = true)
    {f4 : Addr} {od4 an4 : Option Addr} {sl4 : Array (Option Value)} {oc4 kV4 dc4 pm4 ct4 : Value} {cd4 : Value}
    (a4 : PySem.W.nsIn K mainGlobals "made_shape" = some (some (.ref f4))) (l4 : K.lookup f4 = some ⟨oc4, od4, .func (PySem.W.fnOf "made_shape" "made_shape" (defArgs s_made_shape) (defBody s_made_shape) (defScope s_made_shape) .none kV4 dc4 pm4 an4 cd4 ct4), sl4⟩) (c4 : PySem.W.codeIn K cd4 "made_shape" = true) (k4 : PySem.W.keepIn K (.ref f4) = true)
    {f5 : Addr} {od5 an5 : Option Addr} {sl5 : Array (Option Value)} {oc5 kV5 dc5 pm5 ct5 : Value} {cd5 : Value}
    (a5 : PySem.W.nsIn K mainGlobals "shape_fault" = some (some (.ref f5))) (l5 : K.lookup f5 = some ⟨oc5, od5, .func (PySem.W.fnOf "shape_fault" "shape_fault" (defArgs s_shape_fault) (defBody s_shape_fault) (defScope s_shape_fault) .none kV5 dc5 pm5 an5 cd5 ct5), sl5⟩) (c5 : PySem.W.codeIn K cd5 "shape_fault" = true) (k5 : PySem.W.keepIn K (.ref f5) = true)
    {f6 : Addr} {od6 an6 : Option Addr} {sl6 : Array (Option Value)} {oc6 kV6 dc6 pm6 ct6 : Value} {cd6 : Value}
    (a6 : PySem.W.nsIn K mainGlobals "table_fits" = some (some (.ref f6))) (l6 : K.lookup f6 = some ⟨oc6, od6, .func (PySem.W.fnOf "table_fits" "table_fits" (defArgs s_table_fits) (defBody s_table_fits) (defScope s_table_fits) .none kV6 dc6 pm6 an6 cd6 ct6), sl6⟩) (c6 : PySem.W.codeIn K cd6 "table_fits" = true) (k6 : PySem.W.keepIn K (.ref f6) = true)
    {f7 : Addr} {od7 an7 : Option Addr} {sl7 : Array (Option Value)} {oc7 kV7 dc7 pm7 ct7 : Value} {cd7 : Value}
    (a7 : PySem.W.nsIn K mainGlobals "numbers_fit" = some (some (.ref f7))) (l7 : K.lookup f7 = some ⟨oc7, od7, .func (PySem.W.fnOf "numbers_fit" "numbers_fit" (defArgs s_numbers_fit) (defBody s_numbers_fit) (defScope s_numbers_fit) .none kV7 dc7 pm7 an7 cd7 ct7), sl7⟩) (c7 : PySem.W.codeIn K cd7 "numbers_fit" = true) (k7 : PySem.W.keepIn K (.ref f7) = true)
    {f8 : Addr} {od8 an8 : Option Addr} {sl8 : Array (Option Value)} {oc8 kV8 dc8 pm8 ct8 : Value} {cd8 : Value}
    (a8 : PySem.W.nsIn K mainGlobals "shelves_of" = some (some (.ref f8))) (l8 : K.lookup f8 = some ⟨oc8, od8, .func (PySem.W.fnOf "shelves_of" "shelves_of" (defArgs s_shelves_of) (defBody s_shelves_of) (defScope s_shelves_of) .none kV8 dc8 pm8 an8 cd8 ct8), sl8⟩) (c8 : PySem.W.codeIn K cd8 "shelves_of" = true) (k8 : PySem.W.keepIn K (.ref f8) = true)
    {f9 : Addr} {od9 an9 : Option Addr} {sl9 : Array (Option Value)} {oc9 kV9 dc9 pm9 ct9 : Value} {cd9 : Value}
    (a9 : PySem.W.nsIn K mainGlobals "made_lost" = some (some (.ref f9))) (l9 : K.lookup f9 = some ⟨oc9, od9, .func (PySem.W.fnOf "made_lost" "made_lost" (defArgs s_made_lost) (defBody s_made_lost) (defScope s_made_lost) .none kV9 dc9 pm9 an9 cd9 ct9), sl9⟩) (c9 : PySem.W.codeIn K cd9 "made_lost" = true) (k9 : PySem.W.keepIn K (.ref f9) = true)
    {f10 : Addr} {od10 an10 : Option Addr} {sl10 : Array (Option Value)} {oc10 kV10 dc10 pm10 ct10 : Value}
    {cc10 P10 : Addr} {ty10 : Value} {odc10 : Option Addr} {vs10 : Array Value} {slc10 : Array (Option Value)}
    (a10 : PySem.W.nsIn K mainGlobals "kinds" = some (some (.ref f10))) (l10 : K.lookup f10 = some ⟨oc10, od10, .func (PySem.W.fnOf "kinds" "kinds" (defArgs s_kinds) (defBody s_kinds) (defScope s_kinds) .none kV10 dc10 pm10 an10 (.ref cc10) ct10), sl10⟩) (c10 : PySem.W.codeIn K (.ref cc10) "kinds" = true) (k10 : PySem.W.keepIn K (.ref f10) = true)
    (lc10 : K.lookup cc10 = some ⟨ty10, odc10, .fields vs10, slc10⟩) (vp10 : (vs10[11]? : Option Value) = some (.ref P10)) (hd10 : PySem.W.codeHdIn K cc10 P10 = true) (np10 : K.lookup P10 = none) (pt10 : P10 ∈ ts)
    {f11 : Addr} {od11 an11 : Option Addr} {sl11 : Array (Option Value)} {oc11 kV11 dc11 pm11 ct11 : Value} {cd11 : Value}
    (a11 : PySem.W.nsIn K mainGlobals "kept_sums" = some (some (.ref f11))) (l11 : K.lookup f11 = some ⟨oc11, od11, .func (PySem.W.fnOf "kept_sums" "kept_sums" (defArgs s_kept_sums) (defBody s_kept_sums) (defScope s_kept_sums) .none kV11 dc11 pm11 an11 cd11 ct11), sl11⟩) (c11 : PySem.W.codeIn K cd11 "kept_sums" = true) (k11 : PySem.W.keepIn K (.ref f11) = true)
    {f12 : Addr} {od12 an12 : Option Addr} {sl12 : Array (Option Value)} {oc12 kV12 dc12 pm12 ct12 : Value} {cd12 : Value}
    (a12 : PySem.W.nsIn K mainGlobals "lost_cells" = some (some (.ref f12))) (l12 : K.lookup f12 = some ⟨oc12, od12, .func (PySem.W.fnOf "lost_cells" "lost_cells" (defArgs s_lost_cells) (defBody s_lost_cells) (defScope s_lost_cells) .none kV12 dc12 pm12 an12 cd12 ct12), sl12⟩) (c12 : PySem.W.codeIn K cd12 "lost_cells" = true) (k12 : PySem.W.keepIn K (.ref f12) = true)
    {f13 : Addr} {od13 an13 : Option Addr} {sl13 : Array (Option Value)} {oc13 kV13 dc13 pm13 ct13 : Value} {cd13 : Value}
    (a13 : PySem.W.nsIn K mainGlobals "parts_of" = some (some (.ref f13))) (l13 : K.lookup f13 = some ⟨oc13, od13, .func (PySem.W.fnOf "parts_of" "parts_of" (defArgs s_parts_of) (defBody s_parts_of) (defScope s_parts_of) .none kV13 dc13 pm13 an13 cd13 ct13), sl13⟩) (c13 : PySem.W.codeIn K cd13 "parts_of" = true) (k13 : PySem.W.keepIn K (.ref f13) = true)
    {f14 : Addr} {od14 an14 : Option Addr} {sl14 : Array (Option Value)} {oc14 kV14 dc14 pm14 ct14 : Value} {cd14 : Value}
    (a14 : PySem.W.nsIn K mainGlobals "splits" = some (some (.ref f14))) (l14 : K.lookup f14 = some ⟨oc14, od14, .func (PySem.W.fnOf "splits" "splits" (defArgs s_splits) (defBody s_splits) (defScope s_splits) .none kV14 dc14 pm14 an14 cd14 ct14), sl14⟩) (c14 : PySem.W.codeIn K cd14 "splits" = true) (k14 : PySem.W.keepIn K (.ref f14) = true)
    {f15 : Addr} {od15 an15 : Option Addr} {sl15 : Array (Option Value)} {oc15 kV15 dc15 pm15 ct15 : Value} {cd15 : Value}
    (a15 : PySem.W.nsIn K mainGlobals "splits_of" = some (some (.ref f15))) (l15 : K.lookup f15 = some ⟨oc15, od15, .func (PySem.W.fnOf "splits_of" "splits_of" (defArgs s_splits_of) (defBody s_splits_of) (defScope s_splits_of) .none kV15 dc15 pm15 an15 cd15 ct15), sl15⟩) (c15 : PySem.W.codeIn K cd15 "splits_of" = true) (k15 : PySem.W.keepIn K (.ref f15) = true)
    {f16 : Addr} {od16 an16 : Option Addr} {sl16 : Array (Option Value)} {oc16 kV16 dc16 pm16 ct16 : Value} {cd16 : Value}
    (a16 : PySem.W.nsIn K mainGlobals "_law_pool" = some (some (.ref f16))) (l16 : K.lookup f16 = some ⟨oc16, od16, .func (PySem.W.fnOf "_law_pool" "_law_pool" (defArgs s_law_pool) (defBody s_law_pool) (defScope s_law_pool) .none kV16 dc16 pm16 an16 cd16 ct16), sl16⟩) (c16 : PySem.W.codeIn K cd16 "_law_pool" = true) (k16 : PySem.W.keepIn K (.ref f16) = true)
    {f17 : Addr} {od17 an17 : Option Addr} {sl17 : Array (Option Value)} {oc17 kV17 dc17 pm17 ct17 : Value} {cd17 : Value}
    (a17 : PySem.W.nsIn K mainGlobals "_law_take" = some (some (.ref f17))) (l17 : K.lookup f17 = some ⟨oc17, od17, .func (PySem.W.fnOf "_law_take" "_law_take" (defArgs s_law_take) (defBody s_law_take) (defScope s_law_take) .none kV17 dc17 pm17 an17 cd17 ct17), sl17⟩) (c17 : PySem.W.codeIn K cd17 "_law_take" = true) (k17 : PySem.W.keepIn K (.ref f17) = true)
    {f18 : Addr} {od18 an18 : Option Addr} {sl18 : Array (Option Value)} {oc18 kV18 dc18 pm18 ct18 : Value} {cd18 : Value}
    (a18 : PySem.W.nsIn K mainGlobals "_law_one" = some (some (.ref f18))) (l18 : K.lookup f18 = some ⟨oc18, od18, .func (PySem.W.fnOf "_law_one" "_law_one" (defArgs s_law_one) (defBody s_law_one) (defScope s_law_one) .none kV18 dc18 pm18 an18 cd18 ct18), sl18⟩) (c18 : PySem.W.codeIn K cd18 "_law_one" = true) (k18 : PySem.W.keepIn K (.ref f18) = true)
    {f19 : Addr} {od19 an19 : Option Addr} {sl19 : Array (Option Value)} {oc19 kV19 dc19 pm19 ct19 : Value} {cd19 : Value}
    (a19 : PySem.W.nsIn K mainGlobals "_law_any_shape" = some (some (.ref f19))) (l19 : K.lookup f19 = some ⟨oc19, od19, .func (PySem.W.fnOf "_law_any_shape" "_law_any_shape" (defArgs s_law_any_shape) (defBody s_law_any_shape) (defScope s_law_any_shape) .none kV19 dc19 pm19 an19 cd19 ct19), sl19⟩) (c19 : PySem.W.codeIn K cd19 "_law_any_shape" = true) (k19 : PySem.W.keepIn K (.ref f19) = true)
    {f20 : Addr} {od20 an20 : Option Addr} {sl20 : Array (Option Value)} {oc20 kV20 dc20 pm20 ct20 : Value} {cd20 : Value}
    (a20 : PySem.W.nsIn K mainGlobals "_law_lots_of" = some (some (.ref f20))) (l20 : K.lookup f20 = some ⟨oc20, od20, .func (PySem.W.fnOf "_law_lots_of" "_law_lots_of" (defArgs s_law_lots_of) (defBody s_law_lots_of) (defScope s_law_lots_of) .none kV20 dc20 pm20 an20 cd20 ct20), sl20⟩) (c20 : PySem.W.codeIn K cd20 "_law_lots_of" = true) (k20 : PySem.W.keepIn K (.ref f20) = true)
    {f21 : Addr} {od21 an21 : Option Addr} {sl21 : Array (Option Value)} {oc21 kV21 dc21 pm21 ct21 : Value} {cd21 : Value}
    (a21 : PySem.W.nsIn K mainGlobals "_law_due" = some (some (.ref f21))) (l21 : K.lookup f21 = some ⟨oc21, od21, .func (PySem.W.fnOf "_law_due" "_law_due" (defArgs s_law_due) (defBody s_law_due) (defScope s_law_due) .none kV21 dc21 pm21 an21 cd21 ct21), sl21⟩) (c21 : PySem.W.codeIn K cd21 "_law_due" = true) (k21 : PySem.W.keepIn K (.ref f21) = true)
    {f22 : Addr} {od22 an22 : Option Addr} {sl22 : Array (Option Value)} {oc22 kV22 dc22 pm22 ct22 : Value} {cd22 : Value}
    (a22 : PySem.W.nsIn K mainGlobals "_law_is_bad" = some (some (.ref f22))) (l22 : K.lookup f22 = some ⟨oc22, od22, .func (PySem.W.fnOf "_law_is_bad" "_law_is_bad" (defArgs s_law_is_bad) (defBody s_law_is_bad) (defScope s_law_is_bad) .none kV22 dc22 pm22 an22 cd22 ct22), sl22⟩) (c22 : PySem.W.codeIn K cd22 "_law_is_bad" = true) (k22 : PySem.W.keepIn K (.ref f22) = true)
    {f23 : Addr} {od23 an23 : Option Addr} {sl23 : Array (Option Value)} {oc23 kV23 dc23 pm23 ct23 : Value} {cd23 : Value}
    (a23 : PySem.W.nsIn K mainGlobals "law" = some (some (.ref f23))) (l23 : K.lookup f23 = some ⟨oc23, od23, .func (PySem.W.fnOf "law" "law" (defArgs s_law) (defBody s_law) (defScope s_law) .none kV23 dc23 pm23 an23 cd23 ct23), sl23⟩) (c23 : PySem.W.codeIn K cd23 "law" = true) (k23 : PySem.W.keepIn K (.ref f23) = true)
    {C_Refused : Addr} (ac_Refused : PySem.W.nsIn K mainGlobals "Refused" = some (some (.ref C_Refused)))
    {C_BadShape : Addr} (ac_BadShape : PySem.W.nsIn K mainGlobals "BadShape" = some (some (.ref C_BadShape)))
    {C_BadShelf : Addr} (ac_BadShelf : PySem.W.nsIn K mainGlobals "BadShelf" = some (some (.ref C_BadShelf)))
    {fI : Addr} {odI anI : Option Addr} {slI : Array (Option Value)} {ocI kVI dcI pmI cdI ctI : Value}
    (aI : PySem.W.findIn K (.ref C_Refused) "__init__" = some (some (.ref fI))) (lI : K.lookup fI = some ⟨ocI, odI, .func (PySem.W.fnOf "__init__" "Refused.__init__" (defArgs s_init) (defBody s_init) (defScope s_init) .none kVI dcI pmI anI cdI ctI), slI⟩) (cI : PySem.W.codeIn K cdI "Refused.__init__" = true) (kI : PySem.W.keepIn K (.ref fI) = true) (tI : PySem.W.typeIn K (.ref fI) = some (.type "function"))
    (eH_Refused : PySem.W.subIn K (.ref C_Refused) (.type "BaseException") = some true) (tH_Refused : PySem.W.typeIn K (.ref C_Refused) = some (.type "type")) (hH_Refused : PySem.W.hasDictIn K C_Refused = true)
    (eH_BadShelf : PySem.W.subIn K (.ref C_BadShelf) (.type "BaseException") = some true) (tH_BadShelf : PySem.W.typeIn K (.ref C_BadShelf) = some (.type "type")) (hH_BadShelf : PySem.W.hasDictIn K C_BadShelf = true)
    {nm_BadShape q_BadShape : Str} {N_BadShape : Addr} {bs_BadShape bm_BadShape : List Value} {sn_BadShape : List Str} {sub_BadShape : List Value} {ab_BadShape : Bool} {col_BadShape : Option Bool} {dd_BadShape : Option Addr} {x0_BadShape x1_BadShape x3_BadShape x5_BadShape : Option Value} {nmx_BadShape : Str} {tkx_BadShape : Tok}
    (xL_BadShape : K.lookup C_BadShape = some (excClassObj nm_BadShape q_BadShape C_BadShape N_BadShape bs_BadShape bm_BadShape true sn_BadShape sub_BadShape ab_BadShape col_BadShape dd_BadShape x0_BadShape x1_BadShape (some (.str nmx_BadShape tkx_BadShape)) x3_BadShape x5_BadShape "ValueError.__new__"))
    (xm_BadShape : PySem.HandSPX.refsVE bm_BadShape = true)
    (sa_BadShape : PySem.W.findIn K (.ref C_BadShape) "__setattr__" = some (some (.builtin "object.__setattr__"))) (ga_BadShape : PySem.W.findIn K (.ref C_BadShape) "__getattribute__" = some (some (.builtin "BaseException.__getattribute__"))) (gg_BadShape : PySem.W.findIn K (.ref C_BadShape) "__getattr__" = some none) (nw_BadShape : PySem.W.findIn K (.ref C_BadShape) "what" = some none) (in_BadShape : PySem.W.findIn K (.ref C_BadShape) "__init__" = some (some (.ref fI)))
    (kC_BadShape : PySem.W.keepIn K (.ref C_BadShape) = true) (eC_BadShape : PySem.W.subIn K (.ref C_BadShape) (.type "BaseException") = some true) (tC_BadShape : PySem.W.typeIn K (.ref C_BadShape) = some (.type "type")) (hC_BadShape : PySem.W.hasDictIn K C_BadShape = true)
    (ca_BadShape : PySem.W.findIn K (.ref C_BadShape) "__class__" = some (some (.builtin "object.__class__"))) (mo_BadShape : PySem.W.mroIn K C_BadShape (.type "object") = some true)
    (rd_BadShape : PySem.W.readsIn K C_BadShape (.type "type") = true) (fc_BadShape : PySem.W.findCls K (.ref C_BadShape) (.type "type") "__name__" = some (.get (.builtin "getset_descriptor.__get__") (.builtin "type.__name__") (.ref C_BadShape) (.type "type"))) (nn_BadShape : PySem.W.findIn K (.ref C_BadShape) "name" = some none)
    {nm_BadShelf q_BadShelf : Str} {N_BadShelf : Addr} {bs_BadShelf bm_BadShelf : List Value} {sn_BadShelf : List Str} {sub_BadShelf : List Value} {ab_BadShelf : Bool} {col_BadShelf : Option Bool} {dd_BadShelf : Option Addr} {x0_BadShelf x1_BadShelf x3_BadShelf x5_BadShelf : Option Value} {nmx_BadShelf : Str} {tkx_BadShelf : Tok}
    (xL_BadShelf : K.lookup C_BadShelf = some (excClassObj nm_BadShelf q_BadShelf C_BadShelf N_BadShelf bs_BadShelf bm_BadShelf true sn_BadShelf sub_BadShelf ab_BadShelf col_BadShelf dd_BadShelf x0_BadShelf x1_BadShelf (some (.str nmx_BadShelf tkx_BadShelf)) x3_BadShelf x5_BadShelf "ValueError.__new__"))
    (xm_BadShelf : PySem.HandSPX.refsVE bm_BadShelf = true)
    (sa_BadShelf : PySem.W.findIn K (.ref C_BadShelf) "__setattr__" = some (some (.builtin "object.__setattr__"))) (ga_BadShelf : PySem.W.findIn K (.ref C_BadShelf) "__getattribute__" = some (some (.builtin "BaseException.__getattribute__"))) (gg_BadShelf : PySem.W.findIn K (.ref C_BadShelf) "__getattr__" = some none) (nw_BadShelf : PySem.W.findIn K (.ref C_BadShelf) "what" = some none) (in_BadShelf : PySem.W.findIn K (.ref C_BadShelf) "__init__" = some (some (.ref fI)))
    (kC_BadShelf : PySem.W.keepIn K (.ref C_BadShelf) = true) (eC_BadShelf : PySem.W.subIn K (.ref C_BadShelf) (.type "BaseException") = some true) (tC_BadShelf : PySem.W.typeIn K (.ref C_BadShelf) = some (.type "type")) (hC_BadShelf : PySem.W.hasDictIn K C_BadShelf = true)
    (ca_BadShelf : PySem.W.findIn K (.ref C_BadShelf) "__class__" = some (some (.builtin "object.__class__"))) (mo_BadShelf : PySem.W.mroIn K C_BadShelf (.type "object") = some true)
    (rd_BadShelf : PySem.W.readsIn K C_BadShelf (.type "type") = true) (fc_BadShelf : PySem.W.findCls K (.ref C_BadShelf) (.type "type") "__name__" = some (.get (.builtin "getset_descriptor.__get__") (.builtin "type.__name__") (.ref C_BadShelf) (.type "type"))) (nn_BadShelf : PySem.W.findIn K (.ref C_BadShelf) "name" = some none)
    (sH_BadShelf_BadShelf : PySem.W.subIn K (.ref C_BadShelf) (.ref C_BadShelf) = some true)
    (cn : PySem.W.specialIn K (.builtin "object.__class__") "__get__" = some (some (.builtin "getset_descriptor.__get__"))) (ct : PySem.W.takesIn K (.builtin "object.__class__") = some true)
    (z_all : PySem.W.nsIn K mainGlobals "all" = some none)
    (z_bool : PySem.W.nsIn K mainGlobals "bool" = some none)
    (z_int : PySem.W.nsIn K mainGlobals "int" = some none)
    (z_isinstance : PySem.W.nsIn K mainGlobals "isinstance" = some none)
    (z_len : PySem.W.nsIn K mainGlobals "len" = some none)
    (z_max : PySem.W.nsIn K mainGlobals "max" = some none)
    (z_min : PySem.W.nsIn K mainGlobals "min" = some none)
    (z_range : PySem.W.nsIn K mainGlobals "range" = some none)
    (z_repr : PySem.W.nsIn K mainGlobals "repr" = some none)
    (z_sorted : PySem.W.nsIn K mainGlobals "sorted" = some none)
    (z_tuple : PySem.W.nsIn K mainGlobals "tuple" = some none)
    (im_combinations : PySem.W.nsIn K mainGlobals "combinations" = some (some (.type "itertools.combinations")))
    {tk_GREATEST_PRIME : Tok} (v_GREATEST_PRIME : PySem.W.nsIn K mainGlobals "GREATEST_PRIME" = some (some (.int 1000003 tk_GREATEST_PRIME))) :
    ∃ (fd : FuncData) (cs : List (Addr × Addr)), (∀ p ∈ cs, p.2 ∈ ts) ∧ (∀ p ∈ cs, K.lookup p.2 = none) ∧ (∀ p ∈ cs, PySem.W.codeHdIn K p.1 p.2 = true) ∧ (∀ (s : Shared) (v : Value), BindsTo s fd ⟨[v], []⟩ [("script", v)]) ∧ ∀ base : Heap, K.In base → base.Ns mainGlobals mg → (∀ p ∈ cs, TabB base mg p.1 p.2) → FnG P w K mg base CX0 8 fa fd ["script"] (sp_law (cs.map (·.2)) K) := by
  have e : f23 = fa := Value.ref.inj (Option.some.inj ((PySem.W.mg_of X G a23).symm.trans hfa))
  subst e
  let T : Txt K mg := {
    f_number_within := f0, fd_number_within := _, d_number_within := ⟨fun_mk (st := s_number_within) l0 c0 k0, PySem.W.mg_of X G a0, (fun_mk (st := s_number_within) l0 c0 k0).binds (ps := ["thing", "low", "high"]) fun _ _ _ _ _ _ us hl => match us, hl with | [_, _, _], _ => rfl⟩,
    f_tuple_of := f1, fd_tuple_of := _, d_tuple_of := ⟨fun_mk (st := s_tuple_of) l1 c1 k1, PySem.W.mg_of X G a1, (fun_mk (st := s_tuple_of) l1 c1 k1).binds (ps := ["thing", "many"]) fun _ _ _ _ _ _ us hl => match us, hl with | [_, _], _ => rfl⟩,
    f_rising_below := f2, fd_rising_below := _, d_rising_below := ⟨fun_mk (st := s_rising_below) l2 c2 k2, PySem.W.mg_of X G a2, (fun_mk (st := s_rising_below) l2 c2 k2).binds (ps := ["thing", "top"]) fun _ _ _ _ _ _ us hl => match us, hl with | [_, _], _ => rfl⟩,
    f_is_prime := f3, fd_is_prime := _, d_is_prime := ⟨fun_mk (st := s_is_prime) l3 c3 k3, PySem.W.mg_of X G a3, (fun_mk (st := s_is_prime) l3 c3 k3).binds (ps := ["p"]) fun _ _ _ _ _ _ us hl => match us, hl with | [_], _ => rfl⟩,
    f_made_shape := f4, fd_made_shape := _, d_made_shape := ⟨fun_mk (st := s_made_shape) l4 c4 k4, PySem.W.mg_of X G a4, (fun_mk (st := s_made_shape) l4 c4 k4).binds (ps := ["thing"]) fun _ _ _ _ _ _ us hl => match us, hl with | [_], _ => rfl⟩,
    f_shape_fault := f5, fd_shape_fault := _, d_shape_fault := ⟨fun_mk (st := s_shape_fault) l5 c5 k5, PySem.W.mg_of X G a5, (fun_mk (st := s_shape_fault) l5 c5 k5).binds (ps := ["thing"]) fun _ _ _ _ _ _ us hl => match us, hl with | [_], _ => rfl⟩,
    f_table_fits := f6, fd_table_fits := _, d_table_fits := ⟨fun_mk (st := s_table_fits) l6 c6 k6, PySem.W.mg_of X G a6, (fun_mk (st := s_table_fits) l6 c6 k6).binds (ps := ["table", "n", "p"]) fun _ _ _ _ _ _ us hl => match us, hl with | [_, _, _], _ => rfl⟩,
    f_numbers_fit := f7, fd_numbers_fit := _, d_numbers_fit := ⟨fun_mk (st := s_numbers_fit) l7 c7 k7, PySem.W.mg_of X G a7, (fun_mk (st := s_numbers_fit) l7 c7 k7).binds (ps := ["thing", "many", "p"]) fun _ _ _ _ _ _ us hl => match us, hl with | [_, _, _], _ => rfl⟩,
    f_shelves_of := f8, fd_shelves_of := _, d_shelves_of := ⟨fun_mk (st := s_shelves_of) l8 c8 k8, PySem.W.mg_of X G a8, (fun_mk (st := s_shelves_of) l8 c8 k8).binds (ps := ["shape"]) fun _ _ _ _ _ _ us hl => match us, hl with | [_], _ => rfl⟩,
    f_made_lost := f9, fd_made_lost := _, d_made_lost := ⟨fun_mk (st := s_made_lost) l9 c9 k9, PySem.W.mg_of X G a9, (fun_mk (st := s_made_lost) l9 c9 k9).binds (ps := ["shape", "thing"]) fun _ _ _ _ _ _ us hl => match us, hl with | [_, _], _ => rfl⟩,
    cc_kinds := cc10, P_kinds := P10, FC_kinds := ⟨_, _, _, _, _, _, _, _, rfl, l10, c10⟩,
    f_kinds := f10, fd_kinds := _, d_kinds := ⟨fun_mk (st := s_kinds) l10 c10 k10, PySem.W.mg_of X G a10, (fun_mk (st := s_kinds) l10 c10 k10).binds (ps := ["shape", "lost"]) fun _ _ _ _ _ _ us hl => match us, hl with | [_, _], _ => rfl⟩,
    f_kept_sums := f11, fd_kept_sums := _, d_kept_sums := ⟨fun_mk (st := s_kept_sums) l11 c11 k11, PySem.W.mg_of X G a11, (fun_mk (st := s_kept_sums) l11 c11 k11).binds (ps := ["shape", "lost"]) fun _ _ _ _ _ _ us hl => match us, hl with | [_, _], _ => rfl⟩,
    f_lost_cells := f12, fd_lost_cells := _, d_lost_cells := ⟨fun_mk (st := s_lost_cells) l12 c12 k12, PySem.W.mg_of X G a12, (fun_mk (st := s_lost_cells) l12 c12 k12).binds (ps := ["shape", "lost"]) fun _ _ _ _ _ _ us hl => match us, hl with | [_, _], _ => rfl⟩,
    f_parts_of := f13, fd_parts_of := _, d_parts_of := ⟨fun_mk (st := s_parts_of) l13 c13 k13, PySem.W.mg_of X G a13, (fun_mk (st := s_parts_of) l13 c13 k13).binds (ps := ["numbers"]) fun _ _ _ _ _ _ us hl => match us, hl with | [_], _ => rfl⟩,
    f_splits := f14, fd_splits := _, d_splits := ⟨fun_mk (st := s_splits) l14 c14 k14, PySem.W.mg_of X G a14, (fun_mk (st := s_splits) l14 c14 k14).binds (ps := ["shape", "lost"]) fun _ _ _ _ _ _ us hl => match us, hl with | [_, _], _ => rfl⟩,
    f_splits_of := f15, fd_splits_of := _, d_splits_of := ⟨fun_mk (st := s_splits_of) l15 c15 k15, PySem.W.mg_of X G a15, (fun_mk (st := s_splits_of) l15 c15 k15).binds (ps := ["shape", "lost", "size"]) fun _ _ _ _ _ _ us hl => match us, hl with | [_, _, _], _ => rfl⟩,
    f_law_pool := f16, fd_law_pool := _, d_law_pool := ⟨fun_mk (st := s_law_pool) l16 c16 k16, PySem.W.mg_of X G a16, (fun_mk (st := s_law_pool) l16 c16 k16).binds (ps := ["script", "k"]) fun _ _ _ _ _ _ us hl => match us, hl with | [_, _], _ => rfl⟩,
    f_law_take := f17, fd_law_take := _, d_law_take := ⟨fun_mk (st := s_law_take) l17 c17 k17, PySem.W.mg_of X G a17, (fun_mk (st := s_law_take) l17 c17 k17).binds (ps := ["source", "top"]) fun _ _ _ _ _ _ us hl => match us, hl with | [_, _], _ => rfl⟩,
    f_law_one := f18, fd_law_one := _, d_law_one := ⟨fun_mk (st := s_law_one) l18 c18 k18, PySem.W.mg_of X G a18, (fun_mk (st := s_law_one) l18 c18 k18).binds (ps := ["source", "things"]) fun _ _ _ _ _ _ us hl => match us, hl with | [_, _], _ => rfl⟩,
    f_law_any_shape := f19, fd_law_any_shape := _, d_law_any_shape := ⟨fun_mk (st := s_law_any_shape) l19 c19 k19, PySem.W.mg_of X G a19, (fun_mk (st := s_law_any_shape) l19 c19 k19).binds (ps := ["source"]) fun _ _ _ _ _ _ us hl => match us, hl with | [_], _ => rfl⟩,
    f_law_lots_of := f20, fd_law_lots_of := _, d_law_lots_of := ⟨fun_mk (st := s_law_lots_of) l20 c20 k20, PySem.W.mg_of X G a20, (fun_mk (st := s_law_lots_of) l20 c20 k20).binds (ps := ["things"]) fun _ _ _ _ _ _ us hl => match us, hl with | [_], _ => rfl⟩,
    f_law_due := f21, fd_law_due := _, d_law_due := ⟨fun_mk (st := s_law_due) l21 c21 k21, PySem.W.mg_of X G a21, (fun_mk (st := s_law_due) l21 c21 k21).binds (ps := ["shape", "lost"]) fun _ _ _ _ _ _ us hl => match us, hl with | [_, _], _ => rfl⟩,
    f_law_is_bad := f22, fd_law_is_bad := _, d_law_is_bad := ⟨fun_mk (st := s_law_is_bad) l22 c22 k22, PySem.W.mg_of X G a22, (fun_mk (st := s_law_is_bad) l22 c22 k22).binds (ps := ["shape", "lot"]) fun _ _ _ _ _ _ us hl => match us, hl with | [_, _], _ => rfl⟩,
    f_law := f23, fd_law := _, d_law := ⟨fun_mk (st := s_law) l23 c23 k23, PySem.W.mg_of X G a23, (fun_mk (st := s_law) l23 c23 k23).binds (ps := ["script"]) fun _ _ _ _ _ _ us hl => match us, hl with | [_], _ => rfl⟩,
    c_Refused := C_Refused, g_Refused := PySem.W.mg_of X G ac_Refused,
    c_BadShape := C_BadShape, g_BadShape := PySem.W.mg_of X G ac_BadShape,
    c_BadShelf := C_BadShelf, g_BadShelf := PySem.W.mg_of X G ac_BadShelf,
    f_init := fI, fd_init := _, d_init := fun_mk (st := s_init) lI cI kI, b_init := (fun_mk (st := s_init) lI cI kI).binds (ps := ["self", "what"]) fun _ _ _ _ _ _ us hl => match us, hl with | [_, _], _ => rfl, ti := tI,
    o_BadShape := ⟨⟨_, _, _, _, _, _, _, _, _, _, _, _, _, _, _, xL_BadShape, xm_BadShape⟩, sa_BadShape, eC_BadShape, tC_BadShape, kC_BadShape⟩, i_BadShape := in_BadShape, n_BadShape_what := ⟨nw_BadShape, nmx_BadShape, ⟨ga_BadShape, gg_BadShape, eC_BadShape, hC_BadShape, ca_BadShape, cn, ct, mo_BadShape⟩, rd_BadShape, tC_BadShape, fc_BadShape, ⟨_, tkx_BadShape, xL_BadShape, rfl⟩, nn_BadShape⟩, x_BadShape := ⟨ga_BadShape, gg_BadShape, eC_BadShape, hC_BadShape⟩, e_BadShape := ⟨ga_BadShape, gg_BadShape, eC_BadShape, hC_BadShape, ca_BadShape, cn, ct, mo_BadShape⟩,
    o_BadShelf := ⟨⟨_, _, _, _, _, _, _, _, _, _, _, _, _, _, _, xL_BadShelf, xm_BadShelf⟩, sa_BadShelf, eC_BadShelf, tC_BadShelf, kC_BadShelf⟩, i_BadShelf := in_BadShelf, n_BadShelf_what := ⟨nw_BadShelf, nmx_BadShelf, ⟨ga_BadShelf, gg_BadShelf, eC_BadShelf, hC_BadShelf, ca_BadShelf, cn, ct, mo_BadShelf⟩, rd_BadShelf, tC_BadShelf, fc_BadShelf, ⟨_, tkx_BadShelf, xL_BadShelf, rfl⟩, nn_BadShelf⟩, x_BadShelf := ⟨ga_BadShelf, gg_BadShelf, eC_BadShelf, hC_BadShelf⟩, e_BadShelf := ⟨ga_BadShelf, gg_BadShelf, eC_BadShelf, hC_BadShelf, ca_BadShelf, cn, ct, mo_BadShelf⟩,
    te_BadShelf_BadShelf := PySem.W.exm_ref eH_BadShelf hH_BadShelf tH_BadShelf sH_BadShelf_BadShelf,
    m_all := PySem.W.mg_none_of X G z_all,
    m_bool := PySem.W.mg_none_of X G z_bool,
    m_int := PySem.W.mg_none_of X G z_int,
    m_isinstance := PySem.W.mg_none_of X G z_isinstance,
    m_len := PySem.W.mg_none_of X G z_len,
    m_max := PySem.W.mg_none_of X G z_max,
    m_min := PySem.W.mg_none_of X G z_min,
    m_range := PySem.W.mg_none_of X G z_range,
    m_repr := PySem.W.mg_none_of X G z_repr,
    m_sorted := PySem.W.mg_none_of X G z_sorted,
    m_tuple := PySem.W.mg_none_of X G z_tuple,
    i_combinations := PySem.W.mg_of X G im_combinations,
    tk_GREATEST_PRIME := tk_GREATEST_PRIME, v_GREATEST_PRIME := PySem.W.mg_of X G v_GREATEST_PRIME }
  refine ⟨T.fd_law, [(cc10, P10)], (fun p hp => by
      simp only [List.mem_cons, List.not_mem_nil, or_false] at hp
      rcases hp with rfl
      · exact pt10), (fun p hp => by
      simp only [List.mem_cons, List.not_mem_nil, or_false] at hp
      rcases hp with rfl
      · exact np10), (fun p hp => by
      simp only [List.mem_cons, List.not_mem_nil, or_false] at hp
      rcases hp with rfl
      · exact hd10), fun s v => .of_eq rfl, fun base _ _ hB => ?_⟩
  have B : Bt T base := ⟨hB (cc10, P10) (List.mem_cons_self)⟩
  exact ok_law T B
end My
open PySem PySem.W PyProof.Rows
set_option maxHeartbeats 0 in
theorem PySem.Challenge.cw_twicemany_k05_kinds_of_a_loss_in_order_holds : PySem.Challenge.rw_twicemany_k05_kinds_of_a_loss_in_order.Holds := by
  w_on; o_law; k_head; (case hw => w_witness2)
  k_fill
  refine Own.walkGT (l := PySem.Challenge.rw_twicemany_k05_kinds_of_a_loss_in_order) (n := 63) (k := 8) (x := "script") (sp := fun Ps K => My.sp_law Ps K) rfl (by decide) rfl ⟨rfl, by decide, by decide⟩ (fun w h Y => ⟨PySem.W.km_in_of Y, PySem.W.km_tabs_of Y⟩) ?F (fun Ps K H a ns h1 h2 h3 h4 => My.law_sp h1 h2 h3 h4)
  case F =>
    intro w mg fa h KX G hmg
    refine' My.all_mk _ KX G hmg ?a0 ?l0 ?c0 ?k0 ?a1 ?l1 ?c1 ?k1 ?a2 ?l2 ?c2 ?k2 ?a3 ?l3 ?c3 ?k3 ?a4 ?l4 ?c4 ?k4 ?a5 ?l5 ?c5 ?k5 ?a6 ?l6 ?c6 ?k6 ?a7 ?l7 ?c7 ?k7 ?a8 ?l8 ?c8 ?k8 ?a9 ?l9 ?c9 ?k9 ?a10 ?l10 ?c10 ?k10 ?lc10 ?vp10 ?hd10 ?np10 ?pt10 ?a11 ?l11 ?c11 ?k11 ?a12 ?l12 ?c12 ?k12 ?a13 ?l13 ?c13 ?k13 ?a14 ?l14 ?c14 ?k14 ?a15 ?l15 ?c15 ?k15 ?a16 ?l16 ?c16 ?k16 ?a17 ?l17 ?c17 ?k17 ?a18 ?l18 ?c18 ?k18 ?a19 ?l19 ?c19 ?k19 ?a20 ?l20 ?c20 ?k20 ?a21 ?l21 ?c21 ?k21 ?a22 ?l22 ?c22 ?k22 ?a23 ?l23 ?c23 ?k23 ?ac_Refused ?ac_BadShape ?ac_BadShelf ?aI ?lI ?cI ?kI ?tI ?eH_Refused ?tH_Refused ?hH_Refused ?eH_BadShelf ?tH_BadShelf ?hH_BadShelf ?xL_BadShape ?xm_BadShape ?sa_BadShape ?ga_BadShape ?gg_BadShape ?nw_BadShape ?in_BadShape ?kC_BadShape ?eC_BadShape ?tC_BadShape ?hC_BadShape ?ca_BadShape ?mo_BadShape ?rd_BadShape ?fc_BadShape ?nn_BadShape ?xL_BadShelf ?xm_BadShelf ?sa_BadShelf ?ga_BadShelf ?gg_BadShelf ?nw_BadShelf ?in_BadShelf ?kC_BadShelf ?eC_BadShelf ?tC_BadShelf ?hC_BadShelf ?ca_BadShelf ?mo_BadShelf ?rd_BadShelf ?fc_BadShelf ?nn_BadShelf ?sH_BadShelf_BadShelf ?cn ?ct ?z_all ?z_bool ?z_int ?z_isinstance ?z_len ?z_max ?z_min ?z_range ?z_repr ?z_sorted ?z_tuple ?im_combinations ?v_GREATEST_PRIME
    (case a0 => k_is); (case l0 => k_is); (case c0 => k_is); (case k0 => k_is); (case a1 => k_is); (case l1 => k_is); (case c1 => k_is); (case k1 => k_is); (case a2 => k_is); (case l2 => k_is); (case c2 => k_is); (case k2 => k_is); (case a3 => k_is); (case l3 => k_is); (case c3 => k_is); (case k3 => k_is); (case a4 => k_is); (case l4 => k_is); (case c4 => k_is); (case k4 => k_is); (case a5 => k_is); (case l5 => k_is); (case c5 => k_is); (case k5 => k_is); (case a6 => k_is); (case l6 => k_is); (case c6 => k_is); (case k6 => k_is); (case a7 => k_is); (case l7 => k_is); (case c7 => k_is); (case k7 => k_is); (case a8 => k_is); (case l8 => k_is); (case c8 => k_is); (case k8 => k_is); (case a9 => k_is); (case l9 => k_is); (case c9 => k_is); (case k9 => k_is); (case a10 => k_is); (case l10 => k_is); (case c10 => k_is); (case k10 => k_is); (case lc10 => k_is); (case vp10 => rfl); (case hd10 => kernel_rfl); (case np10 => kernel_rfl); (case pt10 => decide); (case a11 => k_is); (case l11 => k_is); (case c11 => k_is); (case k11 => k_is); (case a12 => k_is); (case l12 => k_is); (case c12 => k_is); (case k12 => k_is); (case a13 => k_is); (case l13 => k_is); (case c13 => k_is); (case k13 => k_is); (case a14 => k_is); (case l14 => k_is); (case c14 => k_is); (case k14 => k_is); (case a15 => k_is); (case l15 => k_is); (case c15 => k_is); (case k15 => k_is); (case a16 => k_is); (case l16 => k_is); (case c16 => k_is); (case k16 => k_is); (case a17 => k_is); (case l17 => k_is); (case c17 => k_is); (case k17 => k_is); (case a18 => k_is); (case l18 => k_is); (case c18 => k_is); (case k18 => k_is); (case a19 => k_is); (case l19 => k_is); (case c19 => k_is); (case k19 => k_is); (case a20 => k_is); (case l20 => k_is); (case c20 => k_is); (case k20 => k_is); (case a21 => k_is); (case l21 => k_is); (case c21 => k_is); (case k21 => k_is); (case a22 => k_is); (case l22 => k_is); (case c22 => k_is); (case k22 => k_is); (case a23 => k_is); (case l23 => k_is); (case c23 => k_is); (case k23 => k_is); (case ac_Refused => k_is); (case ac_BadShape => k_is); (case ac_BadShelf => k_is); (case aI => k_is); (case lI => k_is); (case cI => k_is); (case kI => k_is); (case tI => k_is); (case eH_Refused => k_is); (case tH_Refused => k_is); (case hH_Refused => k_is); (case eH_BadShelf => k_is); (case tH_BadShelf => k_is); (case hH_BadShelf => k_is); (case xL_BadShape => k_is); (case xm_BadShape => rfl); (case sa_BadShape => k_is); (case ga_BadShape => k_is); (case gg_BadShape => k_is); (case nw_BadShape => k_is); (case in_BadShape => k_is); (case kC_BadShape => k_is); (case eC_BadShape => k_is); (case tC_BadShape => k_is); (case hC_BadShape => k_is); (case ca_BadShape => k_is); (case mo_BadShape => k_is); (case rd_BadShape => k_is); (case fc_BadShape => k_is); (case nn_BadShape => k_is); (case xL_BadShelf => k_is); (case xm_BadShelf => rfl); (case sa_BadShelf => k_is); (case ga_BadShelf => k_is); (case gg_BadShelf => k_is); (case nw_BadShelf => k_is); (case in_BadShelf => k_is); (case kC_BadShelf => k_is); (case eC_BadShelf => k_is); (case tC_BadShelf => k_is); (case hC_BadShelf => k_is); (case ca_BadShelf => k_is); (case mo_BadShelf => k_is); (case rd_BadShelf => k_is); (case fc_BadShelf => k_is); (case nn_BadShelf => k_is); (case sH_BadShelf_BadShelf => k_is); (case cn => k_is); (case ct => k_is); (case z_all => k_is); (case z_bool => k_is); (case z_int => k_is); (case z_isinstance => k_is); (case z_len => k_is); (case z_max => k_is); (case z_min => k_is); (case z_range => k_is); (case z_repr => k_is); (case z_sorted => k_is); (case z_tuple => k_is); (case im_combinations => k_is); (case v_GREATEST_PRIME => k_is)

