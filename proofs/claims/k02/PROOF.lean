import PyProof.Rows.All
import Wide.All
import OpenK.AllK
import Wide.FinOn
import HandS.ForMost
import HandS.Exc
import HandS.TryOnly
import HandS.ExcOwn
import HandS.WordsExc
import PyProof.ReprRoads
import HandS.Ends
import HandS.ExcInit
import HandS.ExcIs
import HandS.ExcField
import HandS.IsInst
import HandS.TupMul
import HandS.TupAny
import HandS.Wide
import HandS.Evl
import KE.KTypeName
import HandS.FStrTup
import HandS.Style
import HandS.Iter
import HandS.Zip
import HandS.Walk
import KE.GoesEnum
import KE.GoesNew
import HandS.SortInts
import KE.KNestM
import KE.KLam
import HandS.Lambda
import HandS.CallLocal
import HandS.EndBits
import PySem.Challenge.RW_twicemany_k02_rows_and_their_sums
import PyProof.P3Eq
set_option Elab.async false
set_option linter.all false
set_option maxRecDepth 100000
set_option maxHeartbeats 4000000
namespace Own
open PySem PySem.Spec PyProof.Rows L2
/-! ### the text of data -/
def rShow (K : PySem.W.Frag) : List V → Hp → VK → Prop := fun xs H Q => ∃ (x : V) (d : PyData), xs = [x] ∧ Dp K H x d ∧
  (d.showable = true ∧ d.hasDict = false ∧ d.depth ≤ 60 ∧ d.shown.length ≤ sizeLine) ∧ Q (.str d.shown) H
theorem call_show {X : Cx} (hg : X.A.guards = some []) (hu : X.A.units + 64 < cLine) : CallR X (.builtin "repr") (rShow X.K) := by
  intro pins s σ H xs us Q I rv hh
  obtain ⟨x, d, rfl, hd, ⟨h1, h2, h3, h4⟩, q⟩ := hh
  obtain ⟨u, rfl, ru⟩ := vals1 rv
  cases hd with
  | non => cases ru; exact PySem.P.repr_of_none ⟨.str _, H, I.tok _, ⟨_, rfl⟩, q⟩
  | bl b => cases ru; exact PySem.P.repr_of_bool ⟨.str _, H, I.tok _, ⟨_, rfl⟩, by simpa only [PyData.shown] using q⟩
  | int i =>
    obtain ⟨t, rfl⟩ := ru
    exact PySem.P.repr_of_int (by simpa [PyData.showable] using h1) ⟨.str _, H, I.tok _, ⟨_, rfl⟩, by simpa only [PyData.shown] using q⟩
  | str z =>
    obtain ⟨t, rfl⟩ := ru
    exact PySem.P.repr_of_str ⟨.str _, H, I.tok _, ⟨_, rfl⟩, by simpa only [PyData.shown] using q⟩ (by simpa only [PyData.shown] using h4)
  | lst hs ha =>
    cases ru
    obtain ⟨as, rd⟩ := Dp.reads I _ _ _ (Dp.lst hs ha) rfl
    exact repr_of_reads' rd h1 (PyData.noDict_hsm h2) hg (by omega) (fun _ _ e => e) (fun h' u tk hk => ⟨.str _, H, I.kept hk, ⟨_, rfl⟩, q⟩) h4
  | tup hs ha =>
    cases ru
    obtain ⟨as, rd⟩ := Dp.reads I _ _ _ (Dp.tup hs ha) rfl
    exact repr_of_reads' rd h1 (PyData.noDict_hsm h2) hg (by omega) (fun _ _ e => e) (fun h' u tk hk => ⟨.str _, H, I.kept hk, ⟨_, rfl⟩, q⟩) h4
theorem guards_deeper {A : Around} {env : Env} : (A.deeper env).guards = A.guards := by
  unfold Around.deeper
  rfl
end Own


namespace Own
open PySem PySem.Spec PyProof.Rows L2
/-! ### a def's promise where no text of data is being made around the call -/
structure FnG (P : Program) (w : World) (K : PySem.W.Frag) (mg : Str → Option Value) (base : Heap) (C : CXT) (k : Nat) (f : Addr) (fd : FuncData) (ps : List Str) (sp : Sp) : Prop where
  size : ∀ vs H Q E, sp vs H Q E → vs.length = ps.length
  goes : ∀ (A : Around) (outer : List Env) (s : Shared) (H : Hp) (args : Args) (us : List Value) (vs : List V) (Q : VK) (E : XK),
    A.guards = some [] → Room k A → Env0 P w K mg base A outer s H → BindsTo s fd args (ps.zip us) → Vals vs us → sp vs H Q E →
      codeAny (model P w) A (.call (.ref f) args) (CR C outer P w H s Q E) s
theorem FnG.of {P : Program} {w : World} {K : PySem.W.Frag} {mg : Str → Option Value} {base : Heap} {C : CXT} {k : Nat} {f : Addr} {fd : FuncData} {ps : List Str} {sp : Sp}
    (F : FnOk P w K mg base C k f fd ps sp) : FnG P w K mg base C k f fd ps sp := ⟨F.len, fun A o s H args us vs Q E _ => F.run A o s H args us vs Q E⟩
section
variable {P : Program} {w : World} {K : PySem.W.Frag} {mg : Str → Option Value} {base : Heap}
theorem fnG_mk {C : CXT} {x qual : Str} {st : Stmt} {f : Addr} {fd : FuncData} {N ps : List Str} {k : Nat} {sp : Sp} (F : Fun K x qual st f fd) (S : FnScope N ps (defScope st)) (sz : ∀ vs H Q E, sp vs H Q E → vs.length = ps.length)
    (hb : ∀ (cdv : Value) (A : Around) (outer : List Env) (s : Shared) (H : Hp) (vs : List V) (Q : VK) (E : XK),
      (A.deeper (envOfC qual (defScope st) s.heap.objs.size f cdv)).guards = some [] → Room k (A.deeper (envOfC qual (defScope st) s.heap.objs.size f cdv)) → sp vs H Q E →
        ∃ t, PSs (cxOf C P w K mg base N qual (defScope st) f cdv A outer s H E) (defBody st) t ∧ t { nx := fun _ H' => Q .non H', rt := Q } (start N vs) H) :
    FnG P w K mg base C (k + 1) f fd ps sp := by
  obtain ⟨oc, od, kV, doc, pm, an, cdv, ct, osl, efd, look, code⟩ := F.ex
  subst efd
  refine ⟨sz, fun A o s H args us vs Q E gA room e0 bind rv pre => ?_⟩
  have inside : K.In s.heap := e0.mod.kin.keeps fun b u q => (e0.bs b u q).1
  have free : s.heap.NoLimit := e0.mod.nolimit.keeps fun b u q => (e0.bs b u q).1
  refine codeAny_call_function room.depth (inside _ _ look) rfl S.co S.gen rfl (PySem.W.codeRec_of inside code) (bind _ _ _ _ ?_)
  refine wpAny_newFunctionEnv_cells S.kind (fun y hy => ?_) fun env he s1 x => ?_
  · have m := (List.of_mem_zip (show (y.1, y.2) ∈ ps.zip us from hy)).1
    exact (S.par y.1 m).elim Or.inl fun q => Or.inr ⟨q, PySem.W.cellsFrom_some _ _ _ (.inl q)⟩
  · subst he
    refine ⟨free.keeps x.toInCall.keep, codeAny_func ?_⟩
    obtain ⟨t, ht, rd⟩ := hb cdv A o s H vs Q E (guards_deeper.trans gA) (room.deeper _) pre
    have I := inv_start (CX := C) (P := P) (w := w) (mg := mg) (E := E) (N := N) S room.hd e0 (sz _ _ _ _ pre) rv x
    refine wpAny_mono (ht.run [] s1 (start N vs) H _ I rd) (fun fl s' hs => ?_) fun _ _ z => z
    match fl, hs with
    | .ret u, hs => exact (let ⟨v, _, H', J, r2, q⟩ := hs; ⟨v, H', J.os, J.bare, J.base, J.hok, r2, q⟩)
    | .next, hs => exact (let ⟨_, H', J, q⟩ := hs; ⟨V.non, H', J.os, J.bare, J.base, J.hok, rfl, q⟩)
    | .brk, hs => exact (let ⟨_, _, _, z⟩ := hs; z.elim)
    | .cont, hs => exact (let ⟨_, _, _, z⟩ := hs; z.elim)
/-- nothing is let out -/
theorem fnG_ok {x qual : Str} {st : Stmt} {f : Addr} {fd : FuncData} {N ps : List Str} {k : Nat} {sp : Sp} (F : Fun K x qual st f fd) (S : FnScope N ps (defScope st)) (sz : ∀ vs H Q E, sp vs H Q E → vs.length = ps.length)
    (hb : ∀ (cdv : Value) (A : Around) (outer : List Env) (s : Shared) (H : Hp) (vs : List V) (Q : VK) (E : XK),
      (A.deeper (envOfC qual (defScope st) s.heap.objs.size f cdv)).guards = some [] → Room k (A.deeper (envOfC qual (defScope st) s.heap.objs.size f cdv)) → sp vs H Q E →
        ∃ t, PSs (cxOf CX0 P w K mg base N qual (defScope st) f cdv A outer s H E).nox (defBody st) t ∧ t { nx := fun _ H' => Q .non H', rt := Q } (start N vs) H) :
    FnG P w K mg base CX0 (k + 1) f fd ps sp :=
  fnG_mk F S sz fun cdv A o s H vs Q E g r h => let ⟨t, p, q⟩ := hb cdv A o s H vs Q E g r h; ⟨t, p.nox, q⟩
end
section
variable {X : Cx} {C : CXT} {k : Nat} {f : Addr} {fd : FuncData} {ps : List Str} {sp : Sp} {dvs : List V} {ds : List Value} {E : XK} {x : Str} {p pos : Pos} {e : Expr} {es : List Expr} {t : TA}
theorem goesG {pins : List (Addr × Obj)} {σ : L2.St} {H : Hp} {s : Shared} {Q : VK} {us : List Value} {vs : List V} (F : FnG X.prog X.w X.K X.mg X.base C k f fd ps sp) (hg : X.A.guards = some []) (hr : Room k X.A) (hb : Binds X.K fd ps []) (hx : Passes C X E)
    (I : Inv X pins σ H s) (rv : Vals vs us) (h : sp vs H Q E) : wpAny (model X.prog X.w) X.A (call (.ref f) us) (EP X pins σ Q) X.xe s := by
  have n : (us ++ []).length = ps.length := by rw [List.append_nil, ← rv.length, F.size _ _ _ _ h]
  have bt := hb s us I.kIn n
  rw [List.append_nil] at bt
  refine wpAny_call (codeAny_mono (F.goes X.A X.stack s H ⟨us, []⟩ us vs Q E hg hr I.env0 bt rv h) fun r s' z => ?_)
  match r, z with
  | .error e, z => exact hx pins σ H s e s' I z
  | .ok (.ret u), z => exact I.after z
  | .ok .next, z => exact z.elim
  | .ok .brk, z => exact z.elim
  | .ok .cont, z => exact z.elim
/-- f(e, ..), by such a promise -/
theorem pe_callG (F : FnG X.prog X.w X.K X.mg X.base C k f fd ps sp) (hg : X.A.guards = some []) (hr : Room k X.A) (gl : Gl X x) (hm : X.mg x = some (.ref f)) (hk : PySem.W.keepIn X.K (.ref f) = true) (hb : Binds X.K fd ps []) (hx : Passes C X E)
    (ha : PA X (e :: es) t) (hdb : (x == ("__debug__" : Str)) = false := by decide) (hst : starEach (e :: es) X.env = (false, eval e X.env) :: starEach es X.env := by rfl) (hpl : (backTo pos (starEach es X.env)).any (·.1) = false := by rfl) :
    PE X (.Call (.Name x p) (e :: es) [] pos) (fun σ H Q => t σ H fun vs H1 => sp vs H1 Q E) :=
  ⟨fun pins s σ H Q I h => wpAny_Call_Name_kw (ld_glob I gl hm
    (PySem.W.callWith_K (h₀ := X.base) I.ok.mod.kin hk (thn (ha.run pos pins s σ H _ I h) fun us s1 ⟨vs, H1, J, rv, q⟩ => ⟨J.kIn, goesG F hg hr hb hx J rv q⟩) hst hpl) hdb)⟩
end
end Own


namespace Own
open PySem PySem.Spec PyProof.Rows L2
/-! ### the law's own call -/
/-- what stands at the law's entry, seen with nothing but the script tracked -/
structure Entry (K : PySem.W.Frag) (s : Shared) (a : Addr) (vs : List Value) (ns : List Int) (H : Hp) : Prop where
  only : Only H
  seq : SqL K H a (ns.map V.int)
  none_ : ∀ b, b ≠ a → H b = none
  own : H a ≠ none → K.lookup a = none
theorem entry_ok {P : Program} {w : World} {K : PySem.W.Frag} {s : Shared} {a : Addr} {vs : List Value} {ns : List Int} (KX : K.In s.heap)
    (ha : s.heap.get? a = some { cls := .type "list", data := .seq vs.toArray }) (hi : IntsAre vs ns) (hl : ns.length ≤ sizeLine) : ∃ H, Entry K s a vs ns H ∧ HOk P w H s.heap := by
  have rv := vals_ints hi
  have ln : vs.length = ns.length := hi.length
  by_cases hk : K.lookup a = none
  · refine ⟨fun b => if b = a then some (.frz { cls := .type "list", data := .seq vs.toArray } (.lst (ns.map V.int))) else none, ⟨fun b => ?_, .inl (.inr ⟨_, if_pos rfl⟩), fun b nb => if_neg nb, fun _ => hk⟩, fun b u e => ?_⟩
    · by_cases q : b = a
      · exact .inr ⟨_, _, if_pos q⟩
      · exact .inl (if_neg q)
    · by_cases q : b = a
      · have e' := (if_pos q).symm.trans e
        injection e' with e'
        subst e' q
        exact ⟨ha, by rw [List.length_map]; exact hl, vs, _, rv, ha⟩
      · exact absurd ((if_neg q).symm.trans e) (by intro z; cases z)
  · obtain ⟨o, ho⟩ := Option.ne_none_iff_exists'.mp hk
    have e := (KX a o ho).symm.trans ha
    injection e with e
    subst e
    exact ⟨fun _ => none, ⟨fun _ => .inl rfl, .inr ⟨_, vs.toArray, _, ho, rfl, rfl, rfl, by rw [List.size_toArray, ln]; exact hl, by simpa using rv⟩, fun _ _ => rfl, fun z => absurd rfl z⟩,
      fun b u z => by cases z⟩
theorem lawG {P : Program} {w : World} {K : PySem.W.Frag} {mg mb : Str → Option Value} {k : Nat} {fa a : Addr} {fd : FuncData} {x : Str} {sp : Sp} {s : Shared} {vs : List Value} {ns : List Int}
    (KX : K.In s.heap) (g1 : s.heap.Ns mainGlobals mg) (g2 : s.heap.Ns builtinsNs mb) (g3 : ∀ x : Str, x ≠ "__name__" → mb x = bootBuiltins x) (g4 : s.heap.NoLimit) (hg : s.gens = #[])
    (ha : s.heap.get? a = some { cls := .type "list", data := .seq vs.toArray }) (hi : IntsAre vs ns) (hl : ns.length ≤ sizeLine) (hr : Room k callerA)
    (F : ∀ base : Heap, K.In base → base.Ns mainGlobals mg → FnG P w K mg base CX0 k fa fd [x] sp) (hb : ∀ (s : Shared) (u : Value), BindsTo s fd ⟨[u], []⟩ [(x, u)])
    (hsp : ∀ H : Hp, Only H → SqL K H a (ns.map V.int) → sp [.ref a] H (fun v _ => v = .bl true) E0) :
    codeAny (model P w) callerA (.call (.ref fa) ⟨[.ref a], []⟩) (fun r s' => r = .ok (.ret (.bool true)) ∧ OldK s.heap s'.heap ∧ s'.os = s.os ∧ AllBare s'.gens) s := by
  obtain ⟨H, e, hok⟩ := entry_ok (P := P) (w := w) KX ha hi hl
  -- the base: what isn't tracked
  have un : ∀ {b : Addr} {m : Str → Option Value}, s.heap.Ns b m → H b = none := fun {b m} ⟨o, es, ep, q, d, _⟩ => by
    by_cases z : b = a
    · subst z
      rw [ha] at q
      injection q with q
      subst q
      exact absurd d (by intro z; cases z)
    · exact e.none_ b z
  have nsB : ∀ {b : Addr} {m : Str → Option Value}, s.heap.Ns b m → (hidT s.heap H).Ns b m := fun {b m} n => by
    have hn := un n
    obtain ⟨o, es, ep, q, d, r⟩ := n
    exact ⟨o, es, ep, hidT_get q hn, d, r⟩
  have KB : K.In (hidT s.heap H) := fun b o q => hidT_get (KX b o q) (by
    by_cases z : b = a
    · subst z
      by_cases y : H b = none
      · exact y
      · have n := e.own y
        rw [q] at n
        cases n
    · exact e.none_ b z)
  have e0 : Env0 P w K mg (hidT s.heap H) callerA [] s H :=
    ⟨rfl, ⟨KB, nsB g1, ⟨mb, nsB g2, g3⟩, (let ⟨mc, h1, h2⟩ := g4; ⟨mc, nsB h1, h2⟩)⟩, fun b o q => of_hidT q, Nat.le_of_eq (hidT_size _ _), trivial, fun b z => absurd z (List.not_mem_nil), hok, .of_eq hg⟩
  refine codeAny_mono ((F _ KB (nsB g1)).goes callerA [] s H ⟨[.ref a], []⟩ [.ref a] [.ref a] _ _ rfl hr e0 (hb s (.ref a)) (.cons rfl .nil) (hsp H e.only e.seq)) fun r s' z => ?_
  match r, z with
  | .error _, z => exact z.elim
  | .ok .next, z => exact z.elim
  | .ok .brk, z => exact z.elim
  | .ok .cont, z => exact z.elim
  | .ok (.ret u), z =>
    obtain ⟨v, H', os, bare, ch, hok', ru, q⟩ := z
    have q : v = .bl true := q
    subst q
    have eu : u = Value.bool true := ru
    refine ⟨by rw [eu], OldK.of_keep fun b o q => ?_, os, bare⟩
    cases y : H b with
    | none => exact ch.keep b o q y (fun z => by cases z) (fun z => by cases z)
    | some u' =>
      rcases e.only b with z | ⟨ob, xs, z⟩
      · rw [y] at z
        cases z
      · have o1 := (hok b _ z).1
        have o2 := (hok' b _ (ch.frzs b ob _ z)).1
        rw [q] at o1
        injection o1 with o1
        rw [o1]
        exact o2
theorem walkG {l : PySem.W.OpenLaw} {n k : Nat} {q : Program} {loose : List Str} {XP : (Str → Option Value) → Heap → Prop} {YP : World → Heap → Prop} {d : DefRec} {K : Params → PySem.W.Frag} {sp : PySem.W.Frag → Sp} {x : Str}
    (h1 : l.most = some n) (h2 : n ≤ sizeLine) (h3 : d.params.defaults = []) (hr : Room k callerA) (hY : ∀ (w : World) (h : Heap), YP w h → (K w.params).In h)
    (F : ∀ (w : World) (mg : Str → Option Value) (fa : Addr) (h : Heap), (K w.params).In h → h.Ns mainGlobals mg → mg d.name = some (.ref fa) →
      ∃ fd : FuncData, (∀ (s : Shared) (u : Value), BindsTo s fd ⟨[u], []⟩ [(x, u)]) ∧
        ∀ base : Heap, (K w.params).In base → base.Ns mainGlobals mg → FnG l.prog w (K w.params) mg base CX0 k fa fd [x] (sp (K w.params)))
    (hsp : ∀ (K : PySem.W.Frag) (H : Hp) (a : Addr) (ns : List Int), ns.length ≤ n → Only H → SqL K H a (ns.map V.int) → sp K [.ref a] H (fun v _ => v = .bl true) E0) :
    PySem.W.WalkO q loose XP YP l.row.toRowW d [] (fun f vs => PySem.call f vs) :=
  Att.attach_call h1 h3 fun w s₀ s₁ mg mb fa o pm cd doc a vs ns G Y ho hd hcd hmg hobj hints hlen hg =>
    let ⟨fd, hb, hF⟩ := F w mg fa _ (hY w _ Y) G.T.g hmg
    lawG (hY w _ Y) G.T.g G.T.b G.T.builtins G.T.nolimit hg hobj hints (Nat.le_trans hlen h2) hr hF hb fun H hO hS => hsp _ H a ns hlen hO hS
end Own


namespace Own
open PySem PySem.Spec PyProof.Rows L2
/-! ### isinstance of a caught error that has a dict of its own -/
section
open PySem.W PySem.Calls
variable {prog : Program} {w : World} {A : Around} {E : Value → Shared → Prop} {s : Shared} {K : Frag} {x D : Addr} {ox : Obj} {od : Option Obj}
theorem asks_class {Q : Option Value → Shared → Prop} (T : ExcC K D) (hf : findObj K D od "__class__" = some (.bind (.builtin "getset_descriptor.__get__") (.builtin "object.__class__")))
    (KX : K.In s.heap) (I : PySem.W.InstAt s.heap x ox D od) (h : Q (some (.ref D)) { s with toks := s.toks + 1 }) : wpAny (model prog w) A (getAttr? (.ref x) "__class__") Q E s := by
  obtain ⟨hp, g, d, t, os⟩ := s
  have a0 := I.type (M := model prog w)
  have a1 := looks_findIn (M := model prog w) KX T.hg
  have a2 := looks_findIn (M := model prog w) KX T.hk
  have a3 := looks_find (M := model prog w) KX I hf
  have a4 : Looks (model prog w) hp (isInstance (.ref x) (.type "BaseException")) true := a0.andThen (looks_subIn KX T.hs)
  have n1 : (Value.builtin "BaseException.__getattribute__" == Value.builtin "object.__getattribute__") = false := by decide +kernel
  have n2 : (onTheHeap (Value.ref D) && Value.builtin "BaseException.__getattribute__" == Value.builtin "object.__getattribute__") = false := by rw [n1]; rfl
  have n3 : (false && onTheHeap (Value.builtin "BaseException.__getattribute__")) = false := rfl
  unfold getAttr? getAttrBy? getAttrBy
  refine wpAny_bind (wpAny_mkText (wpAny_bind (wpAny_attempt (wpAny_holding (wpAny_bind (a0.at (wpAny_bind (a1.at ?_))))))))
  simp only [n2, Bool.false_eq_true, if_false]
  unfold getAttrByItsOwn hookBefore
  refine wpAny_bind ?_
  rw [if_pos (show onTheHeap (Value.ref D) = true from rfl)]
  refine a2.at (wpAny_bind (wpAny_attempt (wpAny_holding ?_)))
  unfold callGetattribute
  simp only [n3, Bool.false_eq_true, if_false]
  unfold boundAndCalled
  rw [PySem.F.excAttr_ValueError.ga.bind (.ref x)]
  refine wpAny_bind (wpAny_pure ?_)
  show wpAny _ _ (call (.builtin "BaseException.__getattribute__") [.ref x, .str "__class__" t]) _ _ _
  refine wpAny_call (codeAny_call_builtin PySem.F.excAttr_ValueError.ga.plain PySem.F.entry_bexc_ga ?_)
  refine @check_slot (model prog w) _ _ ⟨hp, g, d, t + 1, os⟩ "BaseException.__getattribute__" "BaseException" "__getattribute__" (.ref x) [.str "__class__" t] [] _ (by decide +kernel) (by decide +kernel) a4
    (PySem.F.args_bexc_ga (.ref x) (.str "__class__" t)) ?_
  unfold Builtin.«object.__getattribute__»
  refine wpAny_bind (wpAny_of_eq (a := ((Value.ref x : Value), [Value.str "__class__" t])) (by first | rfl | (simp only [slotArgs]; rfl)) ?_)
  refine wpAny_bind (wpAny_pure (wpAny_bind (a0.at (wpAny_bind (a3.at ?_)))))
  show wpAny _ _ (holding [Value.builtin "object.__class__"] (call (.builtin "getset_descriptor.__get__") [.builtin "object.__class__", .ref x, .ref D]) >>= ret) _ _ _
  refine wpAny_bind (wpAny_holding (wpAny_call (class_get (s := ⟨hp, g, d, t + 1, os⟩) (ox := ox) (od := od) KX I T.hm (wpAny_pure ?_))))
  show wpAny _ _ (handedOut (.ref D)) _ _ _
  rw [handedOut_of (v := .ref D) rfl]
  first
    | exact wpAny_pure h
    | exact wpAny_pure (wpAny_pure h)
    | exact wpAny_pure (wpAny_bind (wpAny_pure (wpAny_pure h)))
theorem cls_there (T : ExcC K D) : ∃ c' d' cd' sl', K.lookup D = some ⟨c', d', .cls cd', sl'⟩ := by
  obtain ⟨cd, hc, _⟩ := any_some T.hd
  unfold clsIn at hc
  split at hc
  · rename_i c' d' cd' sl' ho
    exact ⟨_, _, _, _, ho⟩
  · cases hc
theorem kit_exc (T : ExcC K D) : KitX K (.ref x) (.ref D) (fun h => ∃ od, PySem.W.InstAt h x ox D (some od)) where
  ty := fun _ _ _ ⟨_, I⟩ => I.type
  it := fun _ _ KX _ A' Q' E' s' k q => by
    obtain ⟨_, _, _, _, ho⟩ := cls_there T
    unfold isType loadHead
    exact wpAny_bind (wpAny_loadPart (k _ _ (KX _ _ ho)) (wpAny_pure q))
  ne := fun h tp dd its n sl KX htp => Bool.eq_false_iff.mpr fun q => by
    obtain ⟨_, _, _, _, ho⟩ := cls_there T
    have e : D = tp := Value.ref.inj (beq_iff_eq.mp q)
    subst e
    exact absurd ((KX _ _ ho).symm.trans htp) (by intro z; cases z)
  ca := fun KX ⟨od, I⟩ q => asks_class T (findObj_data (by obtain ⟨cd, hc, _⟩ := any_some T.hd; rw [hc]; rfl) T.ha T.hn T.ht) KX I q
end
/-- isinstance(e, c), e the error that the suite holds: its class cls is D, its dict told by d -/
def rIsD (K : PySem.W.Frag) (D a : Addr) (cls : Value) (d : Option Addr) : List V → Hp → VK → Prop := fun xs H Q => cls = .ref D ∧ ∃ (c : V) (cv : Value) (b : Bool) (dd : Addr) (fs : List (Str × V)),
  xs = [.ref a, c] ∧ ClsV c cv ∧ PySem.W.kitOne K (.ref D) cv = some b ∧ d = some dd ∧ H dd = some (.xd fs) ∧ Q (.bl b) H
theorem call_isD {X : Cx} {a D : Addr} {cls : Value} {d : Option Addr} {oe : Obj} {pn : List (Addr × Obj)} (T : ExcC X.K D) (hz : Zc cls d oe) (hf : ∃ vs, oe.data = .fields vs) :
    CallR (X.suite a ((a, oe) :: pn)) (.builtin "isinstance") (rIsD X.K D a cls d) := by
  intro pins s σ H xs us Q I rv h
  obtain ⟨ec, c, cv, b, dd, fs, rfl, kc, e, e1, ed, q⟩ := h
  subst ec e1
  obtain ⟨u1, u2, rfl, r1, r2⟩ := vals2 rv
  cases r1
  have e2 := kc.eq r2
  subst e2
  obtain ⟨at_, _⟩ := I.pin (a, oe) (List.mem_append.mpr (.inl List.mem_cons_self))
  obtain ⟨vs, hv⟩ := hf
  obtain ⟨mA, hns, _⟩ := I.hok dd _ ed
  obtain ⟨od, ho, _⟩ := lookIn_ns hns
  have J : PySem.W.InstAt s.heap a oe D (some od) := ⟨at_, hz.1, by unfold PySem.W.notCls; rw [hv] <;> rfl, by rw [hz.2]; exact ho⟩
  exact PySem.W.kia_one (kit_exc T) I.kIn ⟨od, J⟩ e (fun z => nomatch z) fun tk => ⟨.bl b, H, I.kept (t' := tk) fun _ _ z => z, rfl, q⟩
/-! ### f(k = e, ..) without a positional argument, in a try's body -/
section
variable {X : Cx} {C : CXT} {k : Nat} {f : Addr} {fd : FuncData} {ps ks : List Str} {sp : Sp} {E : L2.St → XK} {x : Str} {p pos : Pos} {kws : List Keyword} {tk : TA}
theorem pe_callKS (F : FnOk X.prog X.w X.K X.mg X.base C k f fd ps sp) (hr : Room k X.A) (hg : Gl X x) (hm : X.mg x = some (.ref f)) (hk : PySem.W.keepIn X.K (.ref f) = true)
    (hb : ∀ (s : Shared) (ws : List Value), X.K.In s.heap → ws.length = ps.length → BindsTo s fd ⟨[], ks.zip ws⟩ (ps.zip ws)) (hx : ∀ σ, PassesAt C X σ (E σ))
    (hkw : PK X kws tk) (hall : (backToKw pos (keywordEach kws X.env)).all (·.1.isSome) = true := by rfl) (hks : (backToKw pos (keywordEach kws X.env)).filterMap (·.1) = ks := by rfl)
    (hpl : ((backTo pos (starEach [] X.env)).any (·.1) || (backToKw pos (keywordEach kws X.env)).any (·.1.isNone)) = false := by rfl) (hdb : (x == ("__debug__" : Str)) = false := by decide) :
    PE X (.Call (.Name x p) [] kws pos) (fun σ H Q => tk σ H fun vs H1 => sp vs H1 Q (E σ)) := by
  refine ⟨fun pins s σ H Q I h => wpAny_Call_Name_kw (ld_glob I hg hm ?_ hdb)⟩
  refine PySem.W.callWith_KW0 (h₀ := X.base) I.ok.mod.kin hk hall (thn (hkw.run pos pins s σ H _ I h) fun ws s1 ⟨zs, H1, J, rz, q⟩ => ⟨J.kIn, ?_⟩) ?_
  · rw [hks]
    have n : ws.length = ps.length := by rw [← rz.length]; exact F.len _ _ _ _ q
    refine wpAny_call (codeAny_mono (F.run X.A X.stack s1 H1 ⟨[], ks.zip ws⟩ ws zs Q (E σ) hr J.env0 (hb s1 ws J.kIn n) rz q) fun r s' z => ?_)
    match r, z with
    | .error e, z => exact hx σ pins H1 s1 e s' J z
    | .ok (.ret u), z => exact J.after z
    | .ok .next, z => exact z.elim
    | .ok .brk, z => exact z.elim
    | .ok .cont, z => exact z.elim
  · exact hpl
end
end Own


namespace Own
open PySem PySem.Spec PyProof.Rows L2
/-! ### t * 1 is t itself -/
theorem tuple_once (l : Addr) (items : Array Value) (n : Nat) (dd : Option Addr) (sl : Array (Option Value)) (u : Tok) :
    Meets (Builtin.«tuple.__mul__» ⟨[.ref l, .int 1 u], []⟩) (fun _ R s => s.heap.get? l = some { cls := .type "tuple", dict := dd, data := .seq items n, slots := sl } ∧ R (.ok (.ret (.ref l))) s) :=
  .of_wp fun prog w A R s h => by
    obtain ⟨hp, g, d, tk, os⟩ := s
    obtain ⟨hl, h⟩ := h
    have f1 := AutoSeq1.idx_int
    have c0 : (decide ((1 : Int) < -(2 ^ 63)) || decide ((1 : Int) ≥ 2 ^ 63)) = false := by decide
    have c1 : (items.isEmpty || (1 : Int) == 1) = true := by rw [show ((1 : Int) == 1) = true from rfl, Bool.or_true]
    wp_walk using wpAny_loadPart' hl
    repeat (first
      | (refine wpAny_ite_false (decide_eq_false (by rw [c0]; exact Bool.false_ne_true)) ?_; wp_walk using wpAny_loadPart' hl)
      | (refine wpAny_ite_true (decide_eq_true c1) ?_; wp_walk using wpAny_loadPart' hl))
    exact ⟨_, rfl, h⟩
/-- t * 1 -/
def rOnce (K : PySem.W.Frag) : R2 := fun x y H Q => ∃ l xs, x = .ref l ∧ y = .int 1 ∧ SqT K H l xs ∧ Q (.ref l) H
theorem op_once {X : Cx} : OpR X (binaryOp .Mult) (rOnce X.K) := by
  intro pins s σ H x y v u Q I rx ry h
  obtain ⟨l, xs, rfl, rfl, hT, q⟩ := h
  cases rx
  obtain ⟨t, rfl⟩ := ry
  obtain ⟨its, r, ⟨⟨cls, dd, data, sl⟩, ho, hc, n, hd⟩, hs⟩ := I.tuple hT
  simp only at hc hd
  subst hc hd
  exact wpAny_binaryOp_repeat_ref (T := "tuple") (U := "int") (by decide) ⟨_, ho, rfl⟩ (fun s' => typeIs_int s' 1 t) noFill_tuple_mul F.fills_int_mul F.slot_int_rmul repeat_tuple F.slot_int_index.lookup
    (call_meets F.slot_int_rmul (typeIs_int s 1 t) F.entry_int_rmul (F.args_int_rmul_2 _ _) (int_rmul_tuple 1 t l its.toArray n dd sl)
      ⟨ho, rfl, ⟨_, ho, rfl⟩, call_meets F.slot_tuple_mul ⟨_, ho, rfl⟩ F.entry_tuple_mul (F.args_tuple_mul_2 _ _) (tuple_once l its.toArray n dd sl t) ⟨ho, ⟨.ref l, H, I, rfl, q⟩⟩⟩)
/-- t * k, k from 1 on -/
theorem op_times {X : Cx} : OpR X (binaryOp .Mult) (fun x y H Q => rRepT X.K x y H Q ∨ rOnce X.K x y H Q) := OpR.or op_repT op_once
end Own


namespace Own
open PySem PySem.Spec PyProof.Rows L2
/-! ### self.__class__.__name__ of an error that is being made -/
section
open PySem.W PySem.Calls Builtin Builtin.Getset_descriptor
variable {prog : Program} {w : World} {A : Around} {E : Value → Shared → Prop} {s : Shared} {K : Frag} {x D : Addr} {ox : Obj} {od : Option Obj}
/-- what the written part says of an error's class and of its name -/
structure NmC (K : Frag) (D : Addr) (nm : Str) : Prop where
  e : ExcC K D
  rd : readsIn K D (.type "type") = true
  ty : typeIn K (.ref D) = some (.type "type")
  fc : findCls K (.ref D) (.type "type") "__name__" = some (.get (.builtin "getset_descriptor.__get__") (.builtin "type.__name__") (.ref D) (.type "type"))
  sl : ∃ o tk, K.lookup D = some o ∧ (o.slots[2]?).join = some (.str nm tk)
  fn : findIn K (.ref D) "name" = some none
theorem takes_class {Q : Value → Shared → Prop} (T : ExcC K D) (hf : findObj K D od "__class__" = some (.bind (.builtin "getset_descriptor.__get__") (.builtin "object.__class__")))
    (KX : K.In s.heap) (I : PySem.W.InstAt s.heap x ox D od) (h : Q (.ref D) { s with toks := s.toks + 1 }) : wpAny (model prog w) A (getAttr (.ref x) "__class__" true) Q E s := by
  obtain ⟨hp, g, d, t, os⟩ := s
  have a0 := I.type (M := model prog w)
  have a1 := looks_findIn (M := model prog w) KX T.hg
  have a2 := looks_findIn (M := model prog w) KX T.hk
  have a3 := looks_find (M := model prog w) KX I hf
  have a4 : Looks (model prog w) hp (isInstance (.ref x) (.type "BaseException")) true := a0.andThen (looks_subIn KX T.hs)
  have n1 : (Value.builtin "BaseException.__getattribute__" == Value.builtin "object.__getattribute__") = false := by decide +kernel
  have n2 : (onTheHeap (Value.ref D) && Value.builtin "BaseException.__getattribute__" == Value.builtin "object.__getattribute__") = false := by rw [n1]; rfl
  have n3 : (true && onTheHeap (Value.builtin "BaseException.__getattribute__")) = false := rfl
  unfold getAttr getAttrBy
  refine wpAny_bind (wpAny_mkText (wpAny_holding (wpAny_bind (a0.at (wpAny_bind (a1.at ?_))))))
  simp only [n2, Bool.false_eq_true, if_false]
  unfold getAttrByItsOwn hookBefore
  refine wpAny_bind ?_
  rw [if_pos (show onTheHeap (Value.ref D) = true from rfl)]
  refine a2.at (wpAny_bind (wpAny_attempt (wpAny_holding ?_)))
  unfold callGetattribute
  simp only [n3, Bool.false_eq_true, if_false]
  unfold boundAndCalled
  rw [PySem.F.excAttr_ValueError.ga.bind (.ref x)]
  refine wpAny_bind (wpAny_pure ?_)
  show wpAny _ _ (call (.builtin "BaseException.__getattribute__") [.ref x, .str "__class__" t]) _ _ _
  refine wpAny_call (codeAny_call_builtin PySem.F.excAttr_ValueError.ga.plain PySem.F.entry_bexc_ga ?_)
  refine @check_slot (model prog w) _ _ ⟨hp, g, d, t + 1, os⟩ "BaseException.__getattribute__" "BaseException" "__getattribute__" (.ref x) [.str "__class__" t] [] _ (by decide +kernel) (by decide +kernel) a4
    (PySem.F.args_bexc_ga (.ref x) (.str "__class__" t)) ?_
  unfold Builtin.«object.__getattribute__»
  refine wpAny_bind (wpAny_of_eq (a := ((Value.ref x : Value), [Value.str "__class__" t])) (by first | rfl | (simp only [slotArgs]; rfl)) ?_)
  refine wpAny_bind (wpAny_pure (wpAny_bind (a0.at (wpAny_bind (a3.at ?_)))))
  show wpAny _ _ (holding [Value.builtin "object.__class__"] (call (.builtin "getset_descriptor.__get__") [.builtin "object.__class__", .ref x, .ref D]) >>= ret) _ _ _
  refine wpAny_bind (wpAny_holding (wpAny_call (class_get (s := ⟨hp, g, d, t + 1, os⟩) (ox := ox) (od := od) KX I T.hm (wpAny_pure ?_))))
  show wpAny _ _ (handedOut (.ref D)) _ _ _
  rw [handedOut_of (v := .ref D) rfl]
  exact wpAny_pure h
theorem name_get {tp : Value} {nm : Str} {R : Result → Shared → Prop} {o : Obj} {tk : Tok} (KX : K.In s.heap) (ht : typeIn K (.ref D) = some (.type "type")) (ho : K.lookup D = some o) (hs : (o.slots[2]?).join = some (.str nm tk))
    (h : R (.ok (.ret (.str nm tk))) s) : codeAny (model prog w) A (.call (.builtin "getset_descriptor.__get__") ⟨[.builtin "type.__name__", .ref D, tp], []⟩) R s := by
  obtain ⟨hp, g, d, t, os⟩ := s
  have a0 : Looks (model prog w) hp (typeOf (.ref D)) (.type "type") := looks_typeIn KX ht
  have a1 : Looks (model prog w) hp (isSubtype (.type "type") (.type "type")) true := Looks.of_pure (by rw [isSubtype_type]; kernel_rfl)
  refine codeAny_call_builtin KF.slot_gs.plain KF.entry_gs (KF.slot_gs.check _ _ _ _ _ _ _ _ ktyn_type (KF.args_gs _ _ _) ?_)
  unfold Builtin.«getset_descriptor.__get__» descrGet
  rw [dga_obj]
  refine wpAny_bind (wpAny_pure ?_)
  unfold descrGetter descrCheckInstance descrNameAndClass isInstance
  simp only [ktyn_owner]
  repeat lk
  refine ⟨Code.quiet_builtin _ (by decide +kernel), codeAny_builtin ktyn_entry ?_⟩
  unfold Builtin.«type.__name__»
  dsimp only
  unfold keptObject slotAt
  refine wpAny_bind (wpAny_bind (wpAny_loadPart (KX _ _ ho) (wpAny_pure ?_)))
  rw [hs]
  exact wpAny_pure h
theorem takes_name {nm : Str} {Q : Value → Shared → Prop} (N : NmC K D nm) (KX : K.In s.heap) (h : ∀ tk, Q (.str nm tk) { s with toks := s.toks + 1 }) :
    wpAny (model prog w) A (getAttr (.ref D) "__name__" true) Q E s := by
  obtain ⟨o, tk, ho, hs⟩ := N.sl
  refine cls_bind KX N.rd N.fc ?_
  exact wpAny_call (name_get (s := { s with toks := s.toks + 1 }) KX N.ty ho hs (handed_on rfl (h tk)))
end
/-- what is told of the class of an error whose __init__ keeps "what" and "name" -/
def WhC (K : PySem.W.Frag) (C : Addr) : Prop := PySem.W.findIn K (.ref C) "what" = some none ∧ ∃ nm, NmC K C nm
/-- at dd: the dict of such an error -/
def Wh (H : Hp) (dd : Addr) (v : V) : Prop := ∃ nm : Str, H dd = some (.xd [(("name" : Str), .str nm), (("what" : Str), v)])
/-- e.__class__.__name__, e an error that is being made and has its dict -/
def tNameOf (K : PySem.W.Frag) (te : TE) : TE := fun σ H Q => te σ H fun v H1 => ∃ (a C dx : Addr) (fs : List (Str × V)) (nm : Str), v = .ref a ∧ NmC K C nm ∧ H1 a = some (exo a C (some dx)) ∧ H1 dx = some (exd dx fs) ∧ Q (.str nm) H1
theorem pe_nameOf {X : Cx} {e : Expr} {te : TE} {p1 p2 : Pos} (he : PE X e te) (h1 : attributeBase e "__class__" X.env (eval e X.env) = eval e X.env := by rfl)
    (h2 : attributeBase (.Attribute e "__class__" p1) "__name__" X.env (eval (.Attribute e "__class__" p1) X.env) = eval (.Attribute e "__class__" p1) X.env := by rfl) :
    PE X (.Attribute (.Attribute e "__class__" p1) "__name__" p2) (tNameOf X.K te) := by
  refine ⟨fun pins s σ H Q I h => ?_⟩
  refine attr_of h2 (attr_of h1 (thn (he.run pins s σ H _ I h) fun u s1 ⟨v, H1, J, r, a, C, dx, fs, nm, ev, N, ea, ed, q⟩ => ?_))
  subst ev
  obtain rfl : u = Value.ref a := r
  obtain ⟨t1, ho⟩ := exo_at J.hok ea
  obtain ⟨mA, hns, rel⟩ := exd_at J.hok ed
  obtain ⟨oD, _, _, hoD, _, _⟩ := hns.count (within_of rel)
  have W : PySem.W.InstAt s1.heap a _ C (some oD) := ⟨ho, rfl, rfl, hoD⟩
  have T := N.e
  refine takes_class T (PySem.W.findObj_data (by obtain ⟨cd, hc, _⟩ := PySem.W.any_some T.hd; rw [hc]; rfl) T.ha T.hn T.ht) J.kIn W ?_
  refine takes_name N (s := { s1 with toks := s1.toks + 1 }) J.kIn fun tk => ?_
  exact ⟨.str nm, H1, J.kept (t' := s1.toks + 1 + 1) fun _ _ z => z, ⟨tk, rfl⟩, q⟩
end Own


namespace Own
open PySem PySem.Spec PyProof.Rows L2
/-! ### short names of readings -/
abbrev rAddI : R2 := rI0 fun i j => .int (i + j)
abbrev rSubI : R2 := rI0 fun i j => .int (i - j)
abbrev rMulI : R2 := rI CMul fun i j => .int (i * j)
abbrev rModI : R2 := rI (fun _ j => 0 < j) fun i j => .int (i % j)
abbrev rDivI : R2 := rI CDiv fun i j => .int (i / j)
abbrev rPowI : R2 := rI CPow fun i j => .int (i ^ j.toNat)
abbrev rNegI : V → Hp → VK → Prop := rU fun i => .int (-i)
abbrev rLtI : R2 := rI0 fun i j => .bl (decide (i < j))
abbrev rLeI : R2 := rI0 fun i j => .bl (decide (i ≤ j))
abbrev rGtI : R2 := rI0 fun i j => .bl (decide (j < i))
abbrev rGeI : R2 := rI0 fun i j => .bl (decide (j ≤ i))
abbrev rIsN : R2 := fun x y H Q => y = .non ∧ Q (.bl (decide (x = .non))) H
abbrev rNotN : R2 := fun x y H Q => y = .non ∧ Q (.bl (!decide (x = .non))) H
abbrev rTimes (K : PySem.W.Frag) : R2 := fun x y H Q => rRepT K x y H Q ∨ rOnce K x y H Q
abbrev rLenV (K : PySem.W.Frag) : List V → Hp → VK → Prop := fun xs H Q => ∃ x n, xs = [x] ∧ LenV K x H n ∧ Q (.int n) H
abbrev rMax2 : List V → Hp → VK → Prop := fun xs H Q => ∃ i j, xs = [.int i, .int j] ∧ Q (.int (if j > i then j else i)) H
abbrev rMin2 : List V → Hp → VK → Prop := fun xs H Q => ∃ i j, xs = [.int i, .int j] ∧ Q (.int (if j < i then j else i)) H
abbrev rInt1 : List V → Hp → VK → Prop := fun xs H Q => (∃ i, xs = [.int i] ∧ Q (.int i) H) ∨ ∃ k, xs = [.bl k] ∧ Q (.int (if k then 1 else 0)) H
abbrev rListOf (K : PySem.W.Frag) : List V → Hp → VK → Prop := fun xs H Q => ∃ p ys, xs = [.ref p] ∧ (SqL K H p ys ∨ SqT K H p ys) ∧ ∀ l, H l = none → Q (.ref l) (upd H l (.lst ys))
abbrev rTupOf (K : PySem.W.Frag) : List V → Hp → VK → Prop := fun xs H Q => ∃ p ys, xs = [.ref p] ∧ ((SqL K H p ys ∧ ∀ l, H l = none → Q (.ref l) (upd H l (.tup ys))) ∨ (SqT K H p ys ∧ Q (.ref p) H))
def tGo (sp : Sp) (t : TA) : TE := fun σ H Q => t σ H fun vs H1 => sp vs H1 Q E0
def tRaise (E : XK) (t : L2.St → Hp → XK → Prop) : TS := fun _ σ H => t σ H fun cls d H' => E cls d H'
def tTry (K : PySem.W.Frag) (C : Addr) (i : Nat) (tb : WX → TS) (ts : Addr → Value → Option Addr → TS) : TS := fun D σ H => tb (wAs K (.ref C) i ts (fun _ _ _ _ => False) D) D σ H
/-- a def of the text, at f, under its name -/
structure DefAt (K : PySem.W.Frag) (mg : Str → Option Value) (x : Str) (st : Stmt) (ps : List Str) (f : Addr) (fd : FuncData) : Prop where
  F : Fun K x x st f fd
  g : mg x = some (.ref f)
  b : Binds K fd ps []
/-- the __init__ of an error's class: self.what = what, self.name = its class's name -/
def spInit (K : PySem.W.Frag) : Sp := fun vs H Q _ => ∃ (a C : Addr) (v : V) (nm : Str), vs = [.ref a, v] ∧ OexC K C ∧ PySem.W.findIn K (.ref C) "what" = some none ∧ NmC K C nm ∧ H a = some (exo a C none) ∧
  ∀ dx, H dx = none → dx ≠ a → Q .non (upd (upd (upd H dx (exd dx [(("what" : Str), v)])) a (exo a C (some dx))) dx (exd dx [(("name" : Str), .str nm), (("what" : Str), v)]))
end Own


namespace Own
open PySem PySem.Spec PyProof.Rows L2
open Evl (Ex RetV)
/-! ### data without lists, of a bounded text -/
def fine : Nat → PyData → Bool
  | _, .none => true
  | _, .bool _ => true
  | _, .int i => decide (i.natAbs < 2 ^ 64)
  | _, .str x => decide ((reprText x).length ≤ 50) && PyData.canLay0 (.str x)
  | 0, _ => false
  | k + 1, .tuple xs => decide (xs.length ≤ 20) && xs.all (fine k)
  | _ + 1, _ => false
/-- no list, no table of code objects -/
structure Fx (o : HO) : Prop where
  l : ∀ xs, o ≠ .lst xs
  t : ∀ ps, o ≠ .tbl ps
/-- all but lists (and tables of code objects) is kept -/
def Kp (H H' : Hp) : Prop := ∀ a o, H a = some o → Fx o → H' a = some o
theorem Kp.refl (H : Hp) : Kp H H := fun _ _ h _ => h
theorem Kp.trans {H H1 H2 : Hp} (a : Kp H H1) (b : Kp H1 H2) : Kp H H2 := fun x o h n => b x o (a x o h n) n
theorem Kp.ex {H H' : Hp} (e : Ex H H') : Kp H H' := fun a o h _ => e a o h
theorem Kp.lst {H : Hp} {l : Addr} {xs ys : List V} (h : H l = some (.lst xs)) : Kp H (upd H l (.lst ys)) := fun a o q n => by
  by_cases e : a = l
  · subst e
    rw [h] at q
    injection q with q
    exact absurd q.symm (n.l xs)
  · rw [upd_ne e]
    exact q
theorem Kp.new {H : Hp} {l : Addr} {o : HO} (h : H l = none) : Kp H (upd H l o) := .ex (Evl.Ex.new h)
theorem Kp.rd {H H' : Hp} {a : Addr} {xs : List V} (e : Kp H H') (h : Rd H a (.tup xs)) : Rd H' a (.tup xs) := by
  rcases h with h | ⟨o, h⟩
  · exact .inl (e a _ h ⟨(fun _ z => by cases z), (fun _ z => by cases z)⟩)
  · exact .inr ⟨o, e a _ h ⟨(fun _ z => by cases z), (fun _ z => by cases z)⟩⟩
theorem Kp.sqT {K : PySem.W.Frag} {H H' : Hp} {a : Addr} {xs : List V} (e : Kp H H') (h : SqT K H a xs) : SqT K H' a xs := h.elim (fun h => .inl (e.rd h)) .inr
/-- v reads as d -/
structure Gd (K : PySem.W.Frag) (H : Hp) (k : Nat) (v : V) (d : PyData) : Prop where
  dp : Dp K H v d
  fn : fine k d = true
mutual
theorem dp_kp {K : PySem.W.Frag} {H H' : Hp} (e : Kp H H') : ∀ (d : PyData) (k : Nat) (v : V), Dp K H v d → fine k d = true → Dp K H' v d
  | .none, _, _, h, _ => by cases h; exact .non
  | .bool b, _, _, h, _ => by cases h; exact .bl b
  | .int i, _, _, h, _ => by cases h; exact .int i
  | .str x, _, _, h, _ => by cases h; exact .str x
  | .list ds, k, _, _, f => by cases k <;> simp [fine] at f
  | .tuple ds, 0, _, _, f => by simp [fine] at f
  | .tuple ds, k + 1, _, h, f => by
    cases h with
    | tup hs ha =>
      simp only [fine, Bool.and_eq_true, decide_eq_true_eq] at f
      exact .tup (e.sqT hs) (dpAll_kp e ds k _ ha (List.all_eq_true.mp f.2))
  | .dict _, _, _, h, _ => by cases h
theorem dpAll_kp {K : PySem.W.Frag} {H H' : Hp} (e : Kp H H') : ∀ (ds : List PyData) (k : Nat) (vs : List V), DpAll K H vs ds → (∀ d ∈ ds, fine k d = true) → DpAll K H' vs ds
  | [], _, _, h, _ => by cases h; exact .nil
  | d :: ds, k, _, h, f => by
    cases h with
    | cons h1 h2 => exact .cons (dp_kp e d k _ h1 (f d List.mem_cons_self)) (dpAll_kp e ds k _ h2 fun x hx => f x (List.mem_cons_of_mem _ hx))
end
theorem Gd.kp {K : PySem.W.Frag} {H H' : Hp} {k : Nat} {v : V} {d : PyData} (e : Kp H H') (g : Gd K H k v d) : Gd K H' k v d := ⟨dp_kp e d k v g.dp g.fn, g.fn⟩
theorem Gd.ex {K : PySem.W.Frag} {H H' : Hp} {k : Nat} {v : V} {d : PyData} (e : Ex H H') (g : Gd K H k v d) : Gd K H' k v d := g.kp (.ex e)
theorem fine_up : ∀ {k j : Nat} {d : PyData}, k ≤ j → fine k d = true → fine j d = true
  | k, j, .none, _, _ => by cases j <;> rfl
  | k, j, .bool _, _, _ => by cases j <;> rfl
  | k, j, .int i, _, h => by cases k <;> cases j <;> exact h
  | k, j, .str x, _, h => by cases k <;> cases j <;> exact h
  | 0, _, .list _, _, h => by simp [fine] at h
  | _ + 1, _, .list _, _, h => by simp [fine] at h
  | 0, _, .dict _, _, h => by simp [fine] at h
  | _ + 1, _, .dict _, _, h => by simp [fine] at h
  | 0, _, .tuple _, _, h => by simp [fine] at h
  | k + 1, 0, .tuple _, l, _ => by omega
  | k + 1, j + 1, .tuple xs, l, h => by
    simp only [fine, Bool.and_eq_true, decide_eq_true_eq, List.all_eq_true] at h ⊢
    exact ⟨h.1, fun d hd => fine_up (by omega) (h.2 d hd)⟩
theorem Gd.up {K : PySem.W.Frag} {H : Hp} {k j : Nat} {v : V} {d : PyData} (l : k ≤ j) (g : Gd K H k v d) : Gd K H j v d := ⟨g.dp, fine_up l g.fn⟩
/-! ### its text -/
def mostText : Nat → Nat
  | 0 => 50
  | k + 1 => 20 * (mostText k + 2) + 2
theorem mostText_ge : ∀ k, 50 ≤ mostText k
  | 0 => Nat.le_refl _
  | k + 1 => by have := mostText_ge k; show 50 ≤ 20 * (mostText k + 2) + 2; omega
theorem tuple_text (ts : List Str) : (tupleText ts).length ≤ piled ts + 2 := PySem.fmt_text ts
end Own
namespace Own
open PySem PySem.Spec PyProof.Rows L2
open Evl (Ex RetV)
theorem digits_len (i : Int) (h : i.natAbs < 2 ^ 64) : ((toString i : String) : Str).length ≤ 50 := by
  have e := int_text_length_le10 (a := i) (k := 20) (by decide) (Nat.lt_of_lt_of_le h (by decide))
  rw [PySem.ofString_length]
  omega
mutual
theorem text_le : ∀ (d : PyData) (k : Nat), fine k d = true → d.shown.length ≤ mostText k
  | .none, k, _ => Nat.le_trans (by simp only [PyData.shown]; decide +kernel) (mostText_ge k)
  | .bool true, k, _ => Nat.le_trans (by simp only [PyData.shown]; decide +kernel) (mostText_ge k)
  | .bool false, k, _ => Nat.le_trans (by simp only [PyData.shown]; decide +kernel) (mostText_ge k)
  | .int i, k, f => by
    have h : i.natAbs < 2 ^ 64 := by cases k <;> simpa [fine] using f
    simp only [PyData.shown]
    exact Nat.le_trans (digits_len i h) (mostText_ge k)
  | .str x, k, f => by
    have h : (reprText x).length ≤ 50 := by cases k <;> exact of_decide_eq_true (Bool.and_eq_true_iff.mp f).1
    simp only [PyData.shown]
    exact Nat.le_trans h (mostText_ge k)
  | .list _, k, f => by cases k <;> simp [fine] at f
  | .dict _, k, f => by cases k <;> simp [fine] at f
  | .tuple _, 0, f => by simp [fine] at f
  | .tuple xs, k + 1, f => by
    simp only [fine, Bool.and_eq_true, decide_eq_true_eq] at f
    have h1 := texts_le xs k (List.all_eq_true.mp f.2)
    have h2 := tuple_text (PyData.shownAll xs)
    simp only [PyData.shown]
    have h3 : xs.length * (mostText k + 2) ≤ 20 * (mostText k + 2) := Nat.mul_le_mul_right _ f.1
    show _ ≤ 20 * (mostText k + 2) + 2
    omega
theorem texts_le : ∀ (ds : List PyData) (k : Nat), (∀ d ∈ ds, fine k d = true) → piled (PyData.shownAll ds) ≤ ds.length * (mostText k + 2)
  | [], _, _ => by simp [PyData.shownAll, piled]
  | d :: ds, k, f => by
    have h1 := text_le d k (f d List.mem_cons_self)
    have h2 := texts_le ds k fun x hx => f x (List.mem_cons_of_mem _ hx)
    simp only [PyData.shownAll, piled_cons, List.length_cons, Nat.succ_mul]
    omega
end
mutual
theorem shows : ∀ (d : PyData) (k : Nat), fine k d = true → d.showable = true ∧ d.hasDict = false ∧ d.depth ≤ k + 1
  | .none, k, _ => ⟨rfl, rfl, by simp [PyData.depth]⟩
  | .bool _, k, _ => ⟨rfl, rfl, by simp [PyData.depth]⟩
  | .str x, k, _ => ⟨rfl, rfl, by simp [PyData.depth]⟩
  | .int i, k, f => by
    have h : i.natAbs < 2 ^ 64 := by cases k <;> simpa [fine] using f
    refine ⟨?_, rfl, by simp [PyData.depth]⟩
    simp only [PyData.showable, decide_eq_true_eq]
    by_cases z : i.natAbs = 0
    · rw [z]; decide
    · have := (Nat.log2_lt z).mpr h
      omega
  | .list _, k, f => by cases k <;> simp [fine] at f
  | .dict _, k, f => by cases k <;> simp [fine] at f
  | .tuple _, 0, f => by simp [fine] at f
  | .tuple xs, k + 1, f => by
    simp only [fine, Bool.and_eq_true, decide_eq_true_eq] at f
    have h := showsAll xs k (List.all_eq_true.mp f.2)
    refine ⟨by simpa only [PyData.showable] using h.1, by simpa only [PyData.hasDict] using h.2.1, ?_⟩
    simp only [PyData.depth]
    omega
theorem showsAll : ∀ (ds : List PyData) (k : Nat), (∀ d ∈ ds, fine k d = true) → PyData.showableAll ds = true ∧ PyData.hasDictAll ds = false ∧ PyData.depthAll ds ≤ k + 1
  | [], k, _ => ⟨rfl, rfl, by simp [PyData.depthAll]⟩
  | d :: ds, k, f => by
    have h1 := shows d k (f d List.mem_cons_self)
    have h2 := showsAll ds k fun x hx => f x (List.mem_cons_of_mem _ hx)
    refine ⟨by simp [PyData.showableAll, h1.1, h2.1], by simp [PyData.hasDictAll, h1.2.1, h2.2.1], ?_⟩
    simp only [PyData.depthAll]
    omega
end
end Own


namespace Own
open PySem PySem.Spec PyProof.Rows L2
open Evl (Ex RetV)
theorem kit_self {K : PySem.W.Frag} {C : Addr} : PySem.W.kitOne K (.ref C) (.ref C) = some true := if_pos (beq_self_eq_true _)
/-! ### what is asked of data -/
def tyOf : PyData → String
  | .none => "NoneType"
  | .bool _ => "bool"
  | .int _ => "int"
  | .str _ => "str"
  | .list _ => "list"
  | .tuple _ => "tuple"
  | .dict _ => "dict"
theorem tyx {K : PySem.W.Frag} {H : Hp} {v : V} {d : PyData} (h : Dp K H v d) (n : ∀ xs, d ≠ .list xs) : TyX K H v (.type (tyOf d)) := by
  cases h with
  | non => exact .base .non
  | bl b => exact .base (.bl b)
  | int i => exact .base (.int i)
  | str x => exact .base (.str x)
  | lst hs _ => exact absurd rfl (n _)
  | tup hs _ =>
    rcases hs with (h | ⟨o, h⟩) | ⟨o, its, n, h, hc, _⟩
    · exact .base (.tup h)
    · exact .fTuple h
    · exact .kTuple h hc
theorem fine_nl {k : Nat} {d : PyData} (f : fine k d = true) : ∀ xs, d ≠ .list xs := fun xs e => by
  subst e
  cases k <;> simp [fine] at f
theorem fine_nd {k : Nat} {d : PyData} (f : fine k d = true) : ∀ xs, d ≠ .dict xs := fun xs e => by
  subst e
  cases k <;> simp [fine] at f
/-- isinstance of data and a built-in type -/
theorem isi_d {K : PySem.W.Frag} {H : Hp} {k : Nat} {v : V} {d : PyData} {t : String} {b : Bool} {Q : VK} (g : Gd K H k v d) (e : kitB (tyOf d) t = some b) (q : Q (.bl b) H) : rIsi K [v, .ty t] H Q :=
  ⟨v, .ty t, _, .type t, b, rfl, .ty t, tyx g.dp (fine_nl g.fn), kit_ty e, q⟩
def isI : PyData → Bool
  | .bool _ => true
  | .int _ => true
  | _ => false
def isB : PyData → Bool
  | .bool _ => true
  | _ => false
def isT : PyData → Bool
  | .tuple _ => true
  | _ => false
theorem isi_int {K : PySem.W.Frag} {H : Hp} {k : Nat} {v : V} {d : PyData} {Q : VK} (g : Gd K H k v d) (q : Q (.bl (isI d)) H) : rIsi K [v, .ty "int"] H Q := by
  refine isi_d (b := isI d) g ?_ q
  cases d with
  | none => exact (by decide +kernel : kitB "NoneType" "int" = some false)
  | bool b => exact (by decide +kernel : kitB "bool" "int" = some true)
  | int i => exact (by decide +kernel : kitB "int" "int" = some true)
  | str x => exact (by decide +kernel : kitB "str" "int" = some false)
  | list xs => exact (by decide +kernel : kitB "list" "int" = some false)
  | tuple xs => exact (by decide +kernel : kitB "tuple" "int" = some false)
  | dict xs => exact (by decide +kernel : kitB "dict" "int" = some false)
theorem isi_bool {K : PySem.W.Frag} {H : Hp} {k : Nat} {v : V} {d : PyData} {Q : VK} (g : Gd K H k v d) (q : Q (.bl (isB d)) H) : rIsi K [v, .ty "bool"] H Q := by
  refine isi_d (b := isB d) g ?_ q
  cases d with
  | none => exact (by decide +kernel : kitB "NoneType" "bool" = some false)
  | bool b => exact (by decide +kernel : kitB "bool" "bool" = some true)
  | int i => exact (by decide +kernel : kitB "int" "bool" = some false)
  | str x => exact (by decide +kernel : kitB "str" "bool" = some false)
  | list xs => exact (by decide +kernel : kitB "list" "bool" = some false)
  | tuple xs => exact (by decide +kernel : kitB "tuple" "bool" = some false)
  | dict xs => exact (by decide +kernel : kitB "dict" "bool" = some false)
theorem isi_tup {K : PySem.W.Frag} {H : Hp} {k : Nat} {v : V} {d : PyData} {Q : VK} (g : Gd K H k v d) (q : Q (.bl (isT d)) H) : rIsi K [v, .ty "tuple"] H Q := by
  refine isi_d (b := isT d) g ?_ q
  cases d with
  | none => exact (by decide +kernel : kitB "NoneType" "tuple" = some false)
  | bool b => exact (by decide +kernel : kitB "bool" "tuple" = some false)
  | int i => exact (by decide +kernel : kitB "int" "tuple" = some false)
  | str x => exact (by decide +kernel : kitB "str" "tuple" = some false)
  | list xs => exact (by decide +kernel : kitB "list" "tuple" = some false)
  | tuple xs => exact (by decide +kernel : kitB "tuple" "tuple" = some true)
  | dict xs => exact (by decide +kernel : kitB "dict" "tuple" = some false)
/-- a number from lo to hi -/
def within (d : PyData) (lo hi : Int) : Bool := match d with
  | .int i => decide (lo ≤ i) && decide (i ≤ hi)
  | _ => false
theorem dpAll_len {K : PySem.W.Frag} {H : Hp} : ∀ {vs : List V} {ds : List PyData}, DpAll K H vs ds → vs.length = ds.length
  | _, _, .nil => rfl
  | _, _, .cons _ t => congrArg Nat.succ (dpAll_len t)
theorem dpAll_get {K : PySem.W.Frag} {H : Hp} : ∀ {vs : List V} {ds : List PyData} {i : Nat} {v : V}, DpAll K H vs ds → vs[i]? = some v → ∃ d, ds[i]? = some d ∧ Dp K H v d
  | _, _, _, _, .nil, e => by simp at e
  | _, _, 0, _, .cons h _, e => by simp at e; subst e; exact ⟨_, rfl, h⟩
  | _, _, i + 1, v, .cons _ t, e => by
    obtain ⟨d, h1, h2⟩ := dpAll_get (i := i) (v := v) t (by simpa using e)
    exact ⟨d, by simpa using h1, h2⟩
/-- a tuple of data: where it stands, its items -/
theorem Gd.tup {K : PySem.W.Frag} {H : Hp} {k : Nat} {v : V} {ds : List PyData} (g : Gd K H k v (.tuple ds)) : ∃ a xs j, v = .ref a ∧ k = j + 1 ∧ SqT K H a xs ∧ xs.length = ds.length ∧ ds.length ≤ 20 ∧ DpAll K H xs ds ∧ (∀ d ∈ ds, fine j d = true) ∧
    ∀ (i : Nat) (x : V), xs[i]? = some x → ∃ d, ds[i]? = some d ∧ Gd K H j x d := by
  obtain ⟨h, f⟩ := g
  cases h with
  | tup hs ha =>
    rename_i a xs
    match k, f with
    | 0, f => simp [fine] at f
    | j + 1, f =>
      simp only [fine, Bool.and_eq_true, decide_eq_true_eq] at f
      have fa := List.all_eq_true.mp f.2
      exact ⟨a, xs, j, rfl, rfl, hs, dpAll_len ha, f.1, ha, fa, fun i x e => let ⟨d, h1, h2⟩ := dpAll_get ha e; ⟨d, h1, h2, fa d (List.mem_of_getElem? h1)⟩⟩
/-- the text of data, asked -/
theorem show_d {K : PySem.W.Frag} {H : Hp} {k : Nat} {v : V} {d : PyData} {Q : VK} (g : Gd K H k v d) (hk : k ≤ 4) (q : Q (.str d.shown) H) : rShow K [v] H Q := by
  obtain ⟨h1, h2, h3⟩ := shows d k g.fn
  have h4 := text_le d k g.fn
  have h5 : mostText k ≤ sizeLine := by
    match k, hk with
    | 0, _ => decide
    | 1, _ => decide
    | 2, _ => decide
    | 3, _ => decide
    | 4, _ => decide
  exact ⟨v, d, rfl, g.dp, ⟨h1, h2, by omega, by omega⟩, q⟩
theorem gd_bl {K : PySem.W.Frag} {H : Hp} {b : Bool} : Gd K H 0 (.bl b) (.bool b) := ⟨.bl b, rfl⟩
theorem gd_int {K : PySem.W.Frag} {H : Hp} {i : Int} (h : i.natAbs < 2 ^ 64) : Gd K H 0 (.int i) (.int i) := ⟨.int i, decide_eq_true h⟩
theorem gd_non {K : PySem.W.Frag} {H : Hp} : Gd K H 0 .non .none := ⟨.non, rfl⟩
theorem gd_str {K : PySem.W.Frag} {H : Hp} {x : Str} (h : fine 0 (.str x) = true) : Gd K H 0 (.str x) (.str x) := ⟨.str x, h⟩
end Own


namespace Own
open PySem PySem.Spec PyProof.Rows L2
open Evl
section
variable {K : PySem.W.Frag} {σ : L2.St} {H H' : Hp} {ta tb tc te : TE} {x y v : V} {k : Nat} {d : PyData} {D : Ends}
theorem ev_isi {t : String} {b : Bool} (h : Ev ta σ H x) (r : ∀ H1, Ex H H1 → ∀ Q : VK, Q (.bl b) H1 → rIsi K [x, .ty t] H1 Q) : Ev (tCB (rIsi K) (tCons ta (tCons (tC (.ty t)) tNil))) σ H (.bl b) :=
  fun H1 e Q q => h H1 e _ fun H2 e2 => r H2 (e.trans e2) Q (q H2 e2)
theorem ev_isI (h : Ev ta σ H x) (g : Gd K H k x d) : Ev (tCB (rIsi K) (tCons ta (tCons (tC (.ty "int")) tNil))) σ H (.bl (isI d)) := ev_isi h fun _ e _ q => isi_int (g.ex e) q
theorem ev_isB (h : Ev ta σ H x) (g : Gd K H k x d) : Ev (tCB (rIsi K) (tCons ta (tCons (tC (.ty "bool")) tNil))) σ H (.bl (isB d)) := ev_isi h fun _ e _ q => isi_bool (g.ex e) q
theorem ev_isT (h : Ev ta σ H x) (g : Gd K H k x d) : Ev (tCB (rIsi K) (tCons ta (tCons (tC (.ty "tuple")) tNil))) σ H (.bl (isT d)) := ev_isi h fun _ e _ q => isi_tup (g.ex e) q
theorem ev_chain {i j l : Int} (ha : Ev ta σ H (.int i)) (hb : Ev tb σ H (.int j)) (hc : Ev tc σ H (.int l)) : Ev (tChain rLeI rLeI ta tb tc) σ H (.bl (decide (i ≤ j) && decide (j ≤ l))) :=
  fun H1 e Q q => ha H1 e _ fun H2 e2 => hb H2 (e.trans e2) _ fun H3 e3 => ⟨i, j, rfl, rfl, _, rfl, by
    by_cases c : i ≤ j
    · rw [decide_eq_true c]
      exact iteT (hc H3 ((e.trans e2).trans e3) _ fun H4 e4 => ⟨j, l, rfl, rfl, by simpa [c] using q H4 ((e2.trans e3).trans e4)⟩)
    · rw [decide_eq_false c]
      exact iteF (by simpa [c] using q H3 (e2.trans e3))⟩
theorem ev_lenT {a : Addr} {xs : List V} (h : Ev ta σ H (.ref a)) (hs : SqT K H a xs) : Ev (tCB (rLenV K) (tCons ta tNil)) σ H (.int (xs.length : Int)) :=
  fun H1 e Q q => h H1 e _ fun H2 e2 => ⟨_, _, rfl, .inr ⟨xs, ex_t (e.trans e2) hs, rfl⟩, q H2 e2⟩
theorem ev_lenL {a : Addr} {xs : List V} (h : Ev ta σ H (.ref a)) (hs : SqL K H a xs) : Ev (tCB (rLenV K) (tCons ta tNil)) σ H (.int (xs.length : Int)) :=
  fun H1 e Q q => h H1 e _ fun H2 e2 => ⟨_, _, rfl, .inl ⟨xs, ex_l (e.trans e2) hs, rfl⟩, q H2 e2⟩
theorem ev_addI {i j : Int} (ha : Ev ta σ H (.int i)) (hb : Ev tb σ H (.int j)) : Ev (tOp rAddI ta tb) σ H (.int (i + j)) := ev_op ha hb rv_I0
theorem ev_subI {i j : Int} (ha : Ev ta σ H (.int i)) (hb : Ev tb σ H (.int j)) : Ev (tOp rSubI ta tb) σ H (.int (i - j)) := ev_op ha hb rv_I0
theorem ev_mulI {i j : Int} (ha : Ev ta σ H (.int i)) (hb : Ev tb σ H (.int j)) (c : CMul i j) : Ev (tOp rMulI ta tb) σ H (.int (i * j)) := ev_op ha hb (rv_I (C := CMul) c)
theorem ev_modI {i j : Int} (ha : Ev ta σ H (.int i)) (hb : Ev tb σ H (.int j)) (c : 0 < j) : Ev (tOp rModI ta tb) σ H (.int (i % j)) := ev_op ha hb (rv_I (C := fun _ j => 0 < j) c)
theorem ev_ltI {i j : Int} (ha : Ev ta σ H (.int i)) (hb : Ev tb σ H (.int j)) : EvT (tTest (tOp rLtI ta tb)) σ H (decide (i < j)) := et_test (ev_op ha hb rv_I0)
theorem ev_leI {i j : Int} (ha : Ev ta σ H (.int i)) (hb : Ev tb σ H (.int j)) : EvT (tTest (tOp rLeI ta tb)) σ H (decide (i ≤ j)) := et_test (ev_op ha hb rv_I0)
theorem ev_gtI {i j : Int} (ha : Ev ta σ H (.int i)) (hb : Ev tb σ H (.int j)) : EvT (tTest (tOp rGtI ta tb)) σ H (decide (j < i)) := et_test (ev_op ha hb rv_I0)
theorem ev_geI {i j : Int} (ha : Ev ta σ H (.int i)) (hb : Ev tb σ H (.int j)) : EvT (tTest (tOp rGeI ta tb)) σ H (decide (j ≤ i)) := et_test (ev_op ha hb rv_I0)
theorem dec_int' {i j : Int} : decide (V.int i = V.int j) = decide (i = j) := by
  by_cases h : i = j
  · subst h; simp
  · simp [h]
theorem ev_eqI {i j : Int} (ha : Ev ta σ H (.int i)) (hb : Ev tb σ H (.int j)) : Ev (tOp rEq ta tb) σ H (.bl (decide (i = j))) := by
  rw [← dec_int']
  exact ev_op ha hb (rv_eq rfl)
theorem ev_neI {i j : Int} (ha : Ev ta σ H (.int i)) (hb : Ev tb σ H (.int j)) : Ev (tOp rNe ta tb) σ H (.bl (!decide (i = j))) := by
  rw [← dec_int']
  exact ev_op ha hb (rv_ne rfl)
theorem et_eqI {i j : Int} (ha : Ev ta σ H (.int i)) (hb : Ev tb σ H (.int j)) : EvT (tTest (tOp rEq ta tb)) σ H (decide (i = j)) := et_test (ev_eqI ha hb)
theorem et_neI {i j : Int} (ha : Ev ta σ H (.int i)) (hb : Ev tb σ H (.int j)) : EvT (tTest (tOp rNe ta tb)) σ H (!decide (i = j)) := et_test (ev_neI ha hb)
theorem ev_isN (ha : Ev ta σ H x) : Ev (tOp rIsN ta (tC .non)) σ H (.bl (decide (x = .non))) := fun H1 e Q q => ha H1 e _ fun H2 e2 => ⟨rfl, q H2 e2⟩
theorem ev_notN (ha : Ev ta σ H x) : Ev (tOp rNotN ta (tC .non)) σ H (.bl (!decide (x = .non))) := fun H1 e Q q => ha H1 e _ fun H2 e2 => ⟨rfl, q H2 e2⟩
theorem ev_min2 {i j : Int} (ha : Ev ta σ H (.int i)) (hb : Ev tb σ H (.int j)) : Ev (tCB rMin2 (tCons ta (tCons tb tNil))) σ H (.int (if j < i then j else i)) :=
  fun H1 e Q q => ha H1 e _ fun H2 e2 => hb H2 (e.trans e2) _ fun H3 e3 => ⟨i, j, rfl, q H3 (e2.trans e3)⟩
theorem ev_max2 {i j : Int} (ha : Ev ta σ H (.int i)) (hb : Ev tb σ H (.int j)) : Ev (tCB rMax2 (tCons ta (tCons tb tNil))) σ H (.int (if j > i then j else i)) :=
  fun H1 e Q q => ha H1 e _ fun H2 e2 => hb H2 (e.trans e2) _ fun H3 e3 => ⟨i, j, rfl, q H3 (e2.trans e3)⟩
theorem ev_int1 {i : Int} (ha : Ev ta σ H (.int i)) : Ev (tCB rInt1 (tCons ta tNil)) σ H (.int i) := fun H1 e Q q => ha H1 e _ fun H2 e2 => .inl ⟨i, rfl, q H2 e2⟩
theorem ev_intB {b : Bool} (ha : Ev ta σ H (.bl b)) : Ev (tCB rInt1 (tCons ta tNil)) σ H (.int (if b then 1 else 0)) := fun H1 e Q q => ha H1 e _ fun H2 e2 => .inr ⟨b, rfl, q H2 e2⟩
theorem ev_ixL {a : Addr} {xs : List V} {i : Int} (ha : Ev ta σ H (.ref a)) (hb : Ev tb σ H (.int i)) (hs : SqL K H a xs) (h : atI xs i = some v) : Ev (tOp (rIxL K) ta tb) σ H v := ev_op ha hb (rv_ixL hs h)
theorem ev_ixT {a : Addr} {xs : List V} {i : Int} (ha : Ev ta σ H (.ref a)) (hb : Ev tb σ H (.int i)) (hs : SqT K H a xs) (h : atI xs i = some v) : Ev (tOp (rIxT K) ta tb) σ H v := ev_op ha hb (rv_ixT hs h)
theorem ea_1 (h : Ev ta σ H x) : EvA (tCons ta tNil) σ H [x] := ea_cons h ea_nil
theorem ea_2 (h : Ev ta σ H x) (h2 : Ev tb σ H y) : EvA (tCons ta (tCons tb tNil)) σ H [x, y] := ea_cons h (ea_1 h2)
theorem ea_3 (h : Ev ta σ H x) (h2 : Ev tb σ H y) (h3 : Ev tc σ H v) : EvA (tCons ta (tCons tb (tCons tc tNil))) σ H [x, y, v] := ea_cons h (ea_2 h2 h3)
/-- a promise of a value alone, as Evl has it -/
theorem spv {sp : Sp} {vs : List V} {z : V} (h : ∀ H1, Ex H H1 → ∀ Q : VK, RetV z H1 Q → ∀ E : XK, sp vs H1 Q E) : SpV sp vs H z := fun H1 e Q q E => h H1 e Q q E
end
end Own


namespace Own
open PySem PySem.Spec PyProof.Rows L2
open Evl
section
variable {K : PySem.W.Frag} {σ : L2.St} {H H' : Hp} {ta tb tc te : TE} {t : TT} {x y v : V} {k : Nat} {d : PyData} {D : Ends}
/-- over a range from lo -/
theorem el_lcRg {ta : TA} {j : Nat} {vs : List Nat} {lo hi : Int} (f : Nat → Bool) (v : Nat → V) (h : EvA ta σ H [.int lo, .int hi]) (h1 : 0 ≤ lo ∧ lo ≤ 100000) (h2 : lo ≤ hi ∧ hi ≤ lo + 40000) (hw : ∀ x, wipe ((wipe σ vs).set j (some x)) vs = wipe σ vs)
    (ht : ∀ (i : Nat) H1, Ex H H1 → (i : Int) < hi - lo → EvT t ((wipe σ vs).set j (some (.int (lo + (i : Int))))) H1 (f i)) (he : ∀ (i : Nat) H1, Ex H H1 → (i : Int) < hi - lo → f i = true → Ev te ((wipe σ vs).set j (some (.int (lo + (i : Int))))) H1 (v i)) :
    EvL (tLc (iRng2 ta) (gName j) t te vs) σ H (given (hi - lo).toNat f v) := fun H0 e Q q => h H0 e _ fun H1 e1 => ⟨lo, hi, rfl, ⟨by omega, by omega, by omega, by omega⟩, fun Dl hD =>
  lc_range (lo := lo) (n := (hi - lo).toNat) (Cw H1 f v Dl) ⟨hD, Ex.new hD, upd_same⟩
    (fun i H' hi p => ⟨hw _, cw_turn p (by omega) (ht i H1 (e.trans e1) (by omega)) (fun hf => he i H1 (e.trans e1) (by omega) hf)⟩) (fun H' p => q Dl H' (fresh_back e1 p.1) (e1.trans p.2.1) p.2.2)⟩
/-- over a tuple -/
theorem el_lcTp {a : Addr} {xs : List V} {tl : TE} {j : Nat} {vs : List Nat} (f : Nat → Bool) (v : Nat → V) (h : Ev tl σ H (.ref a)) (hx : SqT K H a xs) (hz : xs.length ≤ 40000) (hw : ∀ x, wipe ((wipe σ vs).set j (some x)) vs = wipe σ vs)
    (ht : ∀ (i : Nat) (x : V) H1, Ex H H1 → xs[i]? = some x → EvT t ((wipe σ vs).set j (some x)) H1 (f i)) (he : ∀ (i : Nat) (x : V) H1, Ex H H1 → xs[i]? = some x → f i = true → Ev te ((wipe σ vs).set j (some x)) H1 (v i)) :
    EvL (tLc (iTup K tl) (gName j) t te vs) σ H (given xs.length f v) := fun H0 e Q q => h H0 e _ fun H1 e1 => ⟨a, rfl, ⟨xs, ex_t (e.trans e1) hx⟩, fun Dl hD =>
  lc_tup (xs := xs) (Cw H1 f v Dl) ⟨hD, Ex.new hD, upd_same⟩ (fun i H' _ p => ex_t ((e.trans e1).trans p.2.1) hx)
    (fun i x H' hi p => ⟨hw x, cw_turn p (by have := (List.getElem?_eq_some_iff.mp hi).1; omega) (ht i x H1 (e.trans e1) hi) (fun hf => he i x H1 (e.trans e1) hi hf)⟩) (fun H' p => q Dl H' (fresh_back e1 p.1) (e1.trans p.2.1) p.2.2)⟩
theorem et_yes : EvT tYes σ H true := fun H1 e Q q => q H1 (.refl _)
mutual
theorem fine_lay : ∀ (d : PyData) (k : Nat), fine k d = true → d.canLay0 = true
  | .none, _, _ => rfl
  | .bool _, _, _ => rfl
  | .int _, _, _ => rfl
  | .str x, k, f => by cases k <;> exact (Bool.and_eq_true_iff.mp f).2
  | .list _, k, f => by cases k <;> simp [fine] at f
  | .dict _, k, f => by cases k <;> simp [fine] at f
  | .tuple _, 0, f => by simp [fine] at f
  | .tuple xs, k + 1, f => by
    simp only [fine, Bool.and_eq_true, decide_eq_true_eq] at f
    have h := fine_layAll xs k (List.all_eq_true.mp f.2)
    simpa only [PyData.canLay0] using h
theorem fine_layAll : ∀ (ds : List PyData) (k : Nat), (∀ d ∈ ds, fine k d = true) → PyData.canLayAll0 ds = true
  | [], _, _ => rfl
  | d :: ds, k, f => by
    have h1 := fine_lay d k (f d List.mem_cons_self)
    have h2 := fine_layAll ds k fun x hx => f x (List.mem_cons_of_mem _ hx)
    simp [PyData.canLayAll0, h1, h2]
end
theorem fine_shaped {d : PyData} {k : Nat} (hk : k ≤ 60) (f : fine k d = true) : SeqAt.shaped d = true := by
  unfold SeqAt.shaped
  rw [fine_lay d k f, decide_eq_true (show d.depth ≤ 64 by have := (shows d k f).2.2; omega)]
  rfl
/-- a list of data -/
inductive GdAll (K : PySem.W.Frag) (H : Hp) (k : Nat) : List V → List PyData → Prop
  | nil : GdAll K H k [] []
  | cons {v : V} {vs : List V} {d : PyData} {ds : List PyData} : Gd K H k v d → GdAll K H k vs ds → GdAll K H k (v :: vs) (d :: ds)
theorem GdAll.dp {k : Nat} : ∀ {vs : List V} {ds : List PyData}, GdAll K H k vs ds → DpAll K H vs ds ∧ ∀ d ∈ ds, fine k d = true
  | _, _, .nil => ⟨.nil, fun _ h => absurd h List.not_mem_nil⟩
  | _, _, .cons g t => ⟨.cons g.dp t.dp.1, fun d h => by
    rcases List.mem_cons.mp h with e | e
    · rw [e]; exact g.fn
    · exact t.dp.2 d e⟩
theorem gdAll_of {k : Nat} : ∀ {vs : List V}, (∀ v ∈ vs, ∃ d, Gd K H k v d) → ∃ ds, GdAll K H k vs ds
  | [], _ => ⟨[], .nil⟩
  | v :: vs, h => by
    obtain ⟨d, g⟩ := h v List.mem_cons_self
    obtain ⟨ds, gs⟩ := gdAll_of (vs := vs) fun x hx => h x (List.mem_cons_of_mem _ hx)
    exact ⟨d :: ds, .cons g gs⟩
theorem gdAll_len {k : Nat} : ∀ {vs : List V} {ds : List PyData}, GdAll K H k vs ds → vs.length = ds.length
  | _, _, .nil => rfl
  | _, _, .cons _ t => congrArg Nat.succ (gdAll_len t)
theorem GdAll.kp {k : Nat} (e : Kp H H') : ∀ {vs : List V} {ds : List PyData}, GdAll K H k vs ds → GdAll K H' k vs ds
  | _, _, .nil => .nil
  | _, _, .cons g t => .cons (g.kp e) (t.kp e)
theorem GdAll.up {k j : Nat} (l : k ≤ j) : ∀ {vs : List V} {ds : List PyData}, GdAll K H k vs ds → GdAll K H j vs ds
  | _, _, .nil => .nil
  | _, _, .cons g t => .cons (g.up l) (t.up l)
theorem GdAll.app {k : Nat} : ∀ {vs ws : List V} {ds es : List PyData}, GdAll K H k vs ds → GdAll K H k ws es → GdAll K H k (vs ++ ws) (ds ++ es)
  | _, _, _, _, .nil, h => h
  | _, _, _, _, .cons g t, h => .cons g (t.app h)
theorem gd_tup {k : Nat} {a : Addr} {vs : List V} {ds : List PyData} (hs : SqT K H a vs) (g : GdAll K H k vs ds) (hl : vs.length ≤ 20) : Gd K H (k + 1) (.ref a) (.tuple ds) :=
  ⟨.tup hs g.dp.1, by
    simp only [fine, Bool.and_eq_true, decide_eq_true_eq]
    exact ⟨by rw [← gdAll_len g]; exact hl, List.all_eq_true.mpr g.dp.2⟩⟩
theorem shaped_list {k : Nat} (hk : k ≤ 60) {ds : List PyData} (f : ∀ d ∈ ds, fine k d = true) : SeqAt.shaped (.list ds) = true := by
  unfold SeqAt.shaped
  have h1 : PyData.canLay0 (.list ds) = true := by simpa only [PyData.canLay0] using fine_layAll ds k f
  have h2 := (showsAll ds k f).2.2
  rw [h1, decide_eq_true (show (PyData.list ds).depth ≤ 64 by simp only [PyData.depth]; omega)]
  rfl
/-- a list of data against the empty one -/
theorem eqD_nil {p q : Addr} {vs : List V} {ds : List PyData} {k : Nat} {Q : VK} (hk : k ≤ 60) (h1 : SqL K H p vs) (g : GdAll K H k vs ds) (h2 : SqL K H q []) (w : Q (.bl (vs.isEmpty)) H) : rEqD K (.ref p) (.ref q) H Q :=
  ⟨.list ds, .list [], .lst h1 g.dp.1, .lst h2 .nil, shaped_list hk g.dp.2, rfl, by
    have e : PyData.eqv (.list ds) (.list []) = vs.isEmpty := by
      cases g <;> simp [PyData.eqv, PyData.eqvAll]
    rw [e]
    exact w⟩
theorem neD_nil {p q : Addr} {vs : List V} {ds : List PyData} {k : Nat} {Q : VK} (hk : k ≤ 60) (h1 : SqL K H p vs) (g : GdAll K H k vs ds) (h2 : SqL K H q []) (w : Q (.bl (!vs.isEmpty)) H) : rNeD K (.ref p) (.ref q) H Q :=
  ⟨.list ds, .list [], .lst h1 g.dp.1, .lst h2 .nil, shaped_list hk g.dp.2, rfl, by
    have e : PyData.eqv (.list ds) (.list []) = vs.isEmpty := by
      cases g <;> simp [PyData.eqv, PyData.eqvAll]
    rw [e]
    exact w⟩
theorem ev_eqNil {vs : List V} {ds : List PyData} {k : Nat} (hk : k ≤ 60) (h : EvL ta σ H vs) (g : GdAll K H k vs ds) : Ev (tOp (rEqD K) ta (tLst tNil)) σ H (.bl vs.isEmpty) :=
  ev_opLL h (el_lst ea_nil (Nat.zero_le _)) fun p q H1 hp hq e H2 e2 Q w => eqD_nil hk (sq_of (e2 p _ hp)) (g.kp (.ex (e.trans e2))) (sq_of (e2 q _ hq)) (w H2 (.refl _))
theorem ev_neNil {vs : List V} {ds : List PyData} {k : Nat} (hk : k ≤ 60) (h : EvL ta σ H vs) (g : GdAll K H k vs ds) : Ev (tOp (rNeD K) ta (tLst tNil)) σ H (.bl (!vs.isEmpty)) :=
  ev_opLL h (el_lst ea_nil (Nat.zero_le _)) fun p q H1 hp hq e H2 e2 Q w => neD_nil hk (sq_of (e2 p _ hp)) (g.kp (.ex (e.trans e2))) (sq_of (e2 q _ hq)) (w H2 (.refl _))
theorem given_empty : ∀ (n : Nat) (f : Nat → Bool) (v : Nat → V), (given n f v).isEmpty = (List.range n).all fun i => !f i := fun n f v => by
  unfold given
  induction n with
  | zero => rfl
  | succ n ih =>
    rw [List.range_succ, List.filter_append, List.map_append, List.all_append]
    cases h : f n with
    | true => simp [h]
    | false =>
      simp only [List.all_cons, List.all_nil, h, Bool.not_false, Bool.and_true]
      rw [← ih]
      simp [h]
theorem given_mem {n : Nat} {f : Nat → Bool} {v : Nat → V} {y : V} (h : y ∈ given n f v) : ∃ i, i < n ∧ f i = true ∧ y = v i := by
  unfold given at h
  obtain ⟨i, hi, e⟩ := List.mem_map.mp h
  obtain ⟨h1, h2⟩ := List.mem_filter.mp hi
  exact ⟨i, List.mem_range.mp h1, h2, e.symm⟩
end
end Own


namespace Own
/-! ### numbers that nothing divides -/
def noDiv (p : Int) : Bool := (List.range 999).all fun i => !(decide ((2 + (i : Int)) * (2 + (i : Int)) ≤ p) && decide (p % (2 + (i : Int)) = 0))
theorem noDiv_iff {p : Int} (hp : p ≤ 1000003) : noDiv p = true ↔ ∀ e : Int, 2 ≤ e → e * e ≤ p → p % e ≠ 0 := by
  unfold noDiv
  rw [List.all_eq_true]
  constructor
  · intro h e h2 hm z
    have he : e ≤ 1000 := by
      refine Int.not_lt.mp fun c => ?_
      have : 1001 * 1001 ≤ e * e := Int.mul_le_mul (by omega) (by omega) (by omega) (by omega)
      omega
    have := h (e - 2).toNat (List.mem_range.mpr (by omega))
    have e1 : (2 : Int) + ((e - 2).toNat : Int) = e := by omega
    rw [e1] at this
    simp [hm, z] at this
  · intro h i hi
    by_cases c : (2 + (i : Int)) * (2 + (i : Int)) ≤ p
    · have := h (2 + (i : Int)) (by omega) c
      simp [c, this]
    · simp [c]
theorem noDiv_small {p : Int} (h2 : 2 ≤ p) (h : p < 4) : noDiv p = true := (noDiv_iff (by omega)).mpr fun e h2 hm => by
  have : 2 * 2 ≤ e * e := Int.mul_le_mul h2 h2 (by omega) (by omega)
  omega
theorem noDiv_even {p : Int} (h4 : 4 ≤ p) (hp : p ≤ 1000003) (h : p % 2 = 0) : noDiv p = false := by
  refine Bool.eq_false_iff.mpr fun z => ?_
  exact (noDiv_iff hp).mp z 2 (by omega) (by omega) h
theorem noDiv_found {p m : Int} (hp : p ≤ 1000003) (h2 : 2 ≤ m) (hm : m * m ≤ p) (h : p % m = 0) : noDiv p = false := by
  refine Bool.eq_false_iff.mpr fun z => ?_
  exact (noDiv_iff hp).mp z m h2 hm h
/-- what the odd search knows at m -/
def Sought (p m : Int) : Prop := m % 2 = 1 ∧ 3 ≤ m ∧ ∀ e : Int, 2 ≤ e → e < m → p % e ≠ 0
theorem Sought.start {p : Int} (h : p % 2 ≠ 0) : Sought p 3 := ⟨by omega, by omega, fun e h1 h2 => by
  have : e = 2 := by omega
  rw [this]
  exact h⟩
theorem Sought.next {p m : Int} (h0 : p % 2 ≠ 0) (s : Sought p m) (h : p % m ≠ 0) : Sought p (m + 2) := by
  obtain ⟨a, b, c⟩ := s
  refine ⟨by omega, by omega, fun e h1 h2 => ?_⟩
  by_cases e1 : e < m
  · exact c e h1 e1
  · by_cases e2 : e = m
    · rw [e2]; exact h
    · have e3 : e = m + 1 := by omega
      intro z
      have d : e ∣ p := Int.dvd_of_emod_eq_zero z
      have d2 : (2 : Int) ∣ e := Int.dvd_of_emod_eq_zero (by omega)
      have d3 : (2 : Int) ∣ p := Int.dvd_trans d2 d
      have := Int.emod_eq_zero_of_dvd d3
      exact h0 this
theorem Sought.done {p m : Int} (hp : p ≤ 1000003) (s : Sought p m) (h : ¬ m * m ≤ p) : noDiv p = true := (noDiv_iff hp).mpr fun e h2 hm => by
  refine s.2.2 e h2 (Int.not_le.mp fun c => ?_)
  have : m * m ≤ e * e := Int.mul_le_mul c c (by have := s.2.1; omega) (by omega)
  omega
theorem Sought.small {p m : Int} (hp : p ≤ 1000003) (s : Sought p m) (h : m * m ≤ p) : m ≤ 1000 := by
  refine Int.not_lt.mp fun c => ?_
  have : 1001 * 1001 ≤ m * m := Int.mul_le_mul (by omega) (by omega) (by omega) (by omega)
  omega
end Own


namespace Own
open PySem PySem.Spec PyProof.Rows L2
open Evl
section
variable {K : PySem.W.Frag} {σ : L2.St} {H H' : Hp} {ta tb tc te : TE} {t u : TT} {x y v : V} {k : Nat} {d : PyData} {D : Ends}
theorem ev_allB {bs : List Bool} (h : EvL ta σ H (bs.map V.bl)) : Ev (tCB (rAll K) (tCons ta tNil)) σ H (.bl (bs.all id)) :=
  fun H1 e Q q => h H1 e _ fun p H2 hp e2 hl => ⟨p, bs, rfl, sq_of hl, q H2 e2⟩
theorem given_true (n : Nat) (v : Nat → V) : given n (fun _ => true) v = (List.range n).map v := by
  unfold given
  rw [List.filter_eq_self.mpr fun _ _ => rfl]
theorem range_getD {α β : Type} (ds : List α) (z : α) (f : α → β) : ((List.range ds.length).map fun i => f (ds.getD i z)) = ds.map f := by
  apply List.ext_getElem
  · simp
  · intro i h1 h2
    simp at h1
    simp [List.getD_eq_getElem?_getD, h1]
/-- all(f(x) for the items of a tuple of data) -/
theorem given_bools {α : Type} (ds : List α) (z : α) (f : α → Bool) : given ds.length (fun _ => true) (fun i => V.bl (f (ds.getD i z))) = (ds.map f).map V.bl := by
  rw [given_true, ← range_getD ds z f, List.map_map]
  rfl
theorem all_id {α : Type} (ds : List α) (f : α → Bool) : (ds.map f).all id = ds.all f := by
  rw [List.all_map]
  rfl
theorem getD_at {ds : List PyData} {i : Nat} {d : PyData} (h : ds[i]? = some d) (z : PyData) : ds.getD i z = d := by
  rw [List.getD_eq_getElem?_getD, h]
  rfl
theorem et_false_or {a : Bool} (h1 : EvT t σ H a) (e : a = true) : EvT (tOr t u) σ H true := by
  subst e
  exact fun H1 e Q q => h1 H1 e _ fun H2 e2 => iteT (q H2 e2)
/-- a number's test as an option's -/
def optV : Option Int → V
  | none => .non
  | some i => .int i
theorem optV_non (o : Option Int) : decide (optV o = .non) = o.isNone := by cases o <;> simp [optV]
end
end Own


namespace Own
open PySem PySem.Spec PyProof.Rows L2
open Evl
/-! ### a source of numbers: a list of two, that every draw changes -/
def Src (H : Hp) (a : Addr) : Prop := ∃ big mixed : Int, H a = some (.lst [.int big, .int mixed]) ∧ 0 ≤ big ∧ 0 ≤ mixed ∧ mixed < 2147483647
/-- all but the source at a is kept -/
structure Up (a : Addr) (H H' : Hp) : Prop where
  keep : ∀ b o, b ≠ a → H b = some o → H' b = some o
  src : Src H' a
theorem Up.refl {a : Addr} {H : Hp} (h : Src H a) : Up a H H := ⟨fun _ _ _ h => h, h⟩
theorem Up.trans {a : Addr} {H H1 H2 : Hp} (x : Up a H H1) (y : Up a H1 H2) : Up a H H2 := ⟨fun b o n h => y.keep b o n (x.keep b o n h), y.src⟩
theorem Src.ex {a : Addr} {H H' : Hp} (e : Ex H H') (s : Src H a) : Src H' a := let ⟨x, y, h, r⟩ := s; ⟨x, y, e a _ h, r⟩
theorem Up.ex {a : Addr} {H H' : Hp} (e : Ex H H') (s : Src H a) : Up a H H' := ⟨fun b o _ h => e b o h, s.ex e⟩
theorem Up.kp {a : Addr} {H H' : Hp} (s : Src H a) (u : Up a H H') : Kp H H' := fun b o h n => by
  by_cases e : b = a
  · subst e
    obtain ⟨x, y, q, _⟩ := s
    rw [h] at q
    injection q with q
    exact absurd q (n.l _)
  · exact u.keep b o e h
theorem Src.at {a b : Addr} {H : Hp} {o : HO} (s : Src H a) (h : H b = some o) (n : ∀ xs, o ≠ .lst xs) : b ≠ a := fun e => by
  subst e
  obtain ⟨x, y, q, _⟩ := s
  rw [h] at q
  injection q with q
  exact n _ q
theorem Src.new {a b : Addr} {H : Hp} (s : Src H a) (h : H b = none) : b ≠ a := fun e => by
  subst e
  obtain ⟨x, y, q, _⟩ := s
  rw [h] at q
  cases q
/-- a tuple stands -/
theorem Up.sqT {K : PySem.W.Frag} {a b : Addr} {H H' : Hp} {xs : List V} (s : Src H a) (u : Up a H H') (h : SqT K H b xs) : SqT K H' b xs := (u.kp s).sqT h
theorem Up.gd {K : PySem.W.Frag} {a : Addr} {H H' : Hp} {k : Nat} {v : V} {d : PyData} (s : Src H a) (u : Up a H H') (g : Gd K H k v d) : Gd K H' k v d := g.kp (u.kp s)
abbrev VP := V → Hp → Prop
def Mono (a : Addr) (P : VP) : Prop := ∀ v H H', Src H a → Up a H H' → P v H → P v H'
/-- te gives a value of which P is so, and changes nothing but the source -/
def EvS (a : Addr) (te : TE) (σ : L2.St) (H : Hp) (P : VP) : Prop := ∀ H1, Up a H H1 → ∀ Q : VK, (∀ v H2, Up a H1 H2 → P v H2 → Q v H2) → te σ H1 Q
/-- n values, of each of which P is so -/
def EvSA (a : Addr) (ta : TA) (σ : L2.St) (H : Hp) (n : Nat) (P : VP) : Prop := ∀ H1, Up a H H1 → ∀ Q : List V → Hp → Prop, (∀ vs H2, Up a H1 H2 → vs.length = n → (∀ v ∈ vs, P v H2) → Q vs H2) → ta σ H1 Q
def PInt (lo hi : Int) : VP := fun v _ => ∃ i, v = .int i ∧ lo ≤ i ∧ i ≤ hi
def PDat (K : PySem.W.Frag) (k : Nat) : VP := fun v H => ∃ d, Gd K H k v d
theorem mono_int {a : Addr} {lo hi : Int} : Mono a (PInt lo hi) := fun _ _ _ _ _ h => h
theorem mono_dat {K : PySem.W.Frag} {a : Addr} {k : Nat} : Mono a (PDat K k) := fun _ _ _ s u ⟨d, g⟩ => ⟨d, u.gd s g⟩
/-- a list at an address of its own, of things of which P is so -/
def PLst (a : Addr) (n : Nat) (P : VP) : VP := fun v H => ∃ b xs, v = .ref b ∧ b ≠ a ∧ H b = some (.lst xs) ∧ xs.length = n ∧ ∀ x ∈ xs, P x H
theorem mono_lst {a : Addr} {n : Nat} {P : VP} (m : Mono a P) : Mono a (PLst a n P) := fun _ _ _ s u ⟨b, xs, e, nb, hb, hl, hp⟩ => ⟨b, xs, e, nb, u.keep b _ nb hb, hl, fun x hx => m x _ _ s u (hp x hx)⟩
section
variable {K : PySem.W.Frag} {a : Addr} {σ : L2.St} {H H' : Hp} {te ta tb : TE} {P R S : VP} {D : Ends} {tz tu : TS}
theorem es_c {v : V} (h : ∀ H1, P v H1) : EvS a (tC v) σ H P := fun H1 u Q q => q v H1 (.refl u.src) (h H1)
theorem es_int {i lo hi : Int} (h1 : lo ≤ i) (h2 : i ≤ hi) : EvS a (tC (.int i)) σ H (PInt lo hi) := es_c fun _ => ⟨i, rfl, h1, h2⟩
theorem es_var {i : Nat} {v : V} (e : σ[i]? = some (some v)) (h : ∀ H1, Up a H H1 → P v H1) : EvS a (tVar i) σ H P := fun H1 u Q q => ⟨v, e, q v H1 (.refl u.src) (h H1 u)⟩
theorem es_vint {i : Nat} {j lo hi : Int} (e : σ[i]? = some (some (.int j))) (h1 : lo ≤ j) (h2 : j ≤ hi) : EvS a (tVar i) σ H (PInt lo hi) := es_var e fun _ _ => ⟨j, rfl, h1, h2⟩
theorem es_imp (h : EvS a te σ H P) (i : ∀ v H1, P v H1 → R v H1) : EvS a te σ H R := fun H1 u Q q => h H1 u Q fun v H2 u2 p => q v H2 u2 (i v H2 p)
theorem es_op {r : R2} (ha : EvS a ta σ H P) (hb : EvS a tb σ H R) (m : Mono a P) (hr : ∀ x y H1, Up a H H1 → P x H1 → R y H1 → ∀ Q : VK, (∀ z H2, Up a H1 H2 → S z H2 → Q z H2) → r x y H1 Q) : EvS a (tOp r ta tb) σ H S :=
  fun H1 u Q q => ha H1 u _ fun x H2 u2 p => hb H2 (u.trans u2) _ fun y H3 u3 p3 => hr x y H3 ((u.trans u2).trans u3) (m x H2 H3 u2.src u3 p) p3 Q fun z H4 u4 s => q z H4 ((u2.trans u3).trans u4) s
theorem es_add {l1 h1 l2 h2 : Int} (ha : EvS a ta σ H (PInt l1 h1)) (hb : EvS a tb σ H (PInt l2 h2)) : EvS a (tOp rAddI ta tb) σ H (PInt (l1 + l2) (h1 + h2)) :=
  es_op ha hb mono_int fun x y H1 u ⟨i, ei, a1, a2⟩ ⟨j, ej, b1, b2⟩ Q q => ⟨i, j, ei, ej, q _ H1 (.refl u.src) ⟨_, rfl, by omega, by omega⟩⟩
theorem es_sub {l1 h1 l2 h2 : Int} (ha : EvS a ta σ H (PInt l1 h1)) (hb : EvS a tb σ H (PInt l2 h2)) : EvS a (tOp rSubI ta tb) σ H (PInt (l1 - h2) (h1 - l2)) :=
  es_op ha hb mono_int fun x y H1 u ⟨i, ei, a1, a2⟩ ⟨j, ej, b1, b2⟩ Q q => ⟨i, j, ei, ej, q _ H1 (.refl u.src) ⟨_, rfl, by omega, by omega⟩⟩
theorem es_wide {l1 h1 l2 h2 : Int} (h : EvS a te σ H (PInt l1 h1)) (e1 : l2 ≤ l1) (e2 : h1 ≤ h2) : EvS a te σ H (PInt l2 h2) := es_imp h fun _ _ ⟨i, e, b1, b2⟩ => ⟨i, e, by omega, by omega⟩
theorem es_min {l1 h1 l2 h2 : Int} (ha : EvS a ta σ H (PInt l1 h1)) (hb : EvS a tb σ H (PInt l2 h2)) : EvS a (tCB rMin2 (tCons ta (tCons tb tNil))) σ H (PInt (min l1 l2) (min h1 h2)) :=
  fun H1 u Q q => ha H1 u _ fun x H2 u2 ⟨i, ei, a1, a2⟩ => hb H2 (u.trans u2) _ fun y H3 u3 ⟨j, ej, b1, b2⟩ => ⟨i, j, by rw [ei, ej], q _ H3 (u2.trans u3) ⟨_, rfl, by split <;> omega, by split <;> omega⟩⟩
theorem ea_nilS : EvSA a tNil σ H 0 P := fun H1 u Q q => q [] H1 (.refl u.src) rfl fun _ h => absurd h List.not_mem_nil
theorem ea_consS {ta : TA} {n : Nat} (h : EvS a te σ H P) (hr : EvSA a ta σ H n P) (m : Mono a P) : EvSA a (tCons te ta) σ H (n + 1) P :=
  fun H1 u Q q => h H1 u _ fun v H2 u2 p => hr H2 (u.trans u2) _ fun vs H3 u3 hl hp => q (v :: vs) H3 (u2.trans u3) (by rw [List.length_cons, hl]) fun x hx => by
    rcases List.mem_cons.mp hx with e | e
    · rw [e]; exact m v H2 H3 u2.src u3 p
    · exact hp x e
/-- a new list -/
theorem es_lst {ta : TA} {n : Nat} (h : EvSA a ta σ H n P) (hn : n ≤ 1000) (m : Mono a P) : EvS a (tLst ta) σ H (PLst a n P) :=
  fun H1 u Q q => h H1 u _ fun vs H2 u2 hl hp => ⟨sz_of (by omega), fun p np => q _ _ (u2.trans (.ex (Ex.new np) u2.src))
    ⟨p, vs, rfl, u2.src.new np, upd_same, hl, fun x hx => m x _ _ u2.src (.ex (Ex.new np) u2.src) (hp x hx)⟩⟩
/-- a new tuple -/
def PTup (K : PySem.W.Frag) (n : Nat) (P : VP) : VP := fun v H => ∃ b xs, v = .ref b ∧ SqT K H b xs ∧ xs.length = n ∧ ∀ x ∈ xs, P x H
theorem mono_tup {n : Nat} {P : VP} (m : Mono a P) : Mono a (PTup K n P) := fun _ _ _ s u ⟨b, xs, e, hb, hl, hp⟩ => ⟨b, xs, e, u.sqT s hb, hl, fun x hx => m x _ _ s u (hp x hx)⟩
theorem es_tup {ta : TA} {n : Nat} (h : EvSA a ta σ H n P) (hn : n ≤ 1000) (m : Mono a P) : EvS a (tTup ta) σ H (PTup K n P) :=
  fun H1 u Q q => h H1 u _ fun vs H2 u2 hl hp => ⟨sz_of (by omega), fun p np => q _ _ (u2.trans (.ex (Ex.new np) u2.src))
    ⟨p, vs, rfl, st_of upd_same, hl, fun x hx => m x _ _ u2.src (.ex (Ex.new np) u2.src) (hp x hx)⟩⟩
theorem ss_asg {i : Nat} (s : Src H a) (h : EvS a te σ H P) (k : ∀ v H1, Up a H H1 → P v H1 → tz D (σ.set i (some v)) H1) : tSeq (tAsg te (gName i)) tz D σ H := h H (.refl s) _ fun v H2 u p => k v H2 u p
theorem ss_last {i : Nat} (s : Src H a) (h : EvS a te σ H P) (k : ∀ v H1, Up a H H1 → P v H1 → D.nx (σ.set i (some v)) H1) : tAsg te (gName i) D σ H := h H (.refl s) _ fun v H2 u p => k v H2 u p
theorem ss_ret (s : Src H a) (h : EvS a te σ H P) (k : ∀ v H1, Up a H H1 → P v H1 → D.rt v H1) : tRet te D σ H := h H (.refl s) _ fun v H2 u p => k v H2 u p
/-! ### the promises of the three defs that draw -/
def spTake : Sp := fun vs H Q _ => ∃ (a : Addr) (top : Int), vs = [.ref a, .int top] ∧ Src H a ∧ 0 < top ∧ top < 1073741824 ∧ ∀ r H', 0 ≤ r → r < top → Up a H H' → Q (.int r) H'
def spOne (K : PySem.W.Frag) : Sp := fun vs H Q _ => ∃ (a b : Addr) (xs : List V), vs = [.ref a, .ref b] ∧ b ≠ a ∧ Src H a ∧ SqL K H b xs ∧ xs ≠ [] ∧ xs.length ≤ 1000 ∧ ∀ x ∈ xs, ∀ H', Up a H H' → Q x H'
def spPool (K : PySem.W.Frag) : Sp := fun vs H Q _ => ∃ (b : Addr) (ns : List Int) (k : Int), vs = [.ref b, .int k] ∧ SqL K H b (ns.map V.int) ∧ ns.length ≤ 63 ∧ 0 ≤ k ∧ k ≤ 1000 ∧ ∀ l H', H l = none → Ex H H' → Src H' l → Q (.ref l) H'
theorem es_take {lo hi : Int} {E : XK} {s0 : Nat} (e0 : σ[s0]? = some (some (.ref a))) (h : EvS a te σ H (PInt lo hi)) (h0 : 0 < lo) (h1 : hi < 1073741824) : EvS a (tCall spTake [] E (tCons (tVar s0) (tCons te tNil))) σ H (PInt 0 (hi - 1)) :=
  fun H1 u Q q => ⟨_, e0, h H1 u _ fun v H2 u2 ⟨i, ei, a1, a2⟩ => ⟨a, i, by rw [ei]; rfl, u2.src, by omega, by omega, fun r H3 r0 r1 u3 => q _ _ (u2.trans u3) ⟨r, rfl, r0, by omega⟩⟩⟩
theorem es_one {E : XK} {s0 n : Nat} (e0 : σ[s0]? = some (some (.ref a))) (h : EvS a te σ H (PLst a n P)) (h0 : 0 < n) (h1 : n ≤ 1000) (m : Mono a P) : EvS a (tCall (spOne K) [] E (tCons (tVar s0) (tCons te tNil))) σ H P :=
  fun H1 u Q q => ⟨_, e0, h H1 u _ fun v H2 u2 ⟨b, xs, ev, nb, hb, hl, hp⟩ => ⟨a, b, xs, by rw [ev]; rfl, nb, u2.src, sq_of hb, fun z => by rw [z] at hl; simp at hl; omega, by omega, fun x hx H3 u3 => q _ _ (u2.trans u3) (m x H2 H3 u2.src u3 (hp x hx))⟩⟩
end
end Own


namespace Own
open PySem PySem.Spec PyProof.Rows L2
open Evl
/-- stable where all but lists is kept -/
def MonoK (P : VP) : Prop := ∀ v H H', Kp H H' → P v H → P v H'
theorem MonoK.up {P : VP} {a : Addr} (m : MonoK P) : Mono a P := fun v _ _ s u p => m v _ _ (u.kp s) p
theorem monoK_int {lo hi : Int} : MonoK (PInt lo hi) := fun _ _ _ _ h => h
theorem monoK_dat {K : PySem.W.Frag} {k : Nat} : MonoK (PDat K k) := fun _ _ _ e ⟨d, g⟩ => ⟨d, g.kp e⟩
theorem monoK_tup {K : PySem.W.Frag} {n : Nat} {P : VP} (m : MonoK P) : MonoK (PTup K n P) := fun _ _ _ e ⟨b, xs, ev, hb, hl, hp⟩ => ⟨b, xs, ev, e.sqT hb, hl, fun x hx => m x _ _ e (hp x hx)⟩
/-- a list of at most n things of which P is so -/
def PLs (a : Addr) (n : Nat) (P : VP) : VP := fun v H => ∃ b xs, v = .ref b ∧ b ≠ a ∧ H b = some (.lst xs) ∧ xs.length ≤ n ∧ ∀ x ∈ xs, P x H
/-- a tuple of at most n things -/
def PTs (K : PySem.W.Frag) (n : Nat) (P : VP) : VP := fun v H => ∃ b xs, v = .ref b ∧ SqT K H b xs ∧ xs.length ≤ n ∧ ∀ x ∈ xs, P x H
theorem monoK_tups {K : PySem.W.Frag} {n : Nat} {P : VP} (m : MonoK P) : MonoK (PTs K n P) := fun _ _ _ e ⟨b, xs, ev, hb, hl, hp⟩ => ⟨b, xs, ev, e.sqT hb, hl, fun x hx => m x _ _ e (hp x hx)⟩
/-- a tuple of data is data -/
theorem tups_dat {K : PySem.W.Frag} {H : Hp} {n k : Nat} {v : V} (hn : n ≤ 20) (h : PTs K n (PDat K k) v H) : PDat K (k + 1) v H := by
  obtain ⟨b, xs, rfl, hb, hl, hp⟩ := h
  obtain ⟨ds, g⟩ := gdAll_of hp
  exact ⟨_, gd_tup hb g (by omega)⟩
theorem tup_dat {K : PySem.W.Frag} {H : Hp} {n k : Nat} {v : V} (hn : n ≤ 20) (h : PTup K n (PDat K k) v H) : PDat K (k + 1) v H :=
  tups_dat hn (let ⟨b, xs, e, hb, hl, hp⟩ := h; ⟨b, xs, e, hb, Nat.le_of_eq hl, hp⟩)
theorem int_dat {K : PySem.W.Frag} {H : Hp} {lo hi : Int} {v : V} (h1 : -1000000000 ≤ lo) (h2 : hi ≤ 1000000000) (h : PInt lo hi v H) : PDat K 0 v H := by
  obtain ⟨i, rfl, a, b⟩ := h
  exact ⟨_, gd_int (by omega)⟩
theorem dat_up {K : PySem.W.Frag} {H : Hp} {k j : Nat} {v : V} (l : k ≤ j) (h : PDat K k v H) : PDat K j v H := let ⟨d, g⟩ := h; ⟨d, g.up l⟩
section
variable {K : PySem.W.Frag} {a : Addr} {σ : L2.St} {H H' : Hp} {te ta tb : TE} {P R S : VP} {D : Ends} {tz tu t : TS}
theorem q_split (M : L2.St → Hp → Prop) (k : ∀ σ' H', M σ' H' → tz D σ' H') (h : (∀ σ' H', M σ' H' → tz D σ' H') → t { D with nx := tz D } σ H) : tSeq t tz D σ H := h k
theorem ev_divI {i j : Int} (ha : Ev ta σ H (.int i)) (hb : Ev tb σ H (.int j)) (c : CDiv i j) : Ev (tOp rDivI ta tb) σ H (.int (i / j)) := ev_op ha hb (rv_I (C := CDiv) c)
theorem ev_powI {i j : Int} (ha : Ev ta σ H (.int i)) (hb : Ev tb σ H (.int j)) (c : CPow i j) : Ev (tOp rPowI ta tb) σ H (.int (i ^ j.toNat)) := ev_op ha hb (rv_I (C := CPow) c)
theorem ev_negI {i : Int} (ha : Ev ta σ H (.int i)) : Ev (tUn rNegI ta) σ H (.int (-i)) := ev_un ha ru_neg
theorem ev_geV {i j : Int} (ha : Ev ta σ H (.int i)) (hb : Ev tb σ H (.int j)) : Ev (tOp rGeI ta tb) σ H (.bl (decide (j ≤ i))) := ev_op ha hb rv_I0
theorem ev_ltV {i j : Int} (ha : Ev ta σ H (.int i)) (hb : Ev tb σ H (.int j)) : Ev (tOp rLtI ta tb) σ H (.bl (decide (i < j))) := ev_op ha hb rv_I0
/-- a list of ints against the empty one -/
theorem dp_ints {H : Hp} : ∀ ns : List Int, DpAll K H (ns.map V.int) (ns.map PyData.int)
  | [] => .nil
  | n :: ns => .cons (.int n) (dp_ints ns)
theorem lay_ints : ∀ ns : List Int, PyData.canLayAll0 (ns.map PyData.int) = true ∧ PyData.depthAll (ns.map PyData.int) ≤ 1
  | [] => ⟨rfl, by simp [PyData.depthAll]⟩
  | n :: ns => ⟨by simp [PyData.canLayAll0, PyData.canLay0, (lay_ints ns).1], by have := (lay_ints ns).2; simp only [List.map_cons, PyData.depthAll, PyData.depth]; omega⟩
theorem shaped_ints (ns : List Int) : SeqAt.shaped (.list (ns.map PyData.int)) = true := by
  unfold SeqAt.shaped
  rw [show PyData.canLay0 (.list (ns.map PyData.int)) = true by simpa only [PyData.canLay0] using (lay_ints ns).1, decide_eq_true (show (PyData.list (ns.map PyData.int)).depth ≤ 64 by have := (lay_ints ns).2; simp only [PyData.depth]; omega)]
  rfl
theorem et_neInts {p : Addr} {ns : List Int} (h : Ev ta σ H (.ref p)) (hs : SqL K H p (ns.map V.int)) : EvT (tTest (tOp (rNeD K) ta (tLst tNil))) σ H (!ns.isEmpty) :=
  et_test (ev_opL h (el_lst ea_nil (Nat.zero_le _)) fun q H1 hq e H2 e2 Q w => ⟨.list (ns.map .int), .list [], .lst (ex_l (e.trans e2) hs) (dp_ints ns), .lst (sq_of (e2 q _ hq)) .nil, shaped_ints ns, rfl, by
    have z : PyData.eqv (.list (ns.map .int)) (.list []) = ns.isEmpty := by cases ns <;> simp [PyData.eqv, PyData.eqvAll]
    rw [z]
    exact w H2 (.refl _)⟩)
/-- for j in range(..), the count drawn -/
theorem ss_forR {j : Nat} {lo hi : Int} (s : Src H a) (h : EvS a te σ H (PInt lo hi)) (hlo : -1000 ≤ lo) (hhi : hi ≤ 100000) (Pv : Int → Nat → L2.St → Hp → Prop) (h0 : ∀ c H1, lo ≤ c → c ≤ hi → Up a H H1 → Pv c 0 σ H1)
    (hs : ∀ c (i : Nat) σ' H', (i : Int) < c → Pv c i σ' H' → tu { D with nx := Pv c (i + 1), ct := Pv c (i + 1), bk := tz D } (σ'.set j (some (.int (i : Int)))) H') (hd : ∀ c σ' H', Pv c c.toNat σ' H' → tz D σ' H') :
    tSeq (tFor (iRng1 (tCons te tNil)) (gName j) tu) tz D σ H :=
  h H (.refl s) _ fun v H2 u ⟨c, ev, c1, c2⟩ => ⟨c, by rw [ev], by omega, by omega, for_range (lo := 0) (n := c.toNat) (Pv c) (h0 c H2 c1 c2 u)
    (fun i σ' H' hi p => by
      show tu _ (σ'.set j (some (.int ((0 : Int) + (i : Int))))) H'
      rw [Int.zero_add]
      exact hs c i σ' H' (by omega) p) (hd c)⟩
/-- [e for j in range(..)], e drawing -/
theorem es_lc {elt : TE} {j : Nat} {vs : List Nat} {lo hi : Int} {m : Nat} (h : EvS a te σ H (PInt lo hi)) (hlo : -1000 ≤ lo) (hhi : hi ≤ (m : Int)) (hm : m ≤ 1000) (hw : ∀ x, wipe ((wipe σ vs).set j (some x)) vs = wipe σ vs)
    (he : ∀ (i : Nat) H1, Up a H H1 → (i : Int) < hi → EvS a elt ((wipe σ vs).set j (some (.int (i : Int)))) H1 P) (mk : MonoK P) : EvS a (tLc (iRng1 (tCons te tNil)) (gName j) tYes elt vs) σ H (PLs a m P) :=
  fun H1 u Q q => h H1 u _ fun v H2 u2 ⟨c, ev, c1, c2⟩ => ⟨c, by rw [ev], by omega, by omega, fun Dl hD =>
    lc_range (lo := 0) (n := c.toNat) (fun i H' => Up a H2 H' ∧ ∃ acc, H' Dl = some (.lst acc) ∧ acc.length = i ∧ ∀ x ∈ acc, P x H') ⟨.ex (Ex.new hD) u2.src, [], upd_same, rfl, fun _ z => absurd z List.not_mem_nil⟩
      (fun i H' hi ⟨u3, acc, hacc, hl, hp⟩ => by
        show wipe ((wipe σ vs).set j (some (.int ((0 : Int) + (i : Int))))) vs = wipe σ vs ∧ elt ((wipe σ vs).set j (some (.int ((0 : Int) + (i : Int))))) H' fun y H4 => ∃ acc, H4 Dl = some (.lst acc) ∧ acc.length < sizeLine ∧ (Up a H2 (upd H4 Dl (.lst (acc ++ [y]))) ∧ ∃ ac2, (upd H4 Dl (.lst (acc ++ [y]))) Dl = some (.lst ac2) ∧ ac2.length = i + 1 ∧ ∀ x ∈ ac2, P x (upd H4 Dl (.lst (acc ++ [y]))))
        rw [Int.zero_add]
        have nD : Dl ≠ a := u2.src.new hD
        refine ⟨hw _, he i H' ((u.trans u2).trans u3) (by omega) H' (.refl u3.src) _ fun y H4 u4 py => ?_⟩
        have h4 := u4.keep Dl _ nD hacc
        have kp : Kp H' (upd H4 Dl (.lst (acc ++ [y]))) := (u4.kp u3.src).trans (.lst h4)
        refine ⟨acc, h4, sz_lt (by omega), ⟨fun b o nb hb => ?_, ?_⟩, _, upd_same, by rw [List.length_append, hl]; rfl, fun x hx => ?_⟩
        · rw [upd_ne (ne_of_none hb hD)]
          exact u4.keep b o nb (u3.keep b o nb hb)
        · obtain ⟨big, mixed, e, r⟩ := u4.src
          exact ⟨big, mixed, by rw [upd_ne nD.symm]; exact e, r⟩
        · rcases List.mem_append.mp hx with z | z
          · exact mk x _ _ kp (hp x z)
          · rw [List.mem_singleton.mp z]
            exact mk y _ _ (.lst h4) py)
      (fun H' ⟨u3, acc, hacc, hl, hp⟩ => q _ _ (u2.trans u3) ⟨Dl, acc, rfl, u2.src.new hD, hacc, by omega, hp⟩)⟩
/-- tuple(a list) -/
theorem es_tupOf {n : Nat} (h : EvS a te σ H (PLs a n P)) (mk : MonoK P) : EvS a (tCB (rTupOf K) (tCons te tNil)) σ H (PTs K n P) :=
  fun H1 u Q q => h H1 u _ fun v H2 u2 ⟨b, xs, ev, nb, hb, hl, hp⟩ => ⟨b, xs, by rw [ev], .inl ⟨sq_of hb, fun l hl2 => q _ _ (u2.trans (.ex (Ex.new hl2) u2.src)) ⟨l, xs, rfl, st_of upd_same, hl, fun x hx => mk x _ _ (.new hl2) (hp x hx)⟩⟩⟩
/-- xs.append(e) -/
theorem ss_app {i : Nat} {l : Addr} {xs : List V} (s : Src H a) (nl : l ≠ a) (hl : H l = some (.lst xs)) (hv : σ[i]? = some (some (.ref l))) (h : EvS a te σ H P) (hz : xs.length < 100000)
    (k : ∀ y H1, Up a H H1 → P y H1 → D.nx σ (upd H1 l (.lst (xs ++ [y])))) : tDrop (tBM K "list" rAppend (tVar i) (tCons te tNil)) D σ H :=
  ⟨_, hv, .inl ⟨rfl, _, sq_of hl⟩, h H (.refl s) _ fun y H2 u p => ⟨l, xs, y, rfl, rfl, u.keep l _ nl hl, sz_lt hz, k y H2 u p⟩⟩
end
end Own


namespace Own
open PySem PySem.Spec PyProof.Rows L2
open Evl
section
variable {K : PySem.W.Frag} {a : Addr} {σ : L2.St} {H H' : Hp} {te ta tb : TE} {P R S : VP} {D : Ends} {tz tu t : TS}
theorem monoS_tups {n : Nat} (m : MonoK P) : Mono a (PTs K n P) := (monoK_tups m).up
/-- t + u -/
theorem es_cat {n k : Nat} (ha : EvS a ta σ H (PTs K n P)) (hb : EvS a tb σ H (PTs K k P)) (mk : MonoK P) (hz : n + k ≤ 1000) : EvS a (tOp (rCatA K) ta tb) σ H (PTs K (n + k) P) :=
  es_op ha hb (monoS_tups mk) fun x y H1 u ⟨b, xs, ex, hx, lx, px⟩ ⟨c, ys, ey, hy, ly, py⟩ Q q => ⟨b, c, xs, ys, ex, ey, hx, hy, sz_of (by omega),
    fun _ => q _ H1 (.refl u.src) ⟨c, ys, rfl, hy, by omega, py⟩, fun _ _ => q _ H1 (.refl u.src) ⟨b, xs, rfl, hx, by omega, px⟩,
    fun _ _ p np => q _ _ (.ex (Ex.new np) u.src) ⟨p, xs ++ ys, rfl, st_of upd_same, by rw [List.length_append]; omega, fun z hz => by
      rcases List.mem_append.mp hz with w | w
      · exact mk z _ _ (.new np) (px z w)
      · exact mk z _ _ (.new np) (py z w)⟩⟩
theorem cut_mem {xs : List V} {lo hi : Option Int} {x : V} (h : x ∈ cutV xs lo hi) : x ∈ xs := List.mem_of_mem_drop (List.mem_of_mem_take h)
/-- a part of a slice: none, or an int -/
def EvP (a : Addr) (to : TO) (σ : L2.St) (H : Hp) : Prop := ∀ H1, Up a H H1 → ∀ Q : Option Int → Hp → Prop, (∀ o H2, Up a H1 H2 → Q o H2) → to σ H1 Q
theorem ep_none : EvP a tNoPart σ H := fun H1 u Q q => q none H1 (.refl u.src)
theorem ep_some {lo hi : Int} (h : EvS a te σ H (PInt lo hi)) : EvP a (tPart te) σ H := fun H1 u Q q => h H1 u _ fun v H2 u2 ⟨i, e, _⟩ => ⟨i, e, q _ H2 u2⟩
/-- t[lo:hi] -/
theorem es_slice {n : Nat} {tl th : TO} (h : EvS a te σ H (PTs K n P)) (hl : EvP a tl σ H) (hh : EvP a th σ H) (mk : MonoK P) : EvS a (tSl (rSlA K) te tl th) σ H (PTs K n P) :=
  fun H1 u Q q => h H1 u _ fun x H2 u2 px => hl H2 (u.trans u2) _ fun lo H3 u3 => hh H3 ((u.trans u2).trans u3) _ fun hi H4 u4 => by
    obtain ⟨b, xs, ex, hx, lx, ps⟩ := monoS_tups mk x H2 H4 u2.src (u3.trans u4) px
    exact ⟨b, xs, ex, hx, fun _ => q _ H4 ((u2.trans u3).trans u4) ⟨b, xs, rfl, hx, lx, ps⟩, fun _ p np => q _ _ (((u2.trans u3).trans u4).trans (.ex (Ex.new np) u4.src))
      ⟨p, _, rfl, st_of upd_same, by have := cutV_length xs lo hi; omega, fun z hz => mk z _ _ (.new np) (ps z (cut_mem hz))⟩⟩
/-- (x,) * k -/
theorem es_rep {hi : Nat} {lo : Int} (ha : EvS a ta σ H (PTup K 1 P)) (hb : EvS a tb σ H (PInt lo (hi : Int))) (h1 : 1 ≤ lo) (h2 : hi ≤ 100) (mk : MonoK P) : EvS a (tOp (rTimes K) ta tb) σ H (PTs K hi P) :=
  es_op ha hb (monoK_tup mk).up fun x y H1 u ⟨b, xs, ex, hx, lx, px⟩ ⟨j, ej, j1, j2⟩ Q q => by
    by_cases c : j = 1
    · exact .inr ⟨b, xs, ex, by rw [ej, c], hx, q _ H1 (.refl u.src) ⟨b, xs, rfl, hx, by omega, px⟩⟩
    · refine .inl ⟨b, j, xs, ex, ej, hx, (fun z => by rw [z] at lx; simp at lx), by omega, by omega, by omega, fun p np => q _ _ (.ex (Ex.new np) u.src) ⟨p, _, rfl, st_of upd_same, ?_, fun z hz => ?_⟩⟩
      · rw [PyProof.Rows.lm_len_rep_flat, lx]
        omega
      · obtain ⟨l, hl, hz⟩ := List.mem_flatten.mp hz
        rw [List.eq_of_mem_replicate hl] at hz
        exact mk z _ _ (.new np) (px z hz)
theorem tup_tups {n m : Nat} (h : n ≤ m) {v : V} {H1 : Hp} (p : PTup K n P v H1) : PTs K m P v H1 := let ⟨b, xs, e, hb, hl, hp⟩ := p; ⟨b, xs, e, hb, by omega, hp⟩
theorem tups_imp {n m : Nat} (h : n ≤ m) (i : ∀ v H1, P v H1 → R v H1) {v : V} {H1 : Hp} (p : PTs K n P v H1) : PTs K m R v H1 := let ⟨b, xs, e, hb, hl, hp⟩ := p; ⟨b, xs, e, hb, by omega, fun x hx => i x H1 (hp x hx)⟩
/-- (x, ..) of at most m -/
theorem es_tups {ta : TA} {n m : Nat} (h : EvSA a ta σ H n P) (hn : n ≤ m) (hm : m ≤ 1000) (mk : MonoK P) : EvS a (tTup ta) σ H (PTs K m P) := es_imp (es_tup h (by omega) mk.up) fun _ _ p => tup_tups hn p
/-- xs + ys -/
theorem es_catL {n k : Nat} (ha : EvS a ta σ H (PLst a n P)) (hb : EvS a tb σ H (PLst a k P)) (mk : MonoK P) (hz : n + k ≤ 1000) : EvS a (tOp rCat ta tb) σ H (PLst a (n + k) P) :=
  es_op ha hb (mono_lst mk.up) fun x y H1 u ⟨b, xs, ex, nb, hx, lx, px⟩ ⟨c, ys, ey, nc, hy, ly, py⟩ Q q => ⟨b, c, xs, ys, ex, ey, hx, hy, sz_of (by omega), fun p np => q _ _ (.ex (Ex.new np) u.src)
    ⟨p, xs ++ ys, rfl, u.src.new np, upd_same, by rw [List.length_append]; omega, fun z hz => by
      rcases List.mem_append.mp hz with w | w
      · exact mk z _ _ (.new np) (px z w)
      · exact mk z _ _ (.new np) (py z w)⟩⟩
/-- list(t) == [] -/
theorem es_listNil {n k : Nat} (h : EvS a te σ H (PTs K n (PDat K k))) (hk : k ≤ 60) : EvS a (tOp (rEqD K) (tCB (rListOf K) (tCons te tNil)) (tLst tNil)) σ H (PDat K 0) :=
  fun H1 u Q q => h H1 u _ fun v H2 u2 ⟨b, xs, ev, hb, hl, hp⟩ => ⟨b, xs, by rw [ev], .inr hb, fun l nl => ⟨Nat.zero_le _, fun p np => by
    obtain ⟨ds, g⟩ := gdAll_of hp
    have e2 : Ex H2 (upd (upd H2 l (.lst xs)) p (.lst [])) := (Ex.new nl).trans (Ex.new np)
    refine eqD_nil hk (sq_of (by rw [upd_ne (ne_of_none upd_same np)]; exact upd_same)) (g.kp (.ex e2)) (sq_of upd_same) ?_
    exact q _ _ (u2.trans (.ex e2 u2.src)) ⟨_, gd_bl⟩⟩⟩
theorem es_dint {i : Int} {k : Nat} (h : i.natAbs < 2 ^ 64) : EvS a (tC (.int i)) σ H (PDat K k) := es_c fun _ => ⟨_, (gd_int h).up (Nat.zero_le k)⟩
theorem es_dnon {k : Nat} : EvS a (tC .non) σ H (PDat K k) := es_c fun _ => ⟨_, gd_non.up (Nat.zero_le k)⟩
theorem es_dbl {b : Bool} {k : Nat} : EvS a (tC (.bl b)) σ H (PDat K k) := es_c fun _ => ⟨_, gd_bl.up (Nat.zero_le k)⟩
theorem es_dstr {x : Str} {k : Nat} (h : fine 0 (.str x) = true) : EvS a (tC (.str x)) σ H (PDat K k) := es_c fun _ => ⟨_, (gd_str h).up (Nat.zero_le k)⟩
theorem es_dof {lo hi : Int} {k : Nat} (h : EvS a te σ H (PInt lo hi)) (h1 : -1000000000 ≤ lo) (h2 : hi ≤ 1000000000) : EvS a te σ H (PDat K k) := es_imp h fun _ _ p => dat_up (Nat.zero_le k) (int_dat h1 h2 p)
theorem es_dtup {n k : Nat} (h : EvS a te σ H (PTs K n (PDat K k))) (hn : n ≤ 20) : EvS a te σ H (PDat K (k + 1)) := es_imp h fun _ _ p => tups_dat hn p
theorem es_dup {k j : Nat} (h : EvS a te σ H (PDat K k)) (l : k ≤ j) : EvS a te σ H (PDat K j) := es_imp h fun _ _ p => dat_up l p
theorem s_tup3 {i j l : Nat} {x y z : V} (h : EvU te σ H [x, y, z]) (k : ∀ H1, Ex H H1 → D.nx (((σ.set i (some x)).set j (some y)).set l (some z)) H1) : tAsg te (gTup K 3 (gCons (gName i) (gCons (gName j) (gCons (gName l) gNil)))) D σ H :=
  h H (.refl H) _ fun p H1 np e hp => ⟨p, _, rfl, st_of hp, rfl, x, _, rfl, y, _, rfl, z, _, rfl, rfl, k H1 e⟩
theorem s_par3 {i j l : Nat} {x y z : V} {ta : TA} (h : EvA ta σ H [x, y, z]) (k : ∀ H1, Ex H H1 → D.nx (((σ.set i (some x)).set j (some y)).set l (some z)) H1) : tPar3 i j l ta D σ H :=
  h H (.refl H) _ fun H1 e => ⟨x, y, z, rfl, k H1 e⟩
theorem ss_tup2 {i j : Nat} (s : Src H a) (h : EvS a te σ H (PTup K 2 P)) (k : ∀ x y H1, Up a H H1 → P x H1 → P y H1 → D.nx ((σ.set i (some x)).set j (some y)) H1) : tAsg te (gTup K 2 (gCons (gName i) (gCons (gName j) gNil))) D σ H :=
  h H (.refl s) _ fun v H1 u ⟨b, xs, ev, hb, hl, hp⟩ => by
    match xs, hl with
    | [x, y], _ => exact ⟨b, _, ev, hb, rfl, x, _, rfl, y, _, rfl, rfl, k x y H1 u (hp x (by simp)) (hp y (by simp))⟩
theorem ss_par {i j : Nat} {ta : TA} (s : Src H a) (h : EvSA a ta σ H 2 P) (k : ∀ x y H1, Up a H H1 → P x H1 → P y H1 → D.nx ((σ.set i (some x)).set j (some y)) H1) : tPar i j ta D σ H :=
  h H (.refl s) _ fun vs H1 u hl hp => by
    match vs, hl with
    | [x, y], _ => exact ⟨x, y, rfl, k x y H1 u (hp x (by simp)) (hp y (by simp))⟩
end
end Own


namespace Own
open PySem PySem.Spec PyProof.Rows L2
open Evl
section
variable {K : PySem.W.Frag} {a : Addr} {σ : L2.St} {H H' : Hp} {te ta tb : TE} {P R S : VP} {D : Ends} {tz tu t : TS}
/-- the tuple of just these -/
def PSq (K : PySem.W.Frag) (xs : List V) : VP := fun v H => ∃ b, v = .ref b ∧ SqT K H b xs
theorem monoK_sq {xs : List V} : MonoK (PSq K xs) := fun _ _ _ e ⟨b, ev, hb⟩ => ⟨b, ev, e.sqT hb⟩
theorem cut_whole {xs : List V} {lo hi : Option Int} (h1 : HT.sIx xs.length 0 lo = 0) (h2 : HT.sIx xs.length xs.length hi = xs.length) : cutV xs lo hi = xs := by
  unfold cutV
  rw [h1, h2]
  simp
theorem es_cutX {xs : List V} {tl th : TO} {lo hi : Option Int} (h : EvS a te σ H (PSq K xs)) (hl : ∀ H1, Up a H H1 → ∀ Q : Option Int → Hp → Prop, (∀ H2, Up a H1 H2 → Q lo H2) → tl σ H1 Q) (hh : ∀ H1, Up a H H1 → ∀ Q : Option Int → Hp → Prop, (∀ H2, Up a H1 H2 → Q hi H2) → th σ H1 Q) :
    EvS a (tSl (rSlA K) te tl th) σ H (PSq K (cutV xs lo hi)) :=
  fun H1 u Q q => h H1 u _ fun x H2 u2 px => hl H2 (u.trans u2) _ fun H3 u3 => hh H3 ((u.trans u2).trans u3) _ fun H4 u4 => by
    obtain ⟨b, ex, hx⟩ := monoK_sq.up x H2 H4 u2.src (u3.trans u4) px
    exact ⟨b, xs, ex, hx, fun ⟨h1, h2⟩ => q _ H4 ((u2.trans u3).trans u4) ⟨b, rfl, by rw [cut_whole h1 h2]; exact hx⟩, fun _ p np => q _ _ (((u2.trans u3).trans u4).trans (.ex (Ex.new np) u4.src)) ⟨p, rfl, st_of upd_same⟩⟩
theorem cp_none : ∀ H1, Up a H H1 → ∀ Q : Option Int → Hp → Prop, (∀ H2, Up a H1 H2 → Q none H2) → tNoPart σ H1 Q := fun H1 u Q q => q H1 (.refl u.src)
theorem cp_some {i : Int} (h : EvS a te σ H (PInt i i)) : ∀ H1, Up a H H1 → ∀ Q : Option Int → Hp → Prop, (∀ H2, Up a H1 H2 → Q (some i) H2) → tPart te σ H1 Q :=
  fun H1 u Q q => h H1 u _ fun v H2 u2 ⟨j, e, h1, h2⟩ => ⟨j, e, by rw [show j = i by omega]; exact q H2 u2⟩
theorem es_catX {xs ys : List V} (ha : EvS a ta σ H (PSq K xs)) (hb : EvS a tb σ H (PSq K ys)) (hz : xs.length + ys.length ≤ 1000) : EvS a (tOp (rCatA K) ta tb) σ H (PSq K (xs ++ ys)) :=
  es_op ha hb monoK_sq.up fun x y H1 u ⟨b, ex, hx⟩ ⟨c, ey, hy⟩ Q q => ⟨b, c, xs, ys, ex, ey, hx, hy, sz_of (by omega),
    fun z => q _ H1 (.refl u.src) ⟨c, rfl, by rw [z]; exact hy⟩, fun _ z => q _ H1 (.refl u.src) ⟨b, rfl, by rw [z, List.append_nil]; exact hx⟩, fun _ _ p np => q _ _ (.ex (Ex.new np) u.src) ⟨p, rfl, st_of upd_same⟩⟩
theorem es_oneX {i : Nat} {v : V} (e : σ[i]? = some (some v)) : EvS a (tTup (tCons (tVar i) tNil)) σ H (PSq K [v]) :=
  fun H1 u Q q => ⟨v, e, ⟨by show 1 ≤ sizeLine; decide, fun p np => q _ _ (.ex (Ex.new np) u.src) ⟨p, rfl, st_of upd_same⟩⟩⟩
theorem cut_lo {xs : List V} {w : Nat} (h : w ≤ xs.length) : cutV xs none (some (w : Int)) = xs.take w := by
  unfold cutV
  rw [HT.sIx_none, HT.sIx_nat, Nat.min_eq_left h]
  simp
theorem cut_hi {xs : List V} {w : Nat} (h : w ≤ xs.length) : cutV xs (some (w : Int)) none = xs.drop w := by
  unfold cutV
  rw [HT.sIx_none, HT.sIx_nat, Nat.min_eq_left h]
  exact List.take_of_length_le (by rw [List.length_drop]; omega)
/-! ### lists of data, kept in a list -/
structure Men (K : PySem.W.Frag) (a l : Addr) (n : Nat) (H : Hp) : Prop where
  ne : l ≠ a
  all : ∃ items, H l = some (.lst items) ∧ items.length = n ∧ ∀ x ∈ items, ∃ b ys, x = .ref b ∧ b ≠ a ∧ b ≠ l ∧ H b = some (.lst ys) ∧ 0 < ys.length ∧ ys.length ≤ 20 ∧ ∀ y ∈ ys, PDat K 1 y H
theorem Men.up {l : Addr} {n : Nat} (s : Src H a) (u : Up a H H') (m : Men K a l n H) : Men K a l n H' :=
  let ⟨ne, items, h, hl, hp⟩ := m
  ⟨ne, items, u.keep l _ ne h, hl, fun x hx => let ⟨b, ys, e, n1, n2, hb, l0, l1, py⟩ := hp x hx; ⟨b, ys, e, n1, n2, u.keep b _ n1 hb, l0, l1, fun y hy => monoK_dat y _ _ (u.kp s) (py y hy)⟩⟩
theorem men_add {H0 : Hp} {l : Addr} {n m i : Nat} {ta : TA} (s : Src H0 a) (u0 : Up a H0 H) (nl : H0 l = none) (M : Men K a l n H) (hv : σ[i]? = some (some (.ref l))) (h : EvSA a ta σ H m (PDat K 1)) (h1 : 0 < m) (hm : m ≤ 20) (hn : n < 100)
    (k : ∀ H1, Up a H0 H1 → Men K a l (n + 1) H1 → tz D σ H1) : tSeq (tDrop (tBM K "list" rAppend (tVar i) (tCons (tLst ta) tNil))) tz D σ H := by
  obtain ⟨ne, items, hi, hl, hp⟩ := M
  refine ⟨_, hv, .inl ⟨rfl, _, sq_of hi⟩, h H (.refl u0.src) _ fun vs H2 u2 hvs pv => ⟨sz_of (by omega), fun p np => ?_⟩⟩
  have hi2 := u2.keep l _ ne hi
  have pl : p ≠ l := fun z => by subst z; rw [hi2] at np; cases np
  have pa : p ≠ a := u2.src.new np
  have k1 : Kp H2 (upd H2 p (.lst vs)) := .new np
  have hi3 : (upd H2 p (.lst vs)) l = some (.lst items) := by rw [upd_ne pl.symm]; exact hi2
  have k2 : Kp (upd H2 p (.lst vs)) (upd (upd H2 p (.lst vs)) l (.lst (items ++ [.ref p]))) := .lst hi3
  refine ⟨l, items, .ref p, rfl, rfl, hi3, sz_lt (by omega), k _ ⟨fun b o nb hb => ?_, ?_⟩ ⟨ne, items ++ [.ref p], upd_same, by rw [List.length_append, hl]; rfl, fun x hx => ?_⟩⟩
  · have bl : b ≠ l := ne_of_none hb nl
    have h2 := u2.keep b o nb (u0.keep b o nb hb)
    rw [upd_ne bl, upd_ne (ne_of_none h2 np)]
    exact h2
  · obtain ⟨big, mixed, e, r⟩ := u2.src
    exact ⟨big, mixed, by rw [upd_ne ne.symm, upd_ne pa.symm]; exact e, r⟩
  · rcases List.mem_append.mp hx with z | z
    · obtain ⟨b, ys, e, n1, n2, hb, l0, l1, py⟩ := hp x z
      have hb2 := u2.keep b _ n1 hb
      exact ⟨b, ys, e, n1, n2, by rw [upd_ne n2, upd_ne (ne_of_none hb2 np)]; exact hb2, l0, l1, fun y hy => monoK_dat y _ _ (((u2.kp u0.src).trans k1).trans k2) (py y hy)⟩
    · rw [List.mem_singleton.mp z]
      exact ⟨p, vs, rfl, pa, pl, by rw [upd_ne pl]; exact upd_same, by omega, by omega, fun y hy => monoK_dat y _ _ (k1.trans k2) (pv y hy)⟩
/-- [[..]] -/
theorem ss_first {i n : Nat} {ta : TA} (s : Src H a) (h : EvSA a ta σ H n P) (hn : n ≤ 1000) (k : ∀ vs H1, Up a H H1 → vs.length = n → (∀ v ∈ vs, P v H1) → ∀ p, H1 p = none → ∀ l, (upd H1 p (.lst vs)) l = none → tz D (σ.set i (some (.ref l))) (upd (upd H1 p (.lst vs)) l (.lst [.ref p]))) :
    tSeq (tAsg (tLst (tCons (tLst ta) tNil)) (gName i)) tz D σ H :=
  h H (.refl s) _ fun vs H1 u1 hl pv => ⟨sz_of (by omega), fun p np => ⟨by show 1 ≤ sizeLine; decide, fun l nl => k vs H1 u1 hl pv p np l nl⟩⟩
/-- one of the j-th list -/
theorem es_men {l : Addr} {n s0 s1 s2 : Nat} {w : Int} {E : XK} (e0 : σ[s0]? = some (some (.ref a))) (e1 : σ[s1]? = some (some (.ref l))) (e2 : σ[s2]? = some (some (.int w))) (M : ∀ H1, Up a H H1 → Men K a l n H1) (h0 : 0 ≤ w) (h1 : w < (n : Int)) :
    EvS a (tCall (spOne K) [] E (tCons (tVar s0) (tCons (tOp (rIxL K) (tVar s1) (tVar s2)) tNil))) σ H (PDat K 1) := fun H1 u Q q => by
  obtain ⟨ne, items, hi, hl, hp⟩ := M H1 u
  have hw : w.toNat < items.length := by omega
  obtain ⟨b, ys, e, n1, n2, hb, l0, l1, py⟩ := hp items[w.toNat] (List.getElem_mem hw)
  refine ⟨_, e0, _, e1, _, e2, l, items, w, .ref b, rfl, rfl, sq_of hi, ?_, a, b, ys, rfl, n1, u.src, sq_of hb, (fun z => by rw [z] at l0; cases l0), by omega, fun x hx H3 u3 => q _ _ u3 (monoK_dat x _ _ (u3.kp u.src) (py x hx))⟩
  exact at_of (j := w.toNat) (by omega) (by rw [List.getElem?_eq_getElem hw, e])
end
end Own


namespace Own
open PySem PySem.Spec PyProof.Rows L2
open Evl
/-! ### the same without a source -/
def EvX (te : TE) (σ : L2.St) (H : Hp) (P : VP) : Prop := ∀ H1, Ex H H1 → ∀ Q : VK, (∀ v H2, Ex H1 H2 → P v H2 → Q v H2) → te σ H1 Q
def EvXA (ta : TA) (σ : L2.St) (H : Hp) (n : Nat) (P : VP) : Prop := ∀ H1, Ex H H1 → ∀ Q : List V → Hp → Prop, (∀ vs H2, Ex H1 H2 → vs.length = n → (∀ v ∈ vs, P v H2) → Q vs H2) → ta σ H1 Q
def PLx (n : Nat) (P : VP) : VP := fun v H => ∃ b xs, v = .ref b ∧ H b = some (.lst xs) ∧ xs.length = n ∧ ∀ x ∈ xs, P x H
section
variable {K : PySem.W.Frag} {σ : L2.St} {H H' : Hp} {te ta tb : TE} {P R S : VP} {D : Ends} {tz tu t : TS}
theorem ex_c {v : V} (h : ∀ H1, P v H1) : EvX (tC v) σ H P := fun H1 u Q q => q v H1 (.refl H1) (h H1)
theorem ex_dint {i : Int} {k : Nat} (h : i.natAbs < 2 ^ 64) : EvX (tC (.int i)) σ H (PDat K k) := ex_c fun _ => ⟨_, (gd_int h).up (Nat.zero_le k)⟩
theorem ex_dnon {k : Nat} : EvX (tC .non) σ H (PDat K k) := ex_c fun _ => ⟨_, gd_non.up (Nat.zero_le k)⟩
theorem ex_imp (h : EvX te σ H P) (i : ∀ v H1, P v H1 → R v H1) : EvX te σ H R := fun H1 u Q q => h H1 u Q fun v H2 u2 p => q v H2 u2 (i v H2 p)
theorem xa_nil : EvXA tNil σ H 0 P := fun H1 u Q q => q [] H1 (.refl H1) rfl fun _ h => absurd h List.not_mem_nil
theorem xa_cons {ta : TA} {n : Nat} (h : EvX te σ H P) (hr : EvXA ta σ H n P) (m : MonoK P) : EvXA (tCons te ta) σ H (n + 1) P :=
  fun H1 u Q q => h H1 u _ fun v H2 u2 p => hr H2 (u.trans u2) _ fun vs H3 u3 hl hp => q (v :: vs) H3 (u2.trans u3) (by rw [List.length_cons, hl]) fun x hx => by
    rcases List.mem_cons.mp hx with e | e
    · rw [e]; exact m v H2 H3 (.ex u3) p
    · exact hp x e
theorem ex_tup {ta : TA} {n : Nat} (h : EvXA ta σ H n P) (hn : n ≤ 1000) (m : MonoK P) : EvX (tTup ta) σ H (PTup K n P) :=
  fun H1 u Q q => h H1 u _ fun vs H2 u2 hl hp => ⟨sz_of (by omega), fun p np => q _ _ (u2.trans (Ex.new np)) ⟨p, vs, rfl, st_of upd_same, hl, fun x hx => m x _ _ (.new np) (hp x hx)⟩⟩
theorem ex_dtup {ta : TA} {n k : Nat} (h : EvXA ta σ H n (PDat K k)) (hn : n ≤ 20) : EvX (tTup ta) σ H (PDat K (k + 1)) := ex_imp (ex_tup h (by omega) monoK_dat) fun _ _ p => tup_dat hn p
theorem ex_up {k j : Nat} (h : EvX te σ H (PDat K k)) (l : k ≤ j) : EvX te σ H (PDat K j) := ex_imp h fun _ _ p => dat_up l p
theorem ex_lst {ta : TA} {n : Nat} (h : EvXA ta σ H n P) (hn : n ≤ 1000) (m : MonoK P) : EvX (tLst ta) σ H (PLx n P) :=
  fun H1 u Q q => h H1 u _ fun vs H2 u2 hl hp => ⟨sz_of (by omega), fun p np => q _ _ (u2.trans (Ex.new np)) ⟨p, vs, rfl, upd_same, hl, fun x hx => m x _ _ (.new np) (hp x hx)⟩⟩
/-- (e,) * c, c written -/
theorem ex_rep {c : Int} (h : EvX te σ H P) (h1 : 2 ≤ c) (h2 : c ≤ 20) (mk : MonoK P) : EvX (tOp (rTimes K) (tTup (tCons te tNil)) (tC (.int c))) σ H (PTs K 20 P) :=
  fun H1 u Q q => h H1 u _ fun v H2 u2 pv => ⟨by show 1 ≤ sizeLine; decide, fun p np => .inl ⟨p, c, [v], rfl, rfl, st_of upd_same, by simp, h1, by omega, by show 1 ≤ 1000; decide, fun r nr =>
    q _ _ (u2.trans ((Ex.new np).trans (Ex.new nr))) ⟨r, _, rfl, st_of upd_same, by rw [PyProof.Rows.lm_len_rep_flat]; show c.toNat * 1 ≤ 20; omega, fun z hz => by
      obtain ⟨l, hl, hz⟩ := List.mem_flatten.mp hz
      rw [List.eq_of_mem_replicate hl] at hz
      rw [List.mem_singleton.mp hz]
      exact mk v _ _ ((Kp.new np).trans (.new nr)) pv⟩⟩⟩
theorem ex_catL {n k : Nat} (ha : EvX ta σ H (PLx n P)) (hb : EvX tb σ H (PLx k P)) (mk : MonoK P) (hz : n + k ≤ 1000) : EvX (tOp rCat ta tb) σ H (PLx (n + k) P) :=
  fun H1 u Q q => ha H1 u _ fun x H2 u2 ⟨b, xs, ex, hx, lx, px⟩ => hb H2 (u.trans u2) _ fun y H3 u3 ⟨c, ys, ey, hy, ly, py⟩ => ⟨b, c, xs, ys, ex, ey, u3 b _ hx, hy, sz_of (by omega), fun p np => q _ _ (u2.trans (u3.trans (Ex.new np)))
    ⟨p, xs ++ ys, rfl, upd_same, by rw [List.length_append]; omega, fun z hz => by
      rcases List.mem_append.mp hz with w | w
      · exact mk z _ _ ((Kp.ex u3).trans (.new np)) (px z w)
      · exact mk z _ _ (.new np) (py z w)⟩⟩
theorem ex_vl {i n : Nat} {v : V} (e : σ[i]? = some (some v)) (h : PLx n P v H) (mk : MonoK P) : EvX (tVar i) σ H (PLx n P) := fun H1 u Q q => ⟨v, e, q v H1 (.refl H1) (let ⟨b, xs, ev, hb, hl, hp⟩ := h; ⟨b, xs, ev, u b _ hb, hl, fun x hx => mk x _ _ (.ex u) (hp x hx)⟩)⟩
theorem sx_asg {i : Nat} (h : EvX te σ H P) (k : ∀ v H1, Ex H H1 → P v H1 → tz D (σ.set i (some v)) H1) : tSeq (tAsg te (gName i)) tz D σ H := h H (.refl H) _ fun v H2 u p => k v H2 u p
/-- xs.append(e) -/
theorem sx_app {i : Nat} {l : Addr} {xs : List V} (hl : H l = some (.lst xs)) (hv : σ[i]? = some (some (.ref l))) (h : EvX te σ H P) (hz : xs.length < 100000)
    (k : ∀ y H1, Ex H H1 → P y H1 → tz D σ (upd H1 l (.lst (xs ++ [y])))) : tSeq (tDrop (tBM K "list" rAppend (tVar i) (tCons te tNil))) tz D σ H :=
  ⟨_, hv, .inl ⟨rfl, _, sq_of hl⟩, h H (.refl H) _ fun y H2 u p => ⟨l, xs, y, rfl, rfl, u l _ hl, sz_lt hz, k y H2 u p⟩⟩
end
end Own


namespace Own
open PySem PySem.Spec PyProof.Rows L2
/-! ### enumerate and zip of lists (false) and tuples (true), in any mix -/
def SqB (t : Bool) (K : PySem.W.Frag) (H : Hp) (a : Addr) (xs : List V) : Prop := bif t then SqT K H a xs else SqL K H a xs
def ItB (t : Bool) (h : Heap) (i a : Addr) (k : Nat) : Prop := bif t then h.IsTupleIter i a k else h.IsListIter i a k
def HpB (t : Bool) (h : Heap) (a : Addr) (items : Array Value) : Prop := bif t then h.IsTuple a items else h.IsList a items
theorem ItB.at {t : Bool} {h h' : Heap} {i a : Addr} {k : Nat} (x : ItB t h i a k) (hk : ∀ o, h.get? i = some o → h'.get? i = some o) : ItB t h' i a k := by
  cases t
  · exact Heap.IsListIter.at x hk
  · exact Heap.IsTupleIter.at x hk
theorem ItB.obj {t : Bool} {h : Heap} {i a : Addr} {k : Nat} (x : ItB t h i a k) : ∃ o, h.get? i = some o ∧ ∀ v, o.data ≠ .cell v := by
  cases t
  · obtain ⟨o, e, _, d⟩ : h.IsListIter i a k := x
    exact ⟨o, e, fun v q => by rw [d] at q; cases q⟩
  · obtain ⟨o, e, _, d⟩ : h.IsTupleIter i a k := x
    exact ⟨o, e, fun v q => by rw [d] at q; cases q⟩
theorem invB {X : Cx} {pins : List (Addr × Obj)} {σ : L2.St} {H : Hp} {s : Shared} {t : Bool} {a : Addr} {xs : List V} (I : Inv X pins σ H s) (h : SqB t X.K H a xs) : ∃ its : List Value, Vals xs its ∧ HpB t s.heap a its.toArray ∧ a < s.heap.objs.size := by
  cases t
  · obtain ⟨its, rv, p, _⟩ := I.list h
    exact ⟨its, rv, p.isList, p.lt⟩
  · obtain ⟨its, rv, p, _⟩ := I.tuple h
    obtain ⟨o, ho, _⟩ := id p
    exact ⟨its, rv, p, Heap.lt_size ho⟩
theorem injB {X : Cx} {pins : List (Addr × Obj)} {σ : L2.St} {H : Hp} {s : Shared} {t : Bool} {a : Addr} {xs ys : List V} (I : Inv X pins σ H s) (h : SqB t X.K H a xs) (h' : SqB t X.K H a ys) : xs = ys := by
  cases t
  · exact I.list_inj h h'
  · exact I.tuple_inj h h'
theorem drawsB {prog : Program} {w : World} {A : Around} (t : Bool) (hh : A.handled = none) (it l : Addr) (hne : l ≠ it) (items : Array Value) : Draws prog w A it [it, l] items.size (fun i v => items[i]? = some v) (fun i h => ItB t h it l i ∧ HpB t h l items) := by
  cases t
  · exact Draws.list hh it l hne items
  · exact Draws.tuple hh it l hne items
def objB (t : Bool) (a : Addr) : Obj := bif t then { cls := .type "tuple_iterator", data := .fields #[.ref a, .int 0 0] } else { cls := .type "list_iterator", data := .fields #[.ref a, .int 0 0] }
theorem beginsB (t : Bool) (a : Addr) (items : Array Value) : Begins (.ref a) (objB t a) fun h => HpB t h a items := by
  cases t
  · exact begins_list a items
  · exact begins_tuple a items
theorem itB_new {t : Bool} {h : Heap} {i a : Addr} (e : h.get? i = some (objB t a)) : ItB t h i a 0 := by
  cases t
  · exact ⟨_, e, rfl, rfl⟩
  · exact ⟨_, e, rfl, rfl⟩
/-! enumerate -/
def IteB (t : Bool) (K : PySem.W.Frag) (a : Addr) : It :=
  ⟨fun i H => ∃ (xs : List V) (x : V), SqB t K H a xs ∧ xs[i]? = some x, fun i H v H' => ∃ T x, v = .ref T ∧ H T = none ∧ H' = upd H T (.tup [.int (i : Nat), x]) ∧ ∀ xs, SqB t K H a xs → xs[i]? = some x, fun i H => ∃ xs : List V, SqB t K H a xs ∧ i = xs.length⟩
theorem turn_enumB {P : Program} {w : World} {K : PySem.W.Frag} {elts : List Expr} {kk : Nat} {tpos : Pos} (t : Bool) (a e it : Addr) :
    Turn P w K (.Tuple elts kk tpos) (IteB t K a) [e, it] e (fun i h => (∃ old, IsEnum h e it ((0 : Int) + (i : Int)) old) ∧ ItB t h it a i ∧ e ≠ it ∧ a ≠ it ∧ e ≠ a) where
  mem := by simp
  obj := fun i h st b hb => by
    obtain ⟨⟨old, he⟩, hi, _⟩ := st
    have e' : b = e ∨ b = it := by simpa using hb
    rcases e' with z | z
    · rw [z]; exact ⟨_, he, fun v q => nomatch q⟩
    · rw [z]; exact hi.obj
  keep := fun i h h' st k => let ⟨⟨old, he⟩, hi, hne⟩ := st; ⟨⟨old, k e (by simp) _ he⟩, hi.at fun o q => k it (by simp) o q, hne⟩
  item := by
    intro X hP hw hK hc i pins s σ H E I hf st hg
    subst hP hw hK
    obtain ⟨hen, hit, n1, n2, n3⟩ := st
    obtain ⟨xs, x, hq, hx⟩ := hg
    obtain ⟨its, rv, p, hz⟩ := invB I hq
    obtain ⟨u, hu, ru⟩ := rv.get hx
    have hel : e < s.heap.objs.size := by obtain ⟨_, he⟩ := hen; exact Heap.lt_size he
    have hil : it < s.heap.objs.size := by obtain ⟨o, q, _⟩ := hit.obj; exact Heap.lt_size q
    have G := GoesN.enumFrom (prog := X.prog) (w := X.w) (A := X.A) (elts := elts) (x1 := kk) (pos := tpos) 0 (drawsB (prog := X.prog) (w := X.w) (A := X.A.in1) t (I.ok.hd hc) it a n2 its.toArray) e n1 (by simp [n1, n3]) (by simp)
    have hlen : i < its.toArray.size := by
      have := (List.getElem?_eq_some_iff.mp hu).1
      simpa using this
    refine G.goes i s (fun v s2 => ∃ x H', Inv X pins σ H' s2 ∧ RelV x v ∧ (IteB t X.K a).yld i H x H' ∧ _ ∧ ∀ b ∈ [e, it], H' b = none) E hlen ⟨hen, hit, p⟩ fun v h' tk hY st' hk htk => ?_
    obtain ⟨T, tt, y, ev, hT, hy, hTup⟩ := hY
    subst ev
    have hy' : y = u := by
      have q : its.toArray[i]? = some u := by simpa using hu
      rw [q] at hy; injection hy with hy; exact hy.symm
    subst hy'
    have new : ObjOk X.prog X.w (upd H T (.tup [.int (i : Nat), x])) h' T (.tup [.int (i : Nat), x]) :=
      ⟨by show 2 ≤ sizeLine; decide, [.int (0 + (i : Int)) tt, y], .cons ⟨tt, by rw [Int.zero_add]⟩ (.cons ru .nil), hTup⟩
    have I1 : Inv X pins σ (upd H T (.tup [.int (i : Nat), x])) { s with heap := h', toks := tk } :=
      I.turnedNew (ch := [e, it]) (fun b ob hb q => hk b ob hb q) hf hT new
    refine ⟨.ref T, _, I1, rfl, ⟨_, x, rfl, I.hok.fresh hT, rfl, fun ys hy => by rw [injB I hy hq]; exact hx⟩, ⟨st'.1, st'.2.1, n1, n2, n3⟩, fun b hb => ?_⟩
    have hb' : b < s.heap.objs.size := by
      have e' : b = e ∨ b = it := by simpa using hb
      rcases e' with z | z
      · rw [z]; exact hel
      · rw [z]; exact hil
    rw [upd_ne (Nat.ne_of_lt (Nat.lt_of_lt_of_le hb' hT))]
    exact (hf b hb).1
  done := by
    intro X hP hw hK hc i pins s σ H E I hf st hg
    subst hP hw hK
    obtain ⟨hen, hit, n1, n2, n3⟩ := st
    obtain ⟨xs, hq, hx⟩ := hg
    obtain ⟨its, rv, p, hz⟩ := invB I hq
    have hl := rv.length
    obtain ⟨f0, f1, f2, f3, f4, f5⟩ := hf it (by simp)
    have h : i = its.toArray.size := by simp; omega
    subst h
    have G := GoesN.enumFrom (prog := X.prog) (w := X.w) (A := X.A) (elts := elts) (x1 := kk) (pos := tpos) 0 (drawsB (prog := X.prog) (w := X.w) (A := X.A.in1) t (I.ok.hd hc) it a n2 its.toArray) e n1 (by simp [n1, n3]) (by simp)
    exact G.stops s _ E ⟨hen, hit, p⟩ fun h' tk hk htk => I.turnedL (ch := [e, it]) (fun b o hb q => hk b o hb q) hf
  self := fun A i s Q E st h => let ⟨⟨_, he⟩, _⟩ := st; wpAny_pyIter_enum he h

def iEnumB (t : Bool) (K : PySem.W.Frag) (ta : TA) : TI := fun σ H R => ta σ H fun vs H1 => ∃ a xs, vs = [.ref a] ∧ SqB t K H1 a xs ∧ R (IteB t K a) H1
theorem meets_enumB {v : Value} {o : Obj} {H : Heap → Prop} (B : Begins v o H) :
    Meets (Builtin.«enumerate.__new__» ⟨[.type "enumerate", v], []⟩) (fun _ R s => H s.heap ∧
      R (.ok (.ret (.ref (s.heap.push o).objs.size))) { s with heap := (s.heap.push o).push { cls := .type "enumerate", data := .fields #[.none, .bool false, .ref s.heap.objs.size, rawInt 0, .none, .none] } }) :=
  .of_wp fun prog w A R s h => by
    obtain ⟨hp, g, d, tk, os⟩ := s; obtain ⟨h1, h⟩ := h
    have hsub := sub_enumerate
    have q1 : ∀ {A' : Around} {E : Value → Shared → Prop} {Q : Value → Shared → Prop}, Q (.ref hp.objs.size) ⟨hp.push o, g, d, tk, os⟩ → wpAny (model prog w) A' (pyIter v) Q E ⟨hp, g, d, tk, os⟩ :=
      fun q => B.iter prog w _ _ ⟨hp, g, d, tk, os⟩ _ h1 q
    wp_walk using q1
    refine wpAny_stack_any fun st => wpAny_pure ?_
    split
    · rename_i c _ _ _ _ _
      cases (c == Value.type "enumerate")
      · wp_walk using q1
        exact ⟨_, rfl, h⟩
      · wp_walk using q1
        exact ⟨_, rfl, h⟩
    · wp_walk using q1
      exact ⟨_, rfl, h⟩
theorem call_enumB {prog : Program} {w : World} {A : Around} {E : Value → Shared → Prop} {s : Shared} {v : Value} {o : Obj} {H : Heap → Prop} {Q : Value → Shared → Prop} (B : Begins v o H) (h1 : H s.heap)
    (h : ∀ h', IsEnum h' (s.heap.objs.size + 1) s.heap.objs.size 0 .none → h'.get? s.heap.objs.size = some o → (∀ b o, s.heap.get? b = some o → h'.get? b = some o) → Q (.ref (s.heap.objs.size + 1)) { s with heap := h' }) :
    wpAny (model prog w) A (call (.type "enumerate") [v]) Q E s := by
  refine callType_new F.called_enumerate (by decide) (F.typeCall_enumerate_1 _) (F.newCall_enumerate_1 _) (fun obj => F.args_object_init_2 obj _) F.entry_enumerate_new (meets_enumB B) ⟨h1, ?_⟩
  have hz : (s.heap.push o).objs.size = s.heap.objs.size + 1 := Heap.size_push ..
  show _ ∧ _
  rw [hz]
  have he : IsEnum ((s.heap.push o).push { cls := .type "enumerate", data := .fields #[.none, .bool false, .ref s.heap.objs.size, rawInt 0, .none, .none] }) (s.heap.objs.size + 1) s.heap.objs.size 0 .none := by
    have := Heap.get?_push_size (s.heap.push o) (o := { cls := .type "enumerate", data := .fields #[.none, .bool false, .ref s.heap.objs.size, rawInt 0, .none, .none] }) rfl
    rw [hz] at this; exact this
  exact ⟨⟨_, he, rfl⟩, h _ he (Heap.get?_push_of_some _ (Heap.get?_push_size _ B.free)) fun b o x => Heap.get?_push_of_some _ (Heap.get?_push_of_some _ x)⟩
theorem pi_enumB (t : Bool) {X : Cx} {e : Expr} {ta : TA} {p pos tpos : Pos} {elts : List Expr} {kk : Nat} (hg : Gl X "enumerate") (hm : X.mg "enumerate" = none) (ha : PA X [e] ta) (hs : starEach [e] X.env = [(false, eval e X.env)] := by rfl) :
    PI X (.Tuple elts kk tpos) (.Call (.Name "enumerate" p) [e] [] pos) (iEnumB t X.K ta) := by
  refine ⟨fun pins s σ H R I h => ?_⟩
  refine Call_ (ld_blt I hg hm boot_enumerate (PyProof.Rows.callWith_type1 (thn (ha.run pos pins s σ H _ I h) fun us s1 ⟨vs, H1, I1, r1, q1⟩ => ?_) hs rfl))
  obtain ⟨a, xs, ex, hq, q⟩ := q1
  subst ex
  cases r1 with
  | cons r rr =>
    cases rr
    cases r
    obtain ⟨its, rv, p', hz⟩ := invB I1 hq
    refine call_enumB (beginsB t a its.toArray) p' fun h' he hit hk => wpAny_pyIter_enum he ?_
    have I2 : Inv X pins σ H1 { s1 with heap := h' } := I1.kept (t' := s1.toks) hk
    refine ⟨s1.heap.objs.size + 1, [s1.heap.objs.size + 1, s1.heap.objs.size], _, _, H1, rfl, I2, turn_enumB t a (s1.heap.objs.size + 1) s1.heap.objs.size, ⟨⟨.none, he⟩, itB_new hit, Nat.succ_ne_self _, Nat.ne_of_lt hz, Nat.ne_of_gt (Nat.lt_succ_of_lt hz)⟩, fun b hb => ?_, q⟩
    have e' : b = s1.heap.objs.size + 1 ∨ b = s1.heap.objs.size := by simpa using hb
    have hle : s1.heap.objs.size ≤ b := by
      rcases e' with z | z
      · rw [z]; exact Nat.le_add_right _ _
      · rw [z]; exact Nat.le_refl _
    exact I1.fpOk hle (I1.hok.fresh hle)
/-! zip -/
def ItzB (t1 t2 : Bool) (K : PySem.W.Frag) (a b : Addr) : It :=
  ⟨fun i H => ∃ (xs ys : List V) (x y : V), SqB t1 K H a xs ∧ SqB t2 K H b ys ∧ xs[i]? = some x ∧ ys[i]? = some y,
    fun i H v H' => ∃ T x y, v = .ref T ∧ H T = none ∧ H' = upd H T (.tup [x, y]) ∧ (∀ xs, SqB t1 K H a xs → xs[i]? = some x) ∧ ∀ ys, SqB t2 K H b ys → ys[i]? = some y,
    fun i H => ∃ xs ys : List V, SqB t1 K H a xs ∧ SqB t2 K H b ys ∧ i = min xs.length ys.length⟩
structure ZApart (z TI TO i1 i2 a b : Addr) : Prop where
  s : ZipSep2 z TI TO i1 i2 [i1, a] [i2, b]
  a1 : a ≠ i1
  b2 : b ≠ i2
theorem turn_zipB {P : Program} {w : World} {K : PySem.W.Frag} {elts : List Expr} {kk : Nat} {tpos : Pos} (t1 t2 : Bool) {a b z TI TO i1 i2 : Addr} (D : ZApart z TI TO i1 i2 a b) :
    Turn P w K (.Tuple elts kk tpos) (ItzB t1 t2 K a b) [z, TI, TO, i1, i2] z (fun i h => IsZip h z TI TO .none ∧ IsTupOf2 h TI (.ref i1) (.ref i2) ∧ (∃ x y, IsTupOf2 h TO x y) ∧ ItB t1 h i1 a i ∧ ItB t2 h i2 b i) where
  mem := by simp
  obj := fun i h st c hc => by
    obtain ⟨hz, hTI, ⟨x, y, hTO⟩, h1, h2⟩ := st
    have e' : c = z ∨ c = TI ∨ c = TO ∨ c = i1 ∨ c = i2 := by simpa using hc
    rcases e' with q | q | q | q | q
    · rw [q]; exact ⟨_, hz, fun v q => nomatch q⟩
    · rw [q]; exact ⟨_, hTI, fun v q => nomatch q⟩
    · rw [q]; exact ⟨_, hTO, fun v q => nomatch q⟩
    · rw [q]; exact h1.obj
    · rw [q]; exact h2.obj
  keep := fun i h h' st k => by
    obtain ⟨hz, hTI, ⟨x, y, hTO⟩, h1, h2⟩ := st
    exact ⟨k z (by simp) _ hz, k TI (by simp) _ hTI, ⟨x, y, k TO (by simp) _ hTO⟩, h1.at fun o q => k i1 (by simp) o q, h2.at fun o q => k i2 (by simp) o q⟩
  item := by
    intro X hP hw hK hc i pins s σ H E I hf st hg
    subst hP hw hK
    obtain ⟨hz, hTI, hTO, h1, h2⟩ := st
    obtain ⟨xs, ys, x, y, hqx, hqy, hx, hy⟩ := hg
    obtain ⟨its, rv, p, l1⟩ := invB I hqx
    obtain ⟨its2, rv2, p2, l2⟩ := invB I hqy
    obtain ⟨u, hu, ru⟩ := rv.get hx
    obtain ⟨u2, hu2, ru2⟩ := rv2.get hy
    have G := GoesN.zip2 (prog := X.prog) (w := X.w) (A := X.A) (elts := elts) (x1 := kk) (pos := tpos) D.s (drawsB (prog := X.prog) (w := X.w) (A := X.A.in1) t1 (I.ok.hd hc) i1 a D.a1 its.toArray) (drawsB (prog := X.prog) (w := X.w) (A := X.A.in1) t2 (I.ok.hd hc) i2 b D.b2 its2.toArray)
    have hl1 : i < its.toArray.size := by simpa using (List.getElem?_eq_some_iff.mp hu).1
    have hl2 : i < its2.toArray.size := by simpa using (List.getElem?_eq_some_iff.mp hu2).1
    have hfp : ∀ c ∈ [z, TI, TO, i1, i2], c < s.heap.objs.size := fun c hcm => by
      have e' : c = z ∨ c = TI ∨ c = TO ∨ c = i1 ∨ c = i2 := by simpa using hcm
      rcases e' with q | q | q | q | q
      · rw [q]; exact Heap.lt_size hz
      · rw [q]; exact Heap.lt_size hTI
      · rw [q]; obtain ⟨_, _, e⟩ := hTO; exact Heap.lt_size e
      · rw [q]; obtain ⟨_, e, _⟩ := h1.obj; exact Heap.lt_size e
      · rw [q]; obtain ⟨_, e, _⟩ := h2.obj; exact Heap.lt_size e
    refine G.goes i s (fun v s2 => ∃ x H', Inv X pins σ H' s2 ∧ RelV x v ∧ (ItzB t1 t2 X.K a b).yld i H x H' ∧ _ ∧ ∀ c ∈ [z, TI, TO, i1, i2], H' c = none) E (Nat.lt_min.mpr ⟨hl1, hl2⟩) ⟨hz, hTI, hTO, ⟨h1, p⟩, ⟨h2, p2⟩⟩ fun v h' tk hY st' hk htk => ?_
    obtain ⟨T, v1, v2, ev, hT, hv1, hv2, hTup⟩ := hY
    subst ev
    have e1 : v1 = u := by
      have q : its.toArray[i]? = some u := by simpa using hu
      rw [q] at hv1; injection hv1 with hv1; exact hv1.symm
    have e2 : v2 = u2 := by
      have q : its2.toArray[i]? = some u2 := by simpa using hu2
      rw [q] at hv2; injection hv2 with hv2; exact hv2.symm
    subst e1 e2
    have new : ObjOk X.prog X.w (upd H T (.tup [x, y])) h' T (.tup [x, y]) := ⟨by show 2 ≤ sizeLine; decide, [v1, v2], .cons ru (.cons ru2 .nil), hTup⟩
    have I1 : Inv X pins σ (upd H T (.tup [x, y])) { s with heap := h', toks := tk } :=
      I.turnedNew (ch := [z, TI, TO, i1, i2]) (fun c ob hb q => hk c ob (fun hm => hb (by
        have e' : c = z ∨ c = TO ∨ c = i1 ∨ c = i2 := by simpa using hm
        rcases e' with q | q | q | q <;> simp [q])) q) hf hT new
    refine ⟨.ref T, _, I1, rfl, ⟨_, x, y, rfl, I.hok.fresh hT, rfl, fun l hl => by rw [injB I hl hqx]; exact hx, fun l hl => by rw [injB I hl hqy]; exact hy⟩, ⟨st'.1, st'.2.1, st'.2.2.1, st'.2.2.2.1.1, st'.2.2.2.2.1⟩, fun c hcm => ?_⟩
    rw [upd_ne (Nat.ne_of_lt (Nat.lt_of_lt_of_le (hfp c hcm) hT))]
    exact (hf c hcm).1
  done := by
    intro X hP hw hK hc i pins s σ H E I hf st hg
    subst hP hw hK
    obtain ⟨hz, hTI, hTO, h1, h2⟩ := st
    obtain ⟨xs, ys, hqx, hqy, hend⟩ := hg
    obtain ⟨its, rv, p, l1⟩ := invB I hqx
    obtain ⟨its2, rv2, p2, l2⟩ := invB I hqy
    have q1 := rv.length
    have q2 := rv2.length
    have h : i = min its.toArray.size its2.toArray.size := by simp; omega
    subst h
    have G := GoesN.zip2 (prog := X.prog) (w := X.w) (A := X.A) (elts := elts) (x1 := kk) (pos := tpos) D.s (drawsB (prog := X.prog) (w := X.w) (A := X.A.in1) t1 (I.ok.hd hc) i1 a D.a1 its.toArray) (drawsB (prog := X.prog) (w := X.w) (A := X.A.in1) t2 (I.ok.hd hc) i2 b D.b2 its2.toArray)
    exact G.stops s _ E ⟨hz, hTI, hTO, ⟨h1, p⟩, ⟨h2, p2⟩⟩ fun h' tk hk htk => I.turnedL (ch := [z, TI, TO, i1, i2]) (fun c o hb q => hk c o (fun hm => hb (by
        have e' : c = z ∨ c = TO ∨ c = i1 ∨ c = i2 := by simpa using hm
        rcases e' with q | q | q | q <;> simp [q])) q) hf
  self := fun A i s Q E st h => wpAny_pyIter_zip st.1 h
def iZipB (t1 t2 : Bool) (K : PySem.W.Frag) (ta : TA) : TI := fun σ H R => ta σ H fun vs H1 => ∃ a b xs ys, vs = [.ref a, .ref b] ∧ SqB t1 K H1 a xs ∧ SqB t2 K H1 b ys ∧ R (ItzB t1 t2 K a b) H1
theorem pi_zipB (t1 t2 : Bool) {X : Cx} {e e2 : Expr} {ta : TA} {p pos tpos : Pos} {elts : List Expr} {kk : Nat} (hg : Gl X "zip") (hm : X.mg "zip" = none) (ha : PA X [e, e2] ta)
    (hs : starEach [e, e2] X.env = (false, eval e X.env) :: starEach [e2] X.env := by rfl) (hpl : (backTo pos (starEach [e2] X.env)).any (·.1) = false := by rfl) :
    PI X (.Tuple elts kk tpos) (.Call (.Name "zip" p) [e, e2] [] pos) (iZipB t1 t2 X.K ta) := by
  refine ⟨fun pins s σ H R I h => ?_⟩
  refine Call_ (ld_blt I hg hm PyProof.Rows.boot_zip (PyProof.Rows.callWith_type1 (thn (ha.run pos pins s σ H _ I h) fun us s1 ⟨vs, H1, I1, r1, q1⟩ => ?_) hs hpl))
  obtain ⟨a, b, xs, ys, ex, hqx, hqy, q⟩ := q1
  subst ex
  cases r1 with
  | cons r rr =>
    cases rr with
    | cons r' rr =>
      cases rr
      cases r
      cases r'
      have fresh5 : ∀ c, c ∈ [s1.heap.objs.size + 4, s1.heap.objs.size + 2, s1.heap.objs.size + 3, s1.heap.objs.size, s1.heap.objs.size + 1] → FpOk X pins H1 c := fun c hcm => by
        have e' : c = s1.heap.objs.size + 4 ∨ c = s1.heap.objs.size + 2 ∨ c = s1.heap.objs.size + 3 ∨ c = s1.heap.objs.size ∨ c = s1.heap.objs.size + 1 := by simpa using hcm
        have hle : s1.heap.objs.size ≤ c := by
          rcases e' with z | z | z | z | z
          · rw [z]; exact Nat.le_add_right _ _
          · rw [z]; exact Nat.le_add_right _ _
          · rw [z]; exact Nat.le_add_right _ _
          · rw [z]; exact Nat.le_refl _
          · rw [z]; exact Nat.le_add_right _ _
        exact I1.fpOk hle (I1.hok.fresh hle)
      obtain ⟨its, rv, p1, l1⟩ := invB I1 hqx
      obtain ⟨its2, rv2, p2, l2⟩ := invB I1 hqy
      refine zip_begins2 (beginsB t1 a its.toArray) (beginsB t2 b its2.toArray) p1 p2 fun h' hz hTI hTO h1 h2 hsz hk => wpAny_pyIter_zip hz ?_
      have I2 : Inv X pins σ H1 { s1 with heap := h' } := I1.kept (t' := s1.toks) hk
      have ap : ZApart (s1.heap.objs.size + 4) (s1.heap.objs.size + 2) (s1.heap.objs.size + 3) s1.heap.objs.size (s1.heap.objs.size + 1) a b :=
        ⟨zip_sep2 (fun c hc => by rw [List.mem_singleton.mp hc]; exact l1) (fun c hc => by rw [List.mem_singleton.mp hc]; exact l2), Nat.ne_of_lt l1, Nat.ne_of_lt (Nat.lt_succ_of_lt l2)⟩
      exact ⟨s1.heap.objs.size + 4, [s1.heap.objs.size + 4, s1.heap.objs.size + 2, s1.heap.objs.size + 3, s1.heap.objs.size, s1.heap.objs.size + 1], _, _, H1, rfl, I2, turn_zipB t1 t2 ap, ⟨hz, hTI, ⟨_, _, hTO⟩, itB_new h1, itB_new h2⟩, fresh5, q⟩
/-! their walks -/
theorem walk_enumB {t : Bool} {K : PySem.W.Frag} {a : Addr} {xs : List V} : Walk (IteB t K a) xs.length (fun H => SqB t K H a xs) (YPair (fun i => some (.int (i : Nat))) (fun i => xs[i]?)) := by
  refine ⟨fun i _ hi q => ⟨xs, xs[i], q, by simp [hi]⟩, fun _ q => ⟨xs, q, rfl⟩, fun i H v H' _ q y => ?_⟩
  obtain ⟨T, x, h1, h2, h3, h4⟩ := y
  exact ⟨T, .int (i : Nat), x, h1, h2, h3, rfl, h4 xs q⟩
theorem walk_zipB {t1 t2 : Bool} {K : PySem.W.Frag} {a b : Addr} {xs ys : List V} {n : Nat} (hn : n = min xs.length ys.length) : Walk (ItzB t1 t2 K a b) n (fun H => SqB t1 K H a xs ∧ SqB t2 K H b ys) (YPair (fun i => xs[i]?) (fun i => ys[i]?)) := by
  subst hn
  refine ⟨fun i _ hi q => ?_, fun _ q => ⟨xs, ys, q.1, q.2, rfl⟩, fun i H v H' _ q y => ?_⟩
  · have h1 : i < xs.length := by omega
    have h2 : i < ys.length := by omega
    exact ⟨xs, ys, xs[i], ys[i], q.1, q.2, by simp [h1], by simp [h2]⟩
  · obtain ⟨T, x, z, h1, h2, h3, h4, h5⟩ := y
    exact ⟨T, x, z, h1, h2, h3, h4 xs q.1, h5 ys q.2⟩
end Own


namespace Own
/-! ### numbers below a prime: inverses -/
/-- b makes one with a below p -/
def IsInv (p a b : Int) : Prop := 0 ≤ b ∧ b < p ∧ p ∣ a * b - 1
theorem IsInv.uniq {p a b c : Int} (h : IsInv p a b) (k : IsInv p a c) : b = c := by
  obtain ⟨b0, b1, hb⟩ := h
  obtain ⟨c0, c1, hc⟩ := k
  have d : p ∣ b - c := by
    have h1 : p ∣ c * (a * b - 1) := Int.dvd_mul_of_dvd_right hb
    have h2 : p ∣ b * (a * c - 1) := Int.dvd_mul_of_dvd_right hc
    have e : b - c = c * (a * b - 1) - b * (a * c - 1) := by
      rw [Int.mul_sub, Int.mul_sub, show c * (a * b) = b * (a * c) by rw [Int.mul_left_comm, Int.mul_comm c b, Int.mul_left_comm]]
      omega
    rw [e]
    exact Int.dvd_sub h1 h2
  have := Int.emod_eq_emod_iff_emod_sub_eq_zero.mpr (Int.emod_eq_zero_of_dvd d)
  rwa [Int.emod_eq_of_lt b0 b1, Int.emod_eq_of_lt c0 c1] at this
open Classical in
noncomputable def inv (p a : Int) : Int := if h : ∃ b, IsInv p a b then Classical.choose h else 0
theorem inv_of {p a b : Int} (h : IsInv p a b) : inv p a = b := by
  have e : ∃ b, IsInv p a b := ⟨b, h⟩
  unfold inv
  rw [dif_pos e]
  exact (Classical.choose_spec e).uniq h
theorem inv_is {p a b : Int} (h : IsInv p a b) : IsInv p a (inv p a) := by rw [inv_of h]; exact h
/-- no number but one and itself divides p, and no greater part -/
def Prm (p : Int) : Prop := 5 ≤ p ∧ p ≤ 1000003 ∧ noDiv p = true
theorem Prm.part {p g : Int} (h : Prm p) (g1 : 0 < g) (g2 : g < p) (d : g ∣ p) : g = 1 := by
  obtain ⟨h5, h6, hn⟩ := h
  have N := (noDiv_iff h6).mp hn
  refine Classical.byContradiction fun ne => ?_
  obtain ⟨m, e⟩ := d
  have m2 : 1 < m := by
    refine Int.not_le.mp fun c => ?_
    have : g * m ≤ g * 1 := Int.mul_le_mul_of_nonneg_left c (by omega)
    omega
  by_cases c : g ≤ m
  · exact N g (by omega) (by rw [e]; exact Int.mul_le_mul_of_nonneg_left c (by omega)) (Int.emod_eq_zero_of_dvd ⟨m, e⟩)
  · exact N m (by omega) (by rw [e]; exact Int.mul_le_mul_of_nonneg_right (by omega) (by omega)) (Int.emod_eq_zero_of_dvd ⟨g, by rw [e, Int.mul_comm]⟩)
/-! the steps of Euclid: what divides both of a pair divides p and a -/
structure Euc (p a high low far near : Int) : Prop where
  h0 : 0 < high
  l0 : 0 ≤ low
  lt : low < high
  hp : high ≤ p
  dv : ∀ g : Int, g ∣ high → g ∣ low → g ∣ p ∧ g ∣ a
  fa : p ∣ a * far - high
  ne : p ∣ a * near - low
theorem Euc.start {p a : Int} (h0 : 0 ≤ a) (h1 : a < p) : Euc p a p a 0 1 :=
  ⟨by omega, h0, h1, by omega, fun g h k => ⟨h, k⟩, by rw [Int.mul_zero, Int.zero_sub]; exact Int.dvd_neg.mpr (Int.dvd_refl p), by rw [Int.mul_one, Int.sub_self]; exact Int.dvd_zero p⟩
theorem Euc.step {p a high low far near : Int} (e : Euc p a high low far near) (hl : 0 < low) : Euc p a low (high - high / low * low) near (far - high / low * near) := by
  have m : high - high / low * low = high % low := by rw [Int.emod_def, Int.mul_comm]
  refine ⟨hl, by rw [m]; exact Int.emod_nonneg _ (by omega), by rw [m]; exact Int.emod_lt_of_pos _ hl, by have := e.lt; have := e.hp; omega, fun g h k => ?_, e.ne, ?_⟩
  · refine e.dv g ?_ h
    have k1 : g ∣ high / low * low := Int.dvd_mul_of_dvd_right h
    have : high = (high - high / low * low) + high / low * low := by omega
    rw [this]
    exact Int.dvd_add k k1
  · have h1 : p ∣ high / low * (a * near - low) := Int.dvd_mul_of_dvd_right e.ne
    have h2 := Int.dvd_sub e.fa h1
    have : a * (far - high / low * near) - (high - high / low * low) = a * far - high - high / low * (a * near - low) := by
      rw [Int.mul_sub, Int.mul_sub, Int.mul_left_comm]
      omega
    rw [this]
    exact h2
/-- the one that is left is one -/
theorem Euc.one {p a high far near : Int} (P : Prm p) (a0 : 0 < a) (a1 : a < p) (e : Euc p a high 0 far near) : high = 1 := by
  have d := e.dv high (Int.dvd_refl _) (Int.dvd_zero _)
  have hle : high ≤ a := Int.le_of_dvd a0 d.2
  exact P.part e.h0 (by omega) d.1
theorem Euc.low {p a high low far near : Int} (P : Prm p) (a0 : 0 < a) (a1 : a < p) (e : Euc p a high low far near) (h : 1 < high) : 0 < low := by
  have := e.l0
  refine Int.not_le.mp fun c => ?_
  have z : low = 0 := by omega
  subst z
  have := e.one P a0 a1
  omega
theorem inv_mod {p a b : Int} (hp : 0 < p) (h : p ∣ a * b - 1) : IsInv p a (b % p) := by
  refine ⟨Int.emod_nonneg _ (by omega), Int.emod_lt_of_pos _ hp, ?_⟩
  have h2 : p ∣ a * (p * (b / p)) := Int.dvd_mul_of_dvd_right (Int.dvd_mul_right _ _)
  have : a * (b % p) - 1 = a * b - 1 - a * (p * (b / p)) := by
    rw [Int.emod_def, Int.mul_sub]
    omega
  rw [this]
  exact Int.dvd_sub h h2
/-- both sides of a pair, halved at each turn -/
theorem Euc.half {p a high low far near : Int} (e : Euc p a high low far near) (hl : 0 < low) : 2 * (low * (high - high / low * low)) ≤ high * low := by
  have m : high - high / low * low = high % low := by rw [Int.emod_def, Int.mul_comm]
  have r0 : 0 ≤ high % low := Int.emod_nonneg _ (by omega)
  have r1 := Int.emod_lt_of_pos high hl
  have q1 : 1 ≤ high / low := Int.le_ediv_of_mul_le hl (by have := e.lt; omega)
  have q2 : low * 1 ≤ low * (high / low) := Int.mul_le_mul_of_nonneg_left q1 (by omega)
  have h1 := Int.mul_ediv_add_emod high low
  have : 2 * (high % low) ≤ high := by omega
  rw [m]
  have h3 := Int.mul_le_mul_of_nonneg_left this (show 0 ≤ low by omega)
  rw [Int.mul_left_comm, Int.mul_comm high low]
  exact h3
end Own


namespace Own
/-! ### rows of numbers below a prime -/
abbrev Ro := List Int
abbrev Mx := List Ro
def nth (r : Ro) (j : Nat) : Int := r.getD j 0
def row (R : Mx) (i : Nat) : Ro := R.getD i []
def ent (R : Mx) (i j : Nat) : Int := nth (row R i) j
def swp (R : Mx) (i j : Nat) : Mx := (R.set i (row R j)).set j (row R i)
def scl (p b : Int) (r : Ro) : Ro := r.map fun x => b * x % p
def led (p f : Int) (r c : Ro) : Ro := List.zipWith (fun x y => (x - f * y) % p) r c
def clr (p b : Int) (R : Mx) (d k : Nat) : Mx := (List.range R.length).map fun r => if r = d then scl p b (row R d) else led p (ent R r k) (row R r) (scl p b (row R d))
def pv (R : Mx) (d k : Nat) : Option Nat := (List.range R.length).find? fun i => decide (d ≤ i) && decide (ent R i k ≠ 0)
/-- rows, how many are done, where these begin -/
structure Sta where
  R : Mx
  d : Nat
  S : List Nat
noncomputable def stp (p : Int) (s : Sta) (k : Nat) : Sta := match pv s.R s.d k with
  | none => s
  | some i => ⟨clr p (inv p (ent (swp s.R s.d i) s.d k)) (swp s.R s.d i) s.d k, s.d + 1, s.S ++ [k]⟩
noncomputable def red (p : Int) (M : Mx) : Nat → Sta
  | 0 => ⟨M, 0, []⟩
  | n + 1 => stp p (red p M n) n
theorem getD_lt {α : Type} {l : List α} {d : α} {i : Nat} (h : i < l.length) : l.getD i d = l[i] := by
  rw [List.getD_eq_getElem?_getD, List.getElem?_eq_getElem h, Option.getD_some]
/-- rows of n numbers below p -/
def WF (p : Int) (n : Nat) (R : Mx) : Prop := ∀ r ∈ R, r.length = n ∧ ∀ x ∈ r, 0 ≤ x ∧ x < p
theorem row_mem {R : Mx} {i : Nat} (h : i < R.length) : row R i ∈ R := by
  unfold row
  rw [getD_lt h]
  exact List.getElem_mem h
theorem row_at {R : Mx} {i : Nat} (h : i < R.length) : R[i]? = some (row R i) := by
  unfold row
  rw [getD_lt h, List.getElem?_eq_getElem h]
theorem mem_row {R : Mx} {r : Ro} (h : r ∈ R) : ∃ i, i < R.length ∧ row R i = r := by
  obtain ⟨i, hi, e⟩ := List.mem_iff_getElem.mp h
  exact ⟨i, hi, by unfold row; rw [getD_lt hi, e]⟩
theorem row_set {R : Mx} {i j : Nat} {r : Ro} (h : i < R.length) : row (R.set i r) j = if j = i then r else row R j := by
  unfold row
  rw [List.getD_eq_getElem?_getD, List.getD_eq_getElem?_getD, List.getElem?_set]
  by_cases e : i = j
  · subst e; simp [h]
  · simp [e, Ne.symm e]
theorem row_swp {R : Mx} {i j r : Nat} (hi : i < R.length) (hj : j < R.length) : row (swp R i j) r = if r = j then row R i else if r = i then row R j else row R r := by
  unfold swp
  rw [row_set (by rw [List.length_set]; exact hj), row_set hi]
theorem len_swp {R : Mx} {i j : Nat} : (swp R i j).length = R.length := by simp [swp]
theorem len_clr {p b : Int} {R : Mx} {d k : Nat} : (clr p b R d k).length = R.length := by simp [clr]
theorem row_clr {p b : Int} {R : Mx} {d k r : Nat} (h : r < R.length) : row (clr p b R d k) r = if r = d then scl p b (row R d) else led p (ent R r k) (row R r) (scl p b (row R d)) := by
  unfold clr
  show ((List.range R.length).map _).getD r [] = _
  rw [getD_lt (by simpa using h), List.getElem_map, List.getElem_range]
theorem nth_scl {p b : Int} {r : Ro} {j : Nat} : nth (scl p b r) j = b * nth r j % p := by
  unfold nth scl
  rw [List.getD_eq_getElem?_getD, List.getD_eq_getElem?_getD, List.getElem?_map]
  cases r[j]? <;> simp
theorem nth_led {p f : Int} {r c : Ro} {j : Nat} (h : r.length = c.length) : nth (led p f r c) j = (nth r j - f * nth c j) % p := by
  unfold nth led
  rw [List.getD_eq_getElem?_getD, List.getD_eq_getElem?_getD, List.getD_eq_getElem?_getD, List.getElem?_zipWith]
  by_cases hj : j < r.length
  · rw [List.getElem?_eq_getElem hj, List.getElem?_eq_getElem (by omega : j < c.length)]
    rfl
  · rw [List.getElem?_eq_none (by omega), List.getElem?_eq_none (by omega)]
    simp
theorem len_scl {p b : Int} {r : Ro} : (scl p b r).length = r.length := by simp [scl]
theorem len_led {p f : Int} {r c : Ro} (h : r.length = c.length) : (led p f r c).length = r.length := by simp [led, h]
theorem wf_row {p : Int} {n : Nat} {R : Mx} (w : WF p n R) {i : Nat} (h : i < R.length) : (row R i).length = n ∧ ∀ x ∈ row R i, 0 ≤ x ∧ x < p := w _ (row_mem h)
theorem wf_nth {p : Int} {n : Nat} {R : Mx} (w : WF p n R) (hp : 0 < p) (i j : Nat) : 0 ≤ ent R i j ∧ ent R i j < p := by
  unfold ent nth
  by_cases hi : i < R.length
  · rw [List.getD_eq_getElem?_getD]
    cases h : (row R i)[j]? with
    | none => exact ⟨Int.le_refl _, hp⟩
    | some x => exact (wf_row w hi).2 x (List.mem_of_getElem? h)
  · have : row R i = [] := by unfold row; rw [List.getD_eq_getElem?_getD, List.getElem?_eq_none (by omega), Option.getD_none]
    rw [this]
    exact ⟨Int.le_refl _, hp⟩
theorem wf_swp {p : Int} {n : Nat} {R : Mx} (w : WF p n R) {i j : Nat} (hi : i < R.length) (hj : j < R.length) : WF p n (swp R i j) := fun r hr => by
  obtain ⟨m, hm, e⟩ := mem_row hr
  rw [len_swp] at hm
  rw [row_swp hi hj] at e
  rw [← e]
  split
  · exact wf_row w hi
  · split
    · exact wf_row w hj
    · exact wf_row w hm
theorem wf_clr {p b : Int} {n : Nat} {R : Mx} (hp : 0 < p) (w : WF p n R) {d k : Nat} (hd : d < R.length) : WF p n (clr p b R d k) := fun r hr => by
  obtain ⟨m, hm, e⟩ := mem_row hr
  rw [len_clr] at hm
  rw [row_clr hm] at e
  have l1 := (wf_row w hd).1
  have l2 := (wf_row w hm).1
  rw [← e]
  split
  · refine ⟨by rw [len_scl]; exact l1, fun x hx => ?_⟩
    unfold scl at hx
    obtain ⟨y, _, rfl⟩ := List.mem_map.mp hx
    exact ⟨Int.emod_nonneg _ (by omega), Int.emod_lt_of_pos _ hp⟩
  · refine ⟨by rw [len_led (by rw [len_scl, l1, l2])]; exact l2, fun x hx => ?_⟩
    unfold led at hx
    obtain ⟨i, hi, rfl⟩ := List.mem_iff_getElem.mp hx
    rw [List.getElem_zipWith]
    exact ⟨Int.emod_nonneg _ (by omega), Int.emod_lt_of_pos _ hp⟩
theorem pv_some {R : Mx} {d k i : Nat} (h : pv R d k = some i) : i < R.length ∧ d ≤ i ∧ ent R i k ≠ 0 := by
  unfold pv at h
  have h1 := List.find?_some h
  have h2 := List.mem_of_find?_eq_some h
  simp at h1 h2
  exact ⟨h2, h1.1, h1.2⟩
theorem pv_none {R : Mx} {d k i : Nat} (h : pv R d k = none) (hd : d ≤ i) (hi : i < R.length) : ent R i k = 0 := by
  unfold pv at h
  have := List.find?_eq_none.mp h i (List.mem_range.mpr hi)
  simp [hd] at this
  exact this
/-- what holds of the rows when k columns are done -/
structure Good (p : Int) (n : Nat) (k : Nat) (s : Sta) : Prop where
  wf : WF p n s.R
  dl : s.d = s.S.length
  dr : s.d ≤ s.R.length
  lt : ∀ c ∈ s.S, c < k
  nd : s.S.Pairwise (· < ·)
  one : ∀ (r : Nat) (c : Nat), s.S[r]? = some c → ∀ i, i < s.R.length → ent s.R i c = if i = r then 1 else 0
  low : ∀ i, s.d ≤ i → i < s.R.length → ∀ c, c < k → ent s.R i c = 0
  pre : ∀ (r : Nat) (c : Nat), s.S[r]? = some c → ∀ j, j < c → ent s.R r j = 0
theorem good_start {p : Int} {n : Nat} {M : Mx} (w : WF p n M) : Good p n 0 ⟨M, 0, []⟩ :=
  ⟨w, rfl, Nat.zero_le _, by simp, by simp, fun r c h => by simp at h, fun _ _ _ c h => absurd h (Nat.not_lt_zero _), fun r c h => by simp at h⟩
/-- the number that leads has an inverse -/
def HasInv (p : Int) : Prop := ∀ a, 0 < a → a < p → ∃ b, IsInv p a b
theorem good_step {p : Int} {n k : Nat} {s : Sta} (hp : 1 < p) (hI : HasInv p) (g : Good p n k s) : Good p n (k + 1) (stp p s k) := by
  unfold stp
  cases h : pv s.R s.d k with
  | none =>
    refine ⟨g.wf, g.dl, g.dr, fun c hc => by have := g.lt c hc; omega, g.nd, g.one, fun i h1 h2 c hc => ?_, g.pre⟩
    by_cases e : c = k
    · rw [e]; exact pv_none h h1 h2
    · exact g.low i h1 h2 c (by omega)
  | some i =>
    obtain ⟨hi, hd, hne⟩ := pv_some h
    have hdl : s.d < s.R.length := by omega
    have w1 := wf_swp g.wf hdl hi
    generalize hR1 : swp s.R s.d i = R1 at w1
    have len1 : R1.length = s.R.length := by rw [← hR1, len_swp]
    have r1 : ∀ r, row R1 r = if r = i then row s.R s.d else if r = s.d then row s.R i else row s.R r := fun r => by rw [← hR1, row_swp hdl hi]
    have e1 : ∀ r c, ent R1 r c = if r = i then ent s.R s.d c else if r = s.d then ent s.R i c else ent s.R r c := fun r c => by
      unfold ent
      rw [r1]
      split
      · rfl
      · split <;> rfl
    have a0 : ent R1 s.d k ≠ 0 := by
      rw [e1]
      split
      · rename_i z; rw [← z] at hne; exact hne
      · rw [if_pos rfl]; exact hne
    have ab := wf_nth w1 (by omega) s.d k
    have I := inv_is (Classical.choose_spec (hI (ent R1 s.d k) (by omega) ab.2))
    generalize hb : inv p (ent R1 s.d k) = b at I
    have below : ∀ r, s.d ≤ r → r < s.R.length → ∀ c, c < k → ent R1 r c = 0 := fun r h1 h2 c hc => by
      rw [e1]
      split
      · exact g.low _ (Nat.le_refl _) hdl c hc
      · split
        · exact g.low _ hd hi c hc
        · exact g.low _ h1 h2 c hc
    have same : ∀ r, r < s.d → ∀ c, ent R1 r c = ent s.R r c := fun r h1 c => by
      rw [e1, if_neg (by omega), if_neg (by omega)]
    -- the rows behind
    show Good p n (k + 1) ⟨clr p (inv p (ent (swp s.R s.d i) s.d k)) (swp s.R s.d i) s.d k, s.d + 1, s.S ++ [k]⟩
    rw [hR1, hb]
    have new : ∀ r, r < R1.length → ∀ c, ent (clr p b R1 s.d k) r c = if r = s.d then b * ent R1 s.d c % p else (ent R1 r c - ent R1 r k * (b * ent R1 s.d c % p)) % p := fun r hr c => by
      unfold ent
      rw [row_clr hr]
      split
      · rw [nth_scl]
      · rw [nth_led (by rw [len_scl, (wf_row w1 hr).1, (wf_row w1 (by rw [len1]; exact hdl)).1]), nth_scl]; rfl
    have z : ∀ r, r < R1.length → ∀ c, c < k → ent (clr p b R1 s.d k) r c = ent R1 r c := fun r hr c hc => by
      rw [new r hr c, below s.d (Nat.le_refl _) hdl c hc]
      split
      · rename_i e
        rw [e, below s.d (Nat.le_refl _) hdl c hc]; simp
      · have := wf_nth w1 (by omega) r c
        simp only [Int.mul_zero, Int.zero_emod, Int.sub_zero]
        exact Int.emod_eq_of_lt this.1 this.2
    have lead : b * ent R1 s.d k % p = 1 := by
      have h2 := I.2.2
      have : ent R1 s.d k * b % p = 1 % p := Int.emod_eq_emod_iff_emod_sub_eq_zero.mpr (Int.emod_eq_zero_of_dvd h2)
      rw [Int.mul_comm, this]
      exact Int.emod_eq_of_lt (by omega) hp
    have colk : ∀ r, r < R1.length → ent (clr p b R1 s.d k) r k = if r = s.d then 1 else 0 := fun r hr => by
      rw [new r hr k, lead]
      split
      · rfl
      · rw [Int.mul_one, Int.sub_self, Int.zero_emod]
    refine ⟨wf_clr (by omega) w1 (by rw [len1]; exact hdl), by simp [g.dl], by rw [len_clr, len1]; show s.d + 1 ≤ _; omega, fun c hc => ?_, ?_, fun r c hrc j hj => ?_, fun j h1 h2 c hc => ?_, fun r c hrc j hj => ?_⟩
    · rcases List.mem_append.mp hc with q | q
      · have := g.lt c q; omega
      · rw [List.mem_singleton.mp q]; omega
    · rw [List.pairwise_append]
      exact ⟨g.nd, by simp, fun x hx y hy => by rw [List.mem_singleton.mp hy]; exact g.lt x hx⟩
    · rw [len_clr] at hj
      have hrc' : (s.S ++ [k])[r]? = some c := hrc
      by_cases hr : r < s.S.length
      · rw [List.getElem?_append_left hr] at hrc'
        have hck : c < k := g.lt c (List.mem_of_getElem? hrc')
        rw [z j hj c hck]
        by_cases hjd : j < s.d
        · rw [same j hjd]
          exact g.one r c hrc' j (by omega)
        · rw [below j (by omega) (by omega) c hck, if_neg]
          have := g.dl
          omega
      · rw [List.getElem?_append_right (by omega)] at hrc'
        have hr0 : r - s.S.length = 0 := by
          refine Nat.eq_zero_of_not_pos fun q => ?_
          rw [List.getElem?_eq_none (by simp; omega)] at hrc'
          cases hrc'
        rw [hr0] at hrc'
        simp at hrc'
        subst hrc'
        have : r = s.d := by have := g.dl; omega
        rw [this]
        exact colk j hj
    · have h2' : j < R1.length := by rw [len_clr] at h2; exact h2
      have h1' : s.d + 1 ≤ j := h1
      by_cases e : c = k
      · rw [e, colk j h2', if_neg (by omega)]
      · rw [z j h2' c (by omega)]
        exact below j (by omega) (by omega) c (by omega)
    · have hrc' : (s.S ++ [k])[r]? = some c := hrc
      by_cases hr : r < s.S.length
      · rw [List.getElem?_append_left hr] at hrc'
        have hck : c < k := g.lt c (List.mem_of_getElem? hrc')
        have hrd : r < s.d := by have := g.dl; omega
        rw [z r (by omega) j (by omega), same r hrd]
        exact g.pre r c hrc' j hj
      · rw [List.getElem?_append_right (by omega)] at hrc'
        have hr0 : r - s.S.length = 0 := by
          refine Nat.eq_zero_of_not_pos fun q => ?_
          rw [List.getElem?_eq_none (by simp; omega)] at hrc'
          cases hrc'
        rw [hr0] at hrc'
        simp at hrc'
        subst hrc'
        have : r = s.d := by have := g.dl; omega
        rw [this, z s.d (by omega) j hj]
        exact below s.d (Nat.le_refl _) hdl j hj
theorem good_red {p : Int} {n : Nat} {M : Mx} (hp : 1 < p) (hI : HasInv p) (w : WF p n M) : ∀ k, Good p n k (red p M k)
  | 0 => good_start w
  | k + 1 => good_step hp hI (good_red hp hI w k)
theorem len_red {p : Int} {M : Mx} : ∀ k, (red p M k).R.length = M.length
  | 0 => rfl
  | k + 1 => by
    show (stp p (red p M k) k).R.length = _
    unfold stp
    cases pv (red p M k).R (red p M k).d k with
    | none => exact len_red k
    | some i => show (clr _ _ _ _ _).length = _; rw [len_clr, len_swp]; exact len_red k
end Own


namespace Own
/-! ### what rows make nought -/
def sumTo (f : Nat → Int) : Nat → Int
  | 0 => 0
  | n + 1 => sumTo f n + f n
def dot (n : Nat) (u v : Ro) : Int := sumTo (fun k => nth u k * nth v k) n
theorem sumTo_congr {f g : Nat → Int} : ∀ {n : Nat}, (∀ k, k < n → f k = g k) → sumTo f n = sumTo g n
  | 0, _ => rfl
  | n + 1, h => by
    show sumTo f n + f n = sumTo g n + g n
    rw [sumTo_congr fun k hk => h k (by omega), h n (by omega)]
theorem sumTo_mul {f : Nat → Int} {c : Int} : ∀ {n : Nat}, sumTo (fun k => c * f k) n = c * sumTo f n
  | 0 => by simp [sumTo]
  | n + 1 => by
    show sumTo _ n + c * f n = c * (sumTo f n + f n)
    rw [sumTo_mul, Int.mul_add]
theorem sumTo_sub {f g : Nat → Int} : ∀ {n : Nat}, sumTo (fun k => f k - g k) n = sumTo f n - sumTo g n
  | 0 => rfl
  | n + 1 => by
    show sumTo _ n + (f n - g n) = sumTo f n + f n - (sumTo g n + g n)
    rw [sumTo_sub]; omega
theorem sumTo_dvd {p : Int} {f : Nat → Int} : ∀ {n : Nat}, (∀ k, k < n → p ∣ f k) → p ∣ sumTo f n
  | 0, _ => Int.dvd_zero p
  | n + 1, h => Int.dvd_add (sumTo_dvd fun k hk => h k (by omega)) (h n (by omega))
theorem sumTo_near {p : Int} {f g : Nat → Int} {n : Nat} (h : ∀ k, k < n → p ∣ f k - g k) : p ∣ sumTo f n - sumTo g n := by
  rw [← sumTo_sub]; exact sumTo_dvd h
theorem sumTo_zero : ∀ {n : Nat} {f : Nat → Int}, (∀ k, k < n → f k = 0) → sumTo f n = 0
  | 0, _, _ => rfl
  | n + 1, f, h => by
    show sumTo f n + f n = 0
    rw [sumTo_zero fun k hk => h k (by omega), h n (by omega)]; rfl
theorem sumTo_upd {f g : Nat → Int} {i : Nat} : ∀ {n : Nat}, (∀ k, k < n → k ≠ i → g k = f k) → i < n → sumTo g n = sumTo f n + (g i - f i)
  | n + 1, h, hi => by
    show sumTo g n + g n = sumTo f n + f n + (g i - f i)
    by_cases e : i = n
    · subst e
      rw [sumTo_congr fun k hk => h k (by omega) (by omega)]; omega
    · rw [sumTo_upd (fun k hk => h k (by omega)) (by omega), h n (by omega) (fun z => e z.symm)]; omega
theorem dot_comm {n : Nat} {u v : Ro} : dot n u v = dot n v u := sumTo_congr fun k _ => Int.mul_comm _ _
theorem near_mod {p x : Int} : p ∣ x % p - x := by
  rw [Int.emod_def]
  exact ⟨-(x / p), by rw [Int.mul_neg]; omega⟩
theorem near_mul {p x y z : Int} (h : p ∣ x - y) : p ∣ x * z - y * z := by
  rw [← Int.sub_mul]; exact Int.dvd_mul_of_dvd_left h
theorem dot_scl {p b : Int} {n : Nat} {r x : Ro} : p ∣ dot n (scl p b r) x - b * dot n r x := by
  unfold dot
  rw [← sumTo_mul]
  refine sumTo_near fun k _ => ?_
  rw [nth_scl, ← Int.mul_assoc]
  exact near_mul near_mod
theorem dot_led {p f : Int} {n : Nat} {r c x : Ro} (h : r.length = c.length) : p ∣ dot n (led p f r c) x - (dot n r x - f * dot n c x) := by
  unfold dot
  rw [← sumTo_mul, ← sumTo_sub]
  refine sumTo_near fun k _ => ?_
  rw [nth_led h, ← Int.mul_assoc, ← Int.sub_mul]
  exact near_mul near_mod
/-- all rows make x nought -/
def Kil (p : Int) (n : Nat) (R : Mx) (x : Ro) : Prop := ∀ i, i < R.length → p ∣ dot n (row R i) x
theorem kil_swp {p : Int} {n : Nat} {R : Mx} {x : Ro} {i j : Nat} (hi : i < R.length) (hj : j < R.length) : Kil p n (swp R i j) x ↔ Kil p n R x := by
  have f : ∀ {R : Mx} {i j : Nat}, i < R.length → j < R.length → Kil p n R x → Kil p n (swp R i j) x := fun hi hj k m hm => by
    rw [len_swp] at hm
    rw [row_swp hi hj]
    split
    · exact k _ hi
    · split
      · exact k _ hj
      · exact k _ hm
  refine ⟨fun k m hm => ?_, f hi hj⟩
  by_cases e1 : m = i
  · have := k j (by rw [len_swp]; exact hj)
    rw [row_swp hi hj, if_pos rfl] at this
    rw [e1]; exact this
  · by_cases e2 : m = j
    · have := k i (by rw [len_swp]; exact hi)
      rw [row_swp hi hj] at this
      by_cases e3 : i = j
      · omega
      · rw [if_neg e3, if_pos rfl] at this
        rw [e2]; exact this
    · have := k m (by rw [len_swp]; exact hm)
      rwa [row_swp hi hj, if_neg e2, if_neg e1] at this
theorem dvd_of_near {p x y : Int} (h : p ∣ x - y) (k : p ∣ y) : p ∣ x := by
  have := Int.dvd_add h k
  rwa [Int.sub_add_cancel] at this
theorem dvd_of_near' {p x y : Int} (h : p ∣ x - y) (k : p ∣ x) : p ∣ y := by
  have := Int.dvd_sub k h
  rwa [Int.sub_sub_self] at this
theorem kil_clr {p b : Int} {n k d : Nat} {R : Mx} {x : Ro} (w : WF p n R) (hd : d < R.length) (h : Kil p n R x) : Kil p n (clr p b R d k) x := fun m hm => by
  rw [len_clr] at hm
  rw [row_clr hm]
  have c : p ∣ dot n (scl p b (row R d)) x := dvd_of_near dot_scl (Int.dvd_mul_of_dvd_right (h d hd))
  split
  · exact c
  · exact dvd_of_near (dot_led (by rw [len_scl, (wf_row w hd).1, (wf_row w hm).1])) (Int.dvd_sub (h m hm) (Int.dvd_mul_of_dvd_right c))
theorem kil_clr' {p b : Int} {n k d : Nat} {R : Mx} {x : Ro} (w : WF p n R) (hd : d < R.length) (I : p ∣ ent R d k * b - 1) (h : Kil p n (clr p b R d k) x) : Kil p n R x := fun m hm => by
  have c : p ∣ dot n (scl p b (row R d)) x := by
    have := h d (by rw [len_clr]; exact hd)
    rwa [row_clr hd, if_pos rfl] at this
  by_cases e : m = d
  · rw [e]
    have h1 : p ∣ b * dot n (row R d) x := dvd_of_near' dot_scl c
    have h2 : p ∣ ent R d k * (b * dot n (row R d) x) := Int.dvd_mul_of_dvd_right h1
    have h3 := near_mul (z := dot n (row R d) x) I
    rw [Int.one_mul, Int.mul_assoc] at h3
    exact dvd_of_near' h3 h2
  · have h1 := h m (by rw [len_clr]; exact hm)
    rw [row_clr hm, if_neg e] at h1
    have h2 := dvd_of_near' (dot_led (by rw [len_scl, (wf_row w hd).1, (wf_row w hm).1])) h1
    have h3 := Int.dvd_add h2 (Int.dvd_mul_of_dvd_right (b := ent R m k) c)
    rwa [Int.sub_add_cancel] at h3
theorem kil_stp {p : Int} {n k : Nat} {s : Sta} {x : Ro} (hp : 1 < p) (hI : HasInv p) (g : Good p n k s) : Kil p n (stp p s k).R x ↔ Kil p n s.R x := by
  unfold stp
  cases h : pv s.R s.d k with
  | none => exact Iff.rfl
  | some i =>
    obtain ⟨hi, hd, hne⟩ := pv_some h
    have hdl : s.d < s.R.length := by omega
    have w1 := wf_swp g.wf hdl hi
    have a0 : ent (swp s.R s.d i) s.d k ≠ 0 := by
      unfold ent
      rw [row_swp hdl hi]
      split
      · rename_i z; rw [← z] at hne; exact hne
      · rw [if_pos rfl]; exact hne
    have ab := wf_nth w1 (by omega) s.d k
    have I := inv_is (Classical.choose_spec (hI _ (by omega) ab.2))
    show Kil p n (clr p (inv p (ent (swp s.R s.d i) s.d k)) (swp s.R s.d i) s.d k) x ↔ _
    have hd' : s.d < (swp s.R s.d i).length := by rw [len_swp]; exact hdl
    exact ⟨fun q => (kil_swp hdl hi).mp (kil_clr' w1 hd' I.2.2 q), fun q => kil_clr w1 hd' ((kil_swp hdl hi).mpr q)⟩
theorem kil_red {p : Int} {n : Nat} {M : Mx} {x : Ro} (hp : 1 < p) (hI : HasInv p) (w : WF p n M) : ∀ k, Kil p n (red p M k).R x ↔ Kil p n M x
  | 0 => Iff.rfl
  | k + 1 => (kil_stp hp hI (good_red hp hI w k)).trans (kil_red hp hI w k)
/-! the rows of the kernel -/
def vecT (p : Int) (R : Mx) (S : List Nat) (n f : Nat) : Nat → Ro
  | 0 => (List.replicate n (0 : Int)).set f 1
  | t + 1 => (vecT p R S n f t).set (S.getD t 0) (-(ent R t f) % p)
def frees (n : Nat) (S : List Nat) : List Nat := (List.range n).filter fun k => !decide (k ∈ S)
noncomputable def kerM (p : Int) (M : Mx) (n : Nat) : Mx := (frees n (red p M n).S).map fun f => vecT p (red p M n).R (red p M n).S n f (red p M n).d
noncomputable def ker (p : Int) (M : Mx) (n : Nat) : Mx := (red p (kerM p M n) n).R.take (red p (kerM p M n) n).d
theorem len_vecT {p : Int} {R : Mx} {S : List Nat} {n f : Nat} : ∀ t, (vecT p R S n f t).length = n
  | 0 => by simp [vecT]
  | t + 1 => by simp [vecT, len_vecT t]
theorem nth_set {r : Ro} {i j : Nat} {y : Int} (h : i < r.length) : nth (r.set i y) j = if j = i then y else nth r j := by
  unfold nth
  rw [List.getD_eq_getElem?_getD, List.getD_eq_getElem?_getD, List.getElem?_set]
  by_cases e : i = j
  · subst e; simp [h]
  · simp [e, Ne.symm e]
theorem wf_vecT {p : Int} (hp : 1 < p) {R : Mx} {S : List Nat} {n f : Nat} : ∀ t, ∀ x ∈ vecT p R S n f t, 0 ≤ x ∧ x < p
  | 0 => fun x hx => by
    rcases List.mem_or_eq_of_mem_set hx with q | q
    · rw [(List.mem_replicate.mp q).2]; omega
    · omega
  | t + 1 => fun x hx => by
    rcases List.mem_or_eq_of_mem_set hx with q | q
    · exact wf_vecT hp t x q
    · rw [q]; exact ⟨Int.emod_nonneg _ (by omega), Int.emod_lt_of_pos _ (by omega)⟩
theorem wf_kerM {p : Int} (hp : 1 < p) {M : Mx} {n : Nat} : WF p n (kerM p M n) := fun r hr => by
  obtain ⟨f, _, rfl⟩ := List.mem_map.mp hr
  exact ⟨len_vecT _, wf_vecT hp _⟩
theorem S_at {S : List Nat} {t : Nat} (h : t < S.length) : S[t]? = some (S.getD t 0) := by rw [getD_lt h, List.getElem?_eq_getElem h]
theorem vec_kil {p : Int} {n : Nat} {s : Sta} {f : Nat} (g : Good p n n s) (hf : f < n) (hS : f ∉ s.S) : Kil p n s.R (vecT p s.R s.S n f s.d) := by
  have inj : ∀ a b, a < s.d → b < s.d → s.S.getD a 0 = s.S.getD b 0 → a = b := fun a b ha hb e => by
    have dl := g.dl
    have h1 := S_at (S := s.S) (t := a) (by omega)
    have h2 := S_at (S := s.S) (t := b) (by omega)
    have q1 := g.one a _ h1 a (by have := g.dr; omega)
    have q2 := g.one b _ h2 a (by have := g.dr; omega)
    rw [← e, q1, if_pos rfl] at q2
    by_cases z : a = b
    · exact z
    · rw [if_neg z] at q2; cases q2
  have nf : ∀ a, a < s.d → s.S.getD a 0 ≠ f := fun a ha e => hS (by rw [← e]; exact List.mem_of_getElem? (S_at (by have := g.dl; omega)))
  have Sn : ∀ a, a < s.d → s.S.getD a 0 < n := fun a ha => g.lt _ (List.mem_of_getElem? (S_at (by have := g.dl; omega)))
  -- the places that are still nought
  have z : ∀ t, t ≤ s.d → ∀ a, t ≤ a → a < s.d → nth (vecT p s.R s.S n f t) (s.S.getD a 0) = 0 := by
    intro t
    induction t with
    | zero =>
      intro _ a _ ha
      show nth ((List.replicate n (0 : Int)).set f 1) _ = 0
      rw [nth_set (by simpa using hf), if_neg (nf a ha)]
      unfold nth
      rw [List.getD_eq_getElem?_getD, List.getElem?_replicate]
      split <;> rfl
    | succ t ih =>
      intro ht a h1 h2
      show nth ((vecT p s.R s.S n f t).set _ _) _ = 0
      rw [nth_set (by rw [len_vecT]; exact Sn t (by omega)), if_neg (fun e => by have := inj a t h2 (by omega) e; omega)]
      exact ih (by omega) a (by omega) h2
  have main : ∀ i, i < s.R.length → ∀ t, t ≤ s.d → dot n (row s.R i) (vecT p s.R s.S n f t) = ent s.R i f + if i < t then -(ent s.R i f) % p else 0 := by
    intro i hi t
    induction t with
    | zero =>
      intro _
      rw [if_neg (Nat.not_lt_zero _), Int.add_zero]
      have e0 : dot n (row s.R i) (List.replicate n (0 : Int)) = 0 := sumTo_zero fun k hk => by
        have : nth (List.replicate n (0 : Int)) k = 0 := by
          unfold nth
          rw [List.getD_eq_getElem?_getD, List.getElem?_replicate]
          split <;> rfl
        rw [this, Int.mul_zero]
      have e1 : dot n (row s.R i) ((List.replicate n (0 : Int)).set f 1) = _ := sumTo_upd (f := fun k => nth (row s.R i) k * nth (List.replicate n (0 : Int)) k) (i := f) (fun k hk hne => by
        show nth (row s.R i) k * nth ((List.replicate n (0 : Int)).set f 1) k = _
        rw [nth_set (by simpa using hf), if_neg hne]) hf
      show dot n (row s.R i) ((List.replicate n (0 : Int)).set f 1) = _
      rw [e1]
      show dot n (row s.R i) (List.replicate n (0 : Int)) + (nth (row s.R i) f * nth ((List.replicate n (0 : Int)).set f 1) f - nth (row s.R i) f * nth (List.replicate n (0 : Int)) f) = _
      have : nth (List.replicate n (0 : Int)) f = 0 := by
        unfold nth
        rw [List.getD_eq_getElem?_getD, List.getElem?_replicate]
        split <;> rfl
      rw [e0, nth_set (by simpa using hf), if_pos rfl, this]
      unfold ent
      omega
    | succ t ih =>
      intro ht
      have h0 := ih (by omega)
      have hS := S_at (S := s.S) (t := t) (by have := g.dl; omega)
      have e1 : dot n (row s.R i) ((vecT p s.R s.S n f t).set (s.S.getD t 0) (-(ent s.R t f) % p)) = _ := sumTo_upd (f := fun k => nth (row s.R i) k * nth (vecT p s.R s.S n f t) k) (i := s.S.getD t 0) (fun k hk hne => by
        show nth (row s.R i) k * nth ((vecT p s.R s.S n f t).set _ _) k = _
        rw [nth_set (by rw [len_vecT]; exact Sn t (by omega)), if_neg hne]) (Sn t (by omega))
      show dot n (row s.R i) ((vecT p s.R s.S n f t).set (s.S.getD t 0) (-(ent s.R t f) % p)) = _
      rw [e1]
      show dot n (row s.R i) (vecT p s.R s.S n f t) + (ent s.R i (s.S.getD t 0) * nth ((vecT p s.R s.S n f t).set _ _) (s.S.getD t 0) - ent s.R i (s.S.getD t 0) * nth (vecT p s.R s.S n f t) (s.S.getD t 0)) = _
      rw [h0, nth_set (by rw [len_vecT]; exact Sn t (by omega)), if_pos rfl, z t (by omega) t (Nat.le_refl _) (by omega), g.one t _ hS i hi]
      by_cases e : i = t
      · subst e
        rw [if_pos rfl, if_neg (Nat.lt_irrefl _), if_pos (Nat.lt_succ_self _)]; omega
      · rw [if_neg e]
        by_cases c : i < t
        · rw [if_pos c, if_pos (by omega)]; omega
        · rw [if_neg c, if_neg (by omega)]; omega
  intro i hi
  rw [main i hi s.d (Nat.le_refl _)]
  by_cases c : i < s.d
  · rw [if_pos c]
    have := near_mod (p := p) (x := -(ent s.R i f))
    rw [show ent s.R i f + -(ent s.R i f) % p = -(ent s.R i f) % p - -(ent s.R i f) by omega]
    exact this
  · rw [if_neg c, g.low i (by omega) hi f hf]
    exact Int.dvd_zero p
/-- the kernel's rows are made nought by the matrix -/
theorem ker_kil {p : Int} {n : Nat} {M : Mx} (hp : 1 < p) (hI : HasInv p) (w : WF p n M) {v m : Ro} (hv : v ∈ ker p M n) (hm : m ∈ M) : p ∣ dot n m v := by
  obtain ⟨j, hj, ej⟩ := mem_row hm
  have h1 : Kil p n (kerM p M n) m := fun i hi => by
    obtain ⟨f, hf, e⟩ := List.mem_map.mp (row_mem hi)
    have e : _ = row (kerM p M n) i := e
    rw [← e, dot_comm, ← ej]
    obtain ⟨f1, f2⟩ := List.mem_filter.mp hf
    exact (kil_red hp hI w n).mp (vec_kil (good_red hp hI w n) (List.mem_range.mp f1) (by simpa using f2)) j hj
  have h2 := (kil_red hp hI (wf_kerM hp (M := M)) n).mpr h1
  obtain ⟨i, hi, ei⟩ := mem_row (List.mem_of_mem_take hv)
  rw [← ei, dot_comm]
  exact h2 i hi
end Own


namespace Own
open PySem PySem.Spec PyProof.Rows L2
open Evl
/-! ### a list or a tuple, whatever it is -/
def SqA (K : PySem.W.Frag) (H : Hp) (a : Addr) (xs : List V) : Prop := SqL K H a xs ∨ SqT K H a xs
def iSeq (K : PySem.W.Frag) (te : TE) : TI := fun σ H R => iList K te σ H R ∨ iTup K te σ H R
theorem pi_seq {X : Cx} {tg e : Expr} {te : TE} (h : PE X e te) : PI X tg e (iSeq X.K te) := ⟨fun pins s σ H R I w => by
  rcases w with w | w
  · exact (pi_list h).run pins s σ H R I w
  · exact (pi_tup h).run pins s σ H R I w⟩
end Own
namespace Own
open PySem PySem.Spec PyProof.Rows L2
open Evl
section
variable {K : PySem.W.Frag} {σ : L2.St} {H H' : Hp} {te ta tb : TE} {x y z w : V} {D : Ends} {tz tu t : TS}
theorem s_par {i j : Nat} {ta : TA} (h : EvA ta σ H [x, y]) (k : ∀ H1, Ex H H1 → D.nx ((σ.set i (some x)).set j (some y)) H1) : tPar i j ta D σ H :=
  h H (.refl H) _ fun H1 e => ⟨x, y, rfl, k H1 e⟩
theorem q_par {i j : Nat} {ta : TA} (h : EvA ta σ H [x, y]) (k : ∀ H1, Ex H H1 → tz D ((σ.set i (some x)).set j (some y)) H1) : tSeq (tPar i j ta) tz D σ H := s_par (D := { D with nx := tz D }) h k
/-- a, b, c, d = .. -/
theorem s_tup4 {i j l m : Nat} {ta : TA} (h : EvA ta σ H [x, y, z, w]) (k : ∀ H1, Ex H H1 → D.nx ((((σ.set i (some x)).set j (some y)).set l (some z)).set m (some w)) H1) :
    tAsg (tTup ta) (gTup K 4 (gCons (gName i) (gCons (gName j) (gCons (gName l) (gCons (gName m) gNil))))) D σ H :=
  h H (.refl H) _ fun H1 e => ⟨by show 4 ≤ sizeLine; decide, fun p np => ⟨p, _, rfl, st_of upd_same, rfl, x, _, rfl, y, _, rfl, z, _, rfl, w, _, rfl, rfl, k _ (e.trans (Ex.new np))⟩⟩
theorem q_tup4 {i j l m : Nat} {ta : TA} (h : EvA ta σ H [x, y, z, w]) (k : ∀ H1, Ex H H1 → tz D ((((σ.set i (some x)).set j (some y)).set l (some z)).set m (some w)) H1) :
    tSeq (tAsg (tTup ta) (gTup K 4 (gCons (gName i) (gCons (gName j) (gCons (gName l) (gCons (gName m) gNil)))))) tz D σ H := s_tup4 (D := { D with nx := tz D }) h k
theorem ea_4 {tc td : TE} (h : Ev ta σ H x) (h2 : Ev tb σ H y) (h3 : Ev tc σ H z) (h4 : Ev td σ H w) : EvA (tCons ta (tCons tb (tCons tc (tCons td tNil)))) σ H [x, y, z, w] := ea_cons h (ea_3 h2 h3 h4)
theorem ev_gtV {i j : Int} (ha : Ev ta σ H (.int i)) (hb : Ev tb σ H (.int j)) : Ev (tOp rGtI ta tb) σ H (.bl (decide (j < i))) := ev_op ha hb rv_I0
/-- a, b = .. by a tuple -/
theorem s_tup2 {i j : Nat} {ta : TA} (h : EvA ta σ H [x, y]) (k : ∀ H1, Ex H H1 → D.nx ((σ.set i (some x)).set j (some y)) H1) : tAsg (tTup ta) (gTup K 2 (gCons (gName i) (gCons (gName j) gNil))) D σ H :=
  h H (.refl H) _ fun H1 e => ⟨by show 2 ≤ sizeLine; decide, fun p np => ⟨p, _, rfl, st_of upd_same, rfl, x, _, rfl, y, _, rfl, rfl, k _ (e.trans (Ex.new np))⟩⟩
theorem q_tup2 {i j : Nat} {ta : TA} (h : EvA ta σ H [x, y]) (k : ∀ H1, Ex H H1 → tz D ((σ.set i (some x)).set j (some y)) H1) : tSeq (tAsg (tTup ta) (gTup K 2 (gCons (gName i) (gCons (gName j) gNil)))) tz D σ H := s_tup2 (D := { D with nx := tz D }) h k
theorem ints_at {r : Ro} {i : Nat} (h : i < r.length) : (r.map V.int)[i]? = some (.int (nth r i)) := by
  unfold nth
  rw [getD_lt h, List.getElem?_map, List.getElem?_eq_getElem h]
  rfl
theorem ints_atI {r : Ro} {i : Nat} (h : i < r.length) : atI (r.map V.int) (i : Int) = some (.int (nth r i)) := atI_nat (ints_at h)
theorem row_range {r : Ro} {n : Nat} {f : Nat → Int} (hl : r.length = n) (h : ∀ i, i < n → f i = nth r i) : (List.range n).map (fun i => V.int (f i)) = r.map V.int := by
  apply List.ext_getElem?
  intro i
  by_cases c : i < n
  · rw [ints_at (by omega), List.getElem?_map, List.getElem?_range c]
    show some (V.int (f i)) = _
    rw [h i c]
  · rw [List.getElem?_eq_none (by simp; omega), List.getElem?_eq_none (by simp; omega)]
end
end Own


namespace Own
open PySem PySem.Spec PyProof.Rows L2
open Evl
/-! ### matrices: a list of lists that may change, a tuple of tuples, any lot of lots -/
def MLr (l : Addr) (refs : List Addr) (R : Mx) (H : Hp) : Prop := H l = some (.lst (refs.map V.ref)) ∧ refs.length = R.length ∧ ∀ i b, refs[i]? = some b → b ≠ l ∧ H b = some (.lst ((row R i).map V.int))
def MT (K : PySem.W.Frag) (t : Addr) (M : Mx) (H : Hp) : Prop := ∃ refs : List Addr, SqT K H t (refs.map V.ref) ∧ refs.length = M.length ∧ ∀ i b, refs[i]? = some b → SqT K H b ((row M i).map V.int)
def MS (K : PySem.W.Frag) (m : Addr) (M : Mx) (H : Hp) : Prop := ∃ refs : List Addr, SqA K H m (refs.map V.ref) ∧ refs.length = M.length ∧ ∀ i b, refs[i]? = some b → SqA K H b ((row M i).map V.int)
def ExB (l : Addr) (H H' : Hp) : Prop := ∀ b o, b ≠ l → H b = some o → H' b = some o
theorem ExB.ex {l : Addr} {H H' : Hp} (e : Ex H H') : ExB l H H' := fun b o _ h => e b o h
theorem ExB.trans {l : Addr} {H H1 H2 : Hp} (x : ExB l H H1) (y : ExB l H1 H2) : ExB l H H2 := fun b o n h => y b o n (x b o n h)
theorem ExB.upd {l : Addr} {H : Hp} {o : HO} : ExB l H (upd H l o) := fun b u n h => by rw [upd_ne n]; exact h
theorem ExB.to {l : Addr} {H0 H H' : Hp} (n : H0 l = none) (e : Ex H0 H) (x : ExB l H H') : Ex H0 H' := fun b o h => x b o (ne_of_none h n) (e b o h)
section
variable {K : PySem.W.Frag} {σ : L2.St} {H H' : Hp} {te ta tb tl : TE} {x y z w : V} {D : Ends} {tz tu t : TS} {R M : Mx} {l m : Addr} {refs : List Addr}
theorem ex_a {a : Addr} {xs : List V} (e : Ex H H') (h : SqA K H a xs) : SqA K H' a xs := h.imp (ex_l e) (ex_t e)
theorem MLr.ex (e : Ex H H') (h : MLr l refs R H) : MLr l refs R H' := ⟨e _ _ h.1, h.2.1, fun i b hb => ⟨(h.2.2 i b hb).1, e _ _ (h.2.2 i b hb).2⟩⟩
theorem MT.ex (e : Ex H H') (h : MT K m M H) : MT K m M H' := let ⟨r, h1, h2, h3⟩ := h; ⟨r, ex_t e h1, h2, fun i b hb => ex_t e (h3 i b hb)⟩
theorem MS.ex (e : Ex H H') (h : MS K m M H) : MS K m M H' := let ⟨r, h1, h2, h3⟩ := h; ⟨r, ex_a e h1, h2, fun i b hb => ex_a e (h3 i b hb)⟩
theorem MT.ms (h : MT K m M H) : MS K m M H := let ⟨r, h1, h2, h3⟩ := h; ⟨r, .inr h1, h2, fun i b hb => .inr (h3 i b hb)⟩
theorem MLr.ms (h : MLr l refs R H) : MS K l R H := ⟨refs, .inl (sq_of h.1), h.2.1, fun i b hb => .inl (sq_of (h.2.2 i b hb).2)⟩
theorem MLr.at (h : MLr l refs R H) {i : Nat} (hi : i < R.length) : ∃ b, refs[i]? = some b ∧ b ≠ l ∧ H b = some (.lst ((row R i).map V.int)) := by
  have : i < refs.length := by rw [h.2.1]; exact hi
  exact ⟨refs[i], List.getElem?_eq_getElem this, h.2.2 i _ (List.getElem?_eq_getElem this)⟩
theorem refs_at {i : Nat} {b : Addr} (h : refs[i]? = some b) : (refs.map V.ref)[i]? = some (.ref b) := by rw [List.getElem?_map, h]; rfl
theorem ev_row {i : Nat} {b : Addr} (hl : Ev ta σ H (.ref l)) (hi : Ev tb σ H (.int (i : Int))) (h : MLr l refs R H) (hb : refs[i]? = some b) : Ev (tOp (rIxL K) ta tb) σ H (.ref b) :=
  ev_ixL hl hi (sq_of h.1) (atI_nat (refs_at hb))
theorem ev_ent {i k : Nat} {tc : TE} (hl : Ev ta σ H (.ref l)) (hi : Ev tb σ H (.int (i : Int))) (hk : Ev tc σ H (.int (k : Int))) (h : MLr l refs R H) (h1 : i < R.length) (h2 : k < (row R i).length) :
    Ev (tOp (rIxL K) (tOp (rIxL K) ta tb) tc) σ H (.int (ent R i k)) := by
  obtain ⟨b, hb, _, hx⟩ := h.at h1
  exact ev_ixL (ev_row hl hi h hb) hk (sq_of hx) (ints_atI h2)
theorem MLr.set {i : Nat} {b : Addr} {r : Ro} (h : MLr l refs R H) (hi : i < R.length) (nb : b ≠ l) (hb : H b = some (.lst (r.map V.int))) : MLr l (refs.set i b) (R.set i r) (upd H l (.lst ((refs.map V.ref).set i (.ref b)))) := by
  refine ⟨by rw [upd_same, List.map_set], by simp [h.2.1], fun j c hc => ?_⟩
  rw [List.getElem?_set] at hc
  rw [row_set hi]
  by_cases e : i = j
  · subst e
    rw [if_pos rfl, if_pos (by rw [h.2.1]; exact hi)] at hc
    injection hc with hc
    subst hc
    exact ⟨nb, by rw [upd_ne nb, if_pos rfl]; exact hb⟩
  · rw [if_neg e] at hc
    rw [if_neg (Ne.symm e)]
    obtain ⟨n1, h1⟩ := h.2.2 j c hc
    exact ⟨n1, by rw [upd_ne n1]; exact h1⟩
theorem pv_found {d k i : Nat} (h1 : i < R.length) (h2 : d ≤ i) (h3 : ent R i k ≠ 0) (h4 : ∀ j, d ≤ j → j < i → ent R j k = 0) : pv R d k = some i := by
  unfold pv
  rw [List.find?_range_eq_some]
  refine ⟨by simp [h2, h3], List.mem_range.mpr h1, fun j hj => ?_⟩
  by_cases c : d ≤ j
  · simp [h4 j c hj]
  · simp [c]
theorem pv_not {d k : Nat} (h : ∀ j, d ≤ j → j < R.length → ent R j k = 0) : pv R d k = none := by
  cases e : pv R d k with
  | none => rfl
  | some i =>
    obtain ⟨h1, h2, h3⟩ := pv_some e
    exact absurd (h i h2 h1) h3
/-- l[j] = a new list -/
theorem s_setLL {xs ys : List V} {j : Nat} (hl : H l = some (.lst xs)) (h : EvL te σ H ys) (ho : ∀ H1, Ex H H1 → Ev ta σ H1 (.ref l)) (hi : ∀ H1, Ex H H1 → Ev tb σ H1 (.int (j : Int))) (hj : j < xs.length)
    (k : ∀ p H1, H p = none → Ex H H1 → H1 p = some (.lst ys) → D.nx σ (upd H1 l (.lst (xs.set j (.ref p))))) : tAsg te (gSub ta tb rSetL) D σ H :=
  h H (.refl H) _ fun p H1 hp e hx => ho H1 e H1 (.refl H1) _ fun H2 e2 => hi H2 (e.trans e2) H2 (.refl H2) _ fun H3 e3 => ⟨l, xs, (j : Int), j, rfl, rfl, ((e.trans e2).trans e3) l _ hl, ixN_nat hj, k p H3 hp ((e.trans e2).trans e3) (e3 p _ (e2 p _ hx))⟩
/-- swapping two rows -/
theorem s_swap {i d : Nat} {bi bd : Addr} (h : MLr l refs R H) (hi : i < R.length) (hd : d < R.length) (hbi : refs[i]? = some bi) (hbd : refs[d]? = some bd) {s0 s1 : TE}
    (e0 : ∀ H1, Ev s0 σ H1 (.ref l)) (e1 : ∀ H1, Ev s1 σ H1 (.int (d : Int))) {ti : TE} {ta : TA} (ha : EvA ta σ H [.ref bi, .ref bd]) (e3 : ∀ H1, ExB l H H1 → Ev ti σ H1 (.int (i : Int)))
    (k : ∀ refs1 H1, ExB l H H1 → MLr l refs1 (swp R d i) H1 → D.nx σ H1) :
    tAsg (tTup ta) (gTup K 2 (gCons (gSub s0 s1 rSetL) (gCons (gSub s0 ti rSetL) gNil))) D σ H := by
  refine ha H (.refl H) _ fun H1 x1 => ⟨by show 2 ≤ sizeLine; decide, fun p np => ⟨p, _, rfl, st_of upd_same, rfl, _, _, rfl, ?_⟩⟩
  have x2 : Ex H (upd H1 p (.tup [.ref bi, .ref bd])) := x1.trans (Ex.new np)
  generalize upd H1 p (.tup [.ref bi, .ref bd]) = H2 at x2
  refine e0 H2 H2 (.refl H2) _ fun H3 x3 => e1 H3 H3 (.refl H3) _ fun H4 x4 => ?_
  have E4 := (x2.trans x3).trans x4
  have h4 := h.ex E4
  refine ⟨l, _, _, d, rfl, rfl, h4.1, ixN_nat (by rw [List.length_map, h.2.1]; exact hd), ?_⟩
  obtain ⟨ni, hxi⟩ := h4.2.2 i bi hbi
  obtain ⟨nd, hxd⟩ := h4.2.2 d bd hbd
  have h5 := h4.set hd ni hxi
  have b5 : ExB l H (upd H4 l (.lst ((refs.map V.ref).set d (.ref bi)))) := (ExB.ex E4).trans ExB.upd
  have hxd5 : (upd H4 l (.lst ((refs.map V.ref).set d (.ref bi)))) bd = some (.lst ((row R d).map V.int)) := by rw [upd_ne nd]; exact hxd
  generalize upd H4 l (.lst ((refs.map V.ref).set d (.ref bi))) = H5 at h5 b5 hxd5
  refine ⟨_, _, rfl, ?_⟩
  refine e0 H5 H5 (.refl H5) _ fun H6 x6 => ?_
  refine e3 H6 (b5.trans (.ex x6)) H6 (.refl H6) _ fun H7 x7 => ?_
  have E7 := x6.trans x7
  have h7 := h5.ex E7
  refine ⟨l, _, _, i, rfl, rfl, h7.1, ixN_nat (by simp [h.2.1]; exact hi), ?_⟩
  have h8 := h7.set (i := i) (by simpa using hi) nd (E7 _ _ hxd5)
  exact ⟨rfl, k _ _ ((b5.trans (.ex E7)).trans ExB.upd) h8⟩
/-! comprehensions whose items are new lists or tuples -/
def EvH (te : TE) (σ : L2.St) (H : Hp) (o : HO) : Prop := ∀ H1, Ex H H1 → ∀ Q : VK, (∀ p H2, H1 p = none → Ex H1 H2 → H2 p = some o → Q (.ref p) H2) → te σ H1 Q
def EvN (te : TE) (σ : L2.St) (H : Hp) (P : Addr → Hp → Prop) : Prop := ∀ H1, Ex H H1 → ∀ Q : VK, (∀ l H2, H1 l = none → Ex H1 H2 → P l H2 → Q (.ref l) H2) → te σ H1 Q
def LsO (n : Nat) (o : Nat → HO) : Addr → Hp → Prop := fun l H => ∃ refs : List Addr, H l = some (.lst (refs.map V.ref)) ∧ refs.length = n ∧ ∀ i b, refs[i]? = some b → b ≠ l ∧ H b = some (o i)
theorem yesT {A B : Hp → Prop} (h : A H) : tYes σ H fun b H3 => if b = true then A H3 else B H3 := by
  show (if true = true then A H else B H)
  rw [if_pos rfl]
  exact h
theorem lcN {J : It} {n : Nat} {xs : List V} {o : Nat → HO} {j : Nat} {vs : List Nat} {H1 : Hp} {Qd : Addr → Hp → Prop} (G : Hp → Prop) (w : Walk J n G (YAt xs)) (hG : ∀ H', Ex H1 H' → G H') (hn : n ≤ 40000) (hw : ∀ x, wipe ((wipe σ vs).set j (some x)) vs = wipe σ vs)
    (he : ∀ i x H', Ex H1 H' → xs[i]? = some x → i < n → EvH te ((wipe σ vs).set j (some x)) H' (o i)) {Dl : Addr} (hD : H1 Dl = none) (hd : ∀ H', Ex H1 H' → LsO n o Dl H' → Qd Dl H') :
    ∃ W : Nat → Nat → Hp → Prop, (∃ m, W 0 m (upd H1 Dl (.lst []))) ∧ ∀ i m H, W i m H →
      (J.stop i H ∧ Qd Dl H) ∨ (J.go i H ∧ ∃ Nx : Hp → Prop, (∀ H', Nx H' → ∃ m', m' < m ∧ W (i + 1) m' H') ∧ ∀ x H', J.yld i H x H' → gName j x (wipe σ vs) H' fun σ2 H2 => wipe σ2 vs = wipe σ vs ∧ tYes σ2 H2 fun b H3 =>
        if b = true then te σ2 H3 fun y H4 => ∃ acc, H4 Dl = some (.lst acc) ∧ acc.length < sizeLine ∧ Nx (upd H4 Dl (.lst (acc ++ [y]))) else Nx H3) :=
  lc_it w (fun i H' => Ex H1 H' ∧ LsO i o Dl H') ⟨Ex.new hD, [], upd_same, rfl, fun i y h => by simp at h⟩ (fun i H' _ p => hG H' p.1)
    (fun i x H2 H3 hi => by
      rintro ⟨e2, rs, hy, hl, hp⟩ ⟨e3, hx⟩
      subst e3
      refine ⟨hw x, ?_⟩
      refine yesT ?_
      refine he i x H3 e2 hx hi H3 (.refl H3) _ fun p H4 np u4 hpo => ⟨rs.map V.ref, u4 _ _ hy, sz_lt (by rw [List.length_map]; omega), Ex.mut (e2.trans u4) hD, rs ++ [p], by rw [upd_same]; simp, by simp [hl], fun m b hm => ?_⟩
      have npD : p ≠ Dl := fun z => by rw [z, hy] at np; cases np
      by_cases c : m < rs.length
      · rw [List.getElem?_append_left c] at hm
        obtain ⟨n1, h1⟩ := hp m b hm
        exact ⟨n1, by rw [upd_ne n1]; exact u4 _ _ h1⟩
      · rw [List.getElem?_append_right (by omega)] at hm
        have z : m - rs.length = 0 := by
          refine Nat.eq_zero_of_not_pos fun q => ?_
          rw [List.getElem?_eq_none (by simp; omega)] at hm
          cases hm
        rw [z] at hm
        simp at hm
        subst hm
        have : m = i := by omega
        subst this
        exact ⟨npD, by rw [upd_ne npD]; exact hpo⟩)
    (fun H' p => hd H' p.1 p.2)
theorem en_lcT {a : Addr} {xs : List V} {o : Nat → HO} {j : Nat} {vs : List Nat} (h : Ev tl σ H (.ref a)) (hx : SqT K H a xs) (hn : xs.length ≤ 40000) (hw : ∀ x, wipe ((wipe σ vs).set j (some x)) vs = wipe σ vs)
    (he : ∀ i x H', Ex H H' → xs[i]? = some x → i < xs.length → EvH te ((wipe σ vs).set j (some x)) H' (o i)) : EvN (tLc (iTup K tl) (gName j) tYes te vs) σ H (LsO xs.length o) :=
  fun H0 e Q q => h H0 e _ fun H1 e1 => ⟨a, rfl, ⟨xs, ex_t (e.trans e1) hx⟩, fun Dl hD => lcN (Qd := fun l H => Q (.ref l) H) _ walk_tup (fun H' e' => ex_t ((e.trans e1).trans e') hx) hn hw (fun i x H' e' hx hi => he i x H' ((e.trans e1).trans e') hx hi) hD (fun H' e' p => q Dl H' (fresh_back e1 hD) (e1.trans e') p)⟩
theorem en_lcL {a : Addr} {xs : List V} {o : Nat → HO} {j : Nat} {vs : List Nat} (h : Ev tl σ H (.ref a)) (hx : SqL K H a xs) (hn : xs.length ≤ 40000) (hw : ∀ x, wipe ((wipe σ vs).set j (some x)) vs = wipe σ vs)
    (he : ∀ i x H', Ex H H' → xs[i]? = some x → i < xs.length → EvH te ((wipe σ vs).set j (some x)) H' (o i)) : EvN (tLc (iList K tl) (gName j) tYes te vs) σ H (LsO xs.length o) :=
  fun H0 e Q q => h H0 e _ fun H1 e1 => ⟨a, rfl, ⟨xs, ex_l (e.trans e1) hx⟩, fun Dl hD => lcN (Qd := fun l H => Q (.ref l) H) _ walk_list (fun H' e' => ex_l ((e.trans e1).trans e') hx) hn hw (fun i x H' e' hx hi => he i x H' ((e.trans e1).trans e') hx hi) hD (fun H' e' p => q Dl H' (fresh_back e1 hD) (e1.trans e') p)⟩
theorem en_lcS {a : Addr} {xs : List V} {o : Nat → HO} {j : Nat} {vs : List Nat} (h : Ev tl σ H (.ref a)) (hx : SqA K H a xs) (hn : xs.length ≤ 40000) (hw : ∀ x, wipe ((wipe σ vs).set j (some x)) vs = wipe σ vs)
    (he : ∀ i x H', Ex H H' → xs[i]? = some x → i < xs.length → EvH te ((wipe σ vs).set j (some x)) H' (o i)) : EvN (tLc (iSeq K tl) (gName j) tYes te vs) σ H (LsO xs.length o) := fun H0 e Q q => by
  rcases hx with hx | hx
  · exact .inl (en_lcL h hx hn hw he H0 e Q q)
  · exact .inr (en_lcT h hx hn hw he H0 e Q q)
theorem en_lcNL {xs : List V} {o : Nat → HO} {j : Nat} {vs : List Nat} (h : EvL tl σ H xs) (hn : xs.length ≤ 40000) (hw : ∀ x, wipe ((wipe σ vs).set j (some x)) vs = wipe σ vs)
    (he : ∀ i x H', Ex H H' → xs[i]? = some x → i < xs.length → EvH te ((wipe σ vs).set j (some x)) H' (o i)) : EvN (tLc (iList K tl) (gName j) tYes te vs) σ H (LsO xs.length o) :=
  fun H0 e Q q => h H0 e _ fun a H1 ha e1 hx => ⟨a, rfl, ⟨xs, sq_of hx⟩, fun Dl hD => lcN (Qd := fun l H => Q (.ref l) H) _ walk_list (fun H' e' => ex_l e' (sq_of (K := K) hx)) hn hw (fun i x H' e' hx hi => he i x H' ((e.trans e1).trans e') hx hi) hD (fun H' e' p => q Dl H' (fresh_back e1 hD) (e1.trans e') p)⟩
theorem en_lcR {ta : TA} {n : Int} {o : Nat → HO} {j : Nat} {vs : List Nat} (h : EvA ta σ H [.int n]) (hn : 0 ≤ n ∧ n ≤ 40000) (hw : ∀ x, wipe ((wipe σ vs).set j (some x)) vs = wipe σ vs)
    (he : ∀ (i : Nat) H', Ex H H' → (i : Int) < n → EvH te ((wipe σ vs).set j (some (.int (i : Int)))) H' (o i)) : EvN (tLc (iRng1 ta) (gName j) tYes te vs) σ H (LsO n.toNat o) :=
  fun H0 e Q q => h H0 e _ fun H1 e1 => ⟨n, rfl, by omega, by omega, fun Dl hD => by
    have w : Walk (Itr 0 n.toNat) n.toNat (fun _ => True) (YAt ((List.range n.toNat).map fun (i : Nat) => V.int (i : Int))) := walk_range.mono (fun _ h => h) fun i H x H' hi _ y => ⟨y.1, by rw [y.2, List.getElem?_map, List.getElem?_range hi]; show _ = some (V.int ((0 : Int) + (i : Int))); rw [Int.zero_add]; rfl⟩
    exact lcN (Qd := fun l H => Q (.ref l) H) _ w (fun _ _ => trivial) (by omega) hw (fun i x H' e' hx hi => by
      rw [List.getElem?_map, List.getElem?_range hi] at hx
      injection hx with hx
      rw [← hx]
      exact he i H' ((e.trans e1).trans e') (by omega)) hD (fun H' e' p => q Dl H' (fresh_back e1 hD) (e1.trans e') p)⟩
/-- list(a lot) -/
theorem eh_list {a : Addr} {xs : List V} (h : Ev te σ H (.ref a)) (hx : SqA K H a xs) : EvH (tCB (rListOf K) (tCons te tNil)) σ H (.lst xs) :=
  fun H0 e Q q => h H0 e _ fun H1 e1 => ⟨a, xs, rfl, ex_a (e.trans e1) hx, fun l hl => q l _ (fresh_back e1 hl) (e1.trans (Ex.new hl)) upd_same⟩
/-- tuple(a list) -/
theorem eh_tup {a : Addr} {xs : List V} (h : Ev te σ H (.ref a)) (hx : SqL K H a xs) : EvH (tCB (rTupOf K) (tCons te tNil)) σ H (.tup xs) :=
  fun H0 e Q q => h H0 e _ fun H1 e1 => ⟨a, xs, rfl, .inl ⟨ex_l (e.trans e1) hx, fun l hl => q l _ (fresh_back e1 hl) (e1.trans (Ex.new hl)) upd_same⟩⟩
theorem eh_tupN {xs : List V} (h : EvL te σ H xs) : EvH (tCB (rTupOf K) (tCons te tNil)) σ H (.tup xs) :=
  fun H0 e Q q => h H0 e _ fun p H1 hp e1 hx => ⟨p, xs, rfl, .inl ⟨sq_of hx, fun l hl => q l _ (fresh_back e1 hl) (e1.trans (Ex.new hl)) upd_same⟩⟩
/-- tuple(a list of rows) -/
theorem en_tup {n : Nat} {M : Mx} (h : EvN te σ H (LsO n fun i => .tup ((row M i).map V.int))) (hn : n = M.length) : EvN (tCB (rTupOf K) (tCons te tNil)) σ H (fun t H' => MT K t M H') :=
  fun H0 e Q q => h H0 e _ fun l H1 hl e1 ⟨refs, h1, h2, h3⟩ => ⟨l, _, rfl, .inl ⟨sq_of h1, fun t nt => q t _ (fresh_back e1 nt) (e1.trans (Ex.new nt)) ⟨refs, st_of upd_same, by omega, fun i b hb => ex_t (Ex.new nt) (st_of (h3 i b hb).2)⟩⟩⟩
/-- over zip, of numbers told by the turn -/
theorem el_lcZ {t1 t2 : Bool} {ta : TA} {a b : Addr} {xs ys : List V} {i j : Nat} {vs : List Nat} (v : Nat → V) (h : EvA ta σ H [.ref a, .ref b]) (hx : SqB t1 K H a xs) (hy : SqB t2 K H b ys) (hl : xs.length = ys.length) (hn : xs.length ≤ 40000)
    (hw : ∀ x y, wipe (((wipe σ vs).set i (some x)).set j (some y)) vs = wipe σ vs) (sB : ∀ t a xs (H' : Hp), Ex H H' → SqB t K H a xs → SqB t K H' a xs)
    (he : ∀ m x y H1, Ex H H1 → xs[m]? = some x → ys[m]? = some y → Ev te (((wipe σ vs).set i (some x)).set j (some y)) H1 (v m)) : EvL (tLc (iZipB t1 t2 K ta) (gTup K 2 (gCons (gName i) (gCons (gName j) gNil))) tYes te vs) σ H ((List.range xs.length).map v) :=
  fun H0 e Q q => h H0 e _ fun H1 e1 => ⟨a, b, xs, ys, rfl, sB _ _ _ _ (e.trans e1) hx, sB _ _ _ _ (e.trans e1) hy, fun Dl hD =>
    lc_it (n := xs.length) (walk_zipB (by omega)) (fun i H' => H1 Dl = none ∧ Ex H1 H' ∧ H' Dl = some (.lst ((List.range i).map v))) ⟨hD, Ex.new hD, upd_same⟩ (fun m H' _ p => ⟨sB _ _ _ _ ((e.trans e1).trans p.2.1) hx, sB _ _ _ _ ((e.trans e1).trans p.2.1) hy⟩)
      (fun m z H2 H3 hm => by
        rintro ⟨p1, p2, p3⟩ ⟨T, x, y, rfl, hT, rfl, h1, h2⟩
        have nT : Dl ≠ T := fun z => by rw [z, hT] at p3; cases p3
        refine ⟨T, _, rfl, st_of upd_same, rfl, x, _, rfl, y, _, rfl, rfl, hw x y, ?_⟩
        refine yesT ?_
        have e2 : Ex H1 (upd H2 T (.tup [x, y])) := p2.trans (Ex.new hT)
        refine he m x y _ ((e.trans e1).trans e2) h1 h2 _ (.refl _) _ fun H4 e4 => ⟨_, e4 _ _ (by rw [upd_ne nT]; exact p3), sz_lt (by simp; omega), p1, Ex.mut (e2.trans e4) p1, ?_⟩
        rw [upd_same, List.range_succ, List.map_append]
        rfl)
      (fun H' p => q Dl H' (fresh_back e1 p.1) (e1.trans p.2.1) p.2.2)⟩
theorem ex_B {t : Bool} {a : Addr} {xs : List V} (e : Ex H H') (h : SqB t K H a xs) : SqB t K H' a xs := by
  cases t
  · exact ex_l e h
  · exact ex_t e h
theorem q_asgN {i : Nat} {P : Addr → Hp → Prop} (h : EvN te σ H P) (k : ∀ l H1, H l = none → Ex H H1 → P l H1 → tz D (σ.set i (some (.ref l))) H1) : tSeq (tAsg te (gName i)) tz D σ H := h H (.refl H) _ k
theorem s_retN {P : Addr → Hp → Prop} (h : EvN te σ H P) (k : ∀ l H1, H l = none → Ex H H1 → P l H1 → D.rt (.ref l) H1) : tRet te D σ H := h H (.refl H) _ k
end
end Own


namespace Own
open PySem PySem.Spec PyProof.Rows L2
open Evl
section
variable {K : PySem.W.Frag} {σ : L2.St} {H H' : Hp} {te ta tb tl : TE} {x y z w : V} {D : Ends} {tz tu t : TS} {R M : Mx} {l m : Addr} {refs : List Addr}
/-- for i, x in enumerate(xs) -/
theorem s_forE {b : Bool} {ta : TA} {a : Addr} {xs : List V} {i j : Nat} (h : EvA ta σ H [.ref a]) (hx : SqB b K H a xs) (Pv : Nat → L2.St → Hp → Prop) (h0 : ∀ H1, Ex H H1 → Pv 0 σ H1) (hG : ∀ m σ' H', Pv m σ' H' → SqB b K H' a xs)
    (hs : ∀ m x σ' H' H2, xs[m]? = some x → Pv m σ' H' → Ex H' H2 → tu { D with nx := Pv (m + 1), ct := Pv (m + 1), bk := D.nx } ((σ'.set i (some (.int (m : Int)))).set j (some x)) H2) (hd : ∀ σ' H', Pv xs.length σ' H' → D.nx σ' H') :
    tFor (iEnumB b K ta) (gTup K 2 (gCons (gName i) (gCons (gName j) gNil))) tu D σ H :=
  h H (.refl H) _ fun H1 e1 => ⟨a, xs, rfl, ex_B e1 hx, for_it walk_enumB Pv (h0 H1 e1) (fun m σ' H' _ p => hG m σ' H' p)
    (fun m v σ' H2 H3 hm p => by
      rintro ⟨T, x, y, rfl, hT, rfl, h1, h2⟩
      injection h1 with h1
      subst h1
      exact ⟨T, _, rfl, st_of upd_same, rfl, _, _, rfl, y, _, rfl, rfl, hs m y σ' H2 _ h2 p (Ex.new hT)⟩) hd⟩
theorem q_forE {b : Bool} {ta : TA} {a : Addr} {xs : List V} {i j : Nat} (h : EvA ta σ H [.ref a]) (hx : SqB b K H a xs) (Pv : Nat → L2.St → Hp → Prop) (h0 : ∀ H1, Ex H H1 → Pv 0 σ H1) (hG : ∀ m σ' H', Pv m σ' H' → SqB b K H' a xs)
    (hs : ∀ m x σ' H' H2, xs[m]? = some x → Pv m σ' H' → Ex H' H2 → tu { D with nx := Pv (m + 1), ct := Pv (m + 1), bk := tz D } ((σ'.set i (some (.int (m : Int)))).set j (some x)) H2) (hd : ∀ σ' H', Pv xs.length σ' H' → tz D σ' H') :
    tSeq (tFor (iEnumB b K ta) (gTup K 2 (gCons (gName i) (gCons (gName j) gNil))) tu) tz D σ H := s_forE (D := { D with nx := tz D }) h hx Pv h0 hG hs hd
/-- for x, y in zip(xs, ys), of one length -/
theorem s_forZ {b1 b2 : Bool} {ta : TA} {a c : Addr} {xs ys : List V} {i j : Nat} (h : EvA ta σ H [.ref a, .ref c]) (hx : SqB b1 K H a xs) (hy : SqB b2 K H c ys) (hl : xs.length = ys.length) (Pv : Nat → L2.St → Hp → Prop) (h0 : ∀ H1, Ex H H1 → Pv 0 σ H1)
    (hG : ∀ m σ' H', Pv m σ' H' → SqB b1 K H' a xs ∧ SqB b2 K H' c ys)
    (hs : ∀ m x y σ' H' H2, xs[m]? = some x → ys[m]? = some y → Pv m σ' H' → Ex H' H2 → tu { D with nx := Pv (m + 1), ct := Pv (m + 1), bk := D.nx } ((σ'.set i (some x)).set j (some y)) H2) (hd : ∀ σ' H', Pv xs.length σ' H' → D.nx σ' H') :
    tFor (iZipB b1 b2 K ta) (gTup K 2 (gCons (gName i) (gCons (gName j) gNil))) tu D σ H :=
  h H (.refl H) _ fun H1 e1 => ⟨a, c, xs, ys, rfl, ex_B e1 hx, ex_B e1 hy, for_it (walk_zipB (n := xs.length) (by omega)) Pv (h0 H1 e1) (fun m σ' H' _ p => hG m σ' H' p)
    (fun m v σ' H2 H3 hm p => by
      rintro ⟨T, x, y, rfl, hT, rfl, h1, h2⟩
      exact ⟨T, _, rfl, st_of upd_same, rfl, x, _, rfl, y, _, rfl, rfl, hs m x y σ' H2 _ h1 h2 p (Ex.new hT)⟩) hd⟩
theorem q_forZ {b1 b2 : Bool} {ta : TA} {a c : Addr} {xs ys : List V} {i j : Nat} (h : EvA ta σ H [.ref a, .ref c]) (hx : SqB b1 K H a xs) (hy : SqB b2 K H c ys) (hl : xs.length = ys.length) (Pv : Nat → L2.St → Hp → Prop) (h0 : ∀ H1, Ex H H1 → Pv 0 σ H1)
    (hG : ∀ m σ' H', Pv m σ' H' → SqB b1 K H' a xs ∧ SqB b2 K H' c ys)
    (hs : ∀ m x y σ' H' H2, xs[m]? = some x → ys[m]? = some y → Pv m σ' H' → Ex H' H2 → tu { D with nx := Pv (m + 1), ct := Pv (m + 1), bk := tz D } ((σ'.set i (some x)).set j (some y)) H2) (hd : ∀ σ' H', Pv xs.length σ' H' → tz D σ' H') :
    tSeq (tFor (iZipB b1 b2 K ta) (gTup K 2 (gCons (gName i) (gCons (gName j) gNil))) tu) tz D σ H := s_forZ (D := { D with nx := tz D }) h hx hy hl Pv h0 hG hs hd
/-- a call that returns something new -/
def SpN (sp : Sp) (vs : List V) (H : Hp) (P : Addr → Hp → Prop) : Prop := ∀ H1, Ex H H1 → ∀ Q : VK, (∀ l H2, H1 l = none → Ex H1 H2 → P l H2 → Q (.ref l) H2) → ∀ E : XK, sp vs H1 Q E
theorem en_call {sp : Sp} {vs : List V} {E : XK} {ta : TA} {P : Addr → Hp → Prop} (h : EvA ta σ H vs) (hs : SpN sp vs H P) : EvN (tCall sp [] E ta) σ H P := fun H1 e Q q =>
  h H1 e _ fun H2 e2 => by rw [List.append_nil]; exact hs H2 (e.trans e2) Q (fun l H3 hl e3 p => q l H3 (fresh_back e2 hl) (e2.trans e3) p) E
/-- [e] * k -/
theorem rep_one {v : V} : ∀ k : Nat, (List.replicate k [v]).flatten = List.replicate k v
  | 0 => rfl
  | k + 1 => by rw [List.replicate_succ, List.flatten_cons, rep_one k, List.replicate_succ]; rfl
theorem el_rep {v : V} {k : Int} (h : Ev te σ H v) (hk : Ev tb σ H (.int k)) (h0 : 0 ≤ k) (h1 : k ≤ 1000) : EvL (tOp rRep (tLst (tCons te tNil)) tb) σ H (List.replicate k.toNat v) := fun H1 e Q q =>
  (el_lst (ea_1 h) (by show 1 ≤ 100000; decide)) H1 e _ fun p H2 hp e2 hx => hk H2 (e.trans e2) _ fun H3 e3 => ⟨p, k, [v], rfl, rfl, e3 _ _ hx, by omega, by omega, sz_of (by show 1 * k.toNat ≤ 100000; omega), fun r hr => by
    rw [rep_one]
    exact q r _ (fresh_back (e2.trans e3) hr) ((e2.trans e3).trans (Ex.new hr)) upd_same⟩
theorem rep_ints {k : Nat} : List.replicate k (V.int 0) = (List.replicate k (0 : Int)).map V.int := by rw [List.map_replicate]
def ofN (S : List Nat) : List V := S.map fun (s : Nat) => V.int (s : Int)
theorem inV_nat {f : Nat} {S : List Nat} : inV (.int (f : Int)) (ofN S) = decide (f ∈ S) := by
  unfold inV ofN
  induction S with
  | nil => simp
  | cons s S ih =>
    rw [List.map_cons, List.any_cons, ih]
    show (((s : Int) == (f : Int)) || decide (f ∈ S)) = _
    by_cases e : s = f
    · subst e; simp
    · have e1 : ((s : Int) == (f : Int)) = false := by
        rw [beq_eq_false_iff_ne]; omega
      rw [e1, Bool.false_or]
      simp [Ne.symm e]
theorem flat_nat {S : List Nat} : (ofN S).all flatV = true := by
  rw [List.all_eq_true]
  intro v hv
  obtain ⟨s, _, rfl⟩ := List.mem_map.mp hv
  rfl
theorem et_notIn {f : Nat} {S : List Nat} {p : Addr} (ha : Ev ta σ H (.int (f : Int))) (hb : Ev tb σ H (.ref p)) (hs : SqL K H p (ofN S)) : EvT (tTest (tOp (rIn K true) ta tb)) σ H (!decide (f ∈ S)) := by
  rw [← inV_nat]; exact et_test (ev_op ha hb (rv_niL hs rfl flat_nat))
theorem et_in {f : Nat} {S : List Nat} {p : Addr} (ha : Ev ta σ H (.int (f : Int))) (hb : Ev tb σ H (.ref p)) (hs : SqL K H p (ofN S)) : EvT (tTest (tOp (rIn K false) ta tb)) σ H (decide (f ∈ S)) := by
  rw [← inV_nat]; exact et_test (ev_op ha hb (rv_isL hs rfl flat_nat))
/-- the first place of a number that isn't nought -/
def fstP (r : Ro) : Option Nat := (List.range r.length).find? fun i => decide (nth r i ≠ 0)
theorem fstP_some {r : Ro} {i : Nat} (h : i < r.length) (h1 : nth r i ≠ 0) (h2 : ∀ j, j < i → nth r j = 0) : fstP r = some i := by
  unfold fstP
  rw [List.find?_range_eq_some]
  exact ⟨by simp [h1], List.mem_range.mpr h, fun j hj => by simp [h2 j hj]⟩
theorem fstP_none {r : Ro} (h : ∀ j, j < r.length → nth r j = 0) : fstP r = none := by
  unfold fstP
  rw [List.find?_eq_none]
  intro j hj
  simp [h j (List.mem_range.mp hj)]
theorem good_first {p : Int} {n k : Nat} {s : Sta} (g : Good p n k s) (hk : k ≤ n) {r : Nat} (h : r < s.d) : fstP (row s.R r) = some (s.S.getD r 0) := by
  have hr : r < s.R.length := by have := g.dr; omega
  have hS := S_at (S := s.S) (t := r) (by have := g.dl; omega)
  have lt := g.lt _ (List.mem_of_getElem? hS)
  refine fstP_some (by rw [(wf_row g.wf hr).1]; omega) ?_ (g.pre r _ hS)
  have := g.one r _ hS r hr
  rw [if_pos rfl] at this
  show ent s.R r _ ≠ 0
  rw [this]; decide
noncomputable def rr (p : Int) (M : Mx) (n : Nat) : Mx := (red p M n).R.take (red p M n).d
theorem row_take {R : Mx} {d i : Nat} (h : i < d) : row (R.take d) i = row R i := by
  unfold row
  rw [List.getD_eq_getElem?_getD, List.getD_eq_getElem?_getD, List.getElem?_take, if_pos h]
theorem len_rr {p : Int} {M : Mx} {n : Nat} (hp : 1 < p) (hI : HasInv p) (w : WF p n M) : (rr p M n).length = (red p M n).d := by
  unfold rr
  rw [List.length_take]
  have := (good_red hp hI w n).dr
  omega
end
end Own


namespace Own
open PySem PySem.Spec PyProof.Rows L2
open Evl
section
variable {K : PySem.W.Frag} {σ : L2.St} {H H' : Hp} {te ta tb tl : TE} {x y z w : V} {D : Ends} {tz tu t : TS} {R M : Mx} {l m : Addr} {refs : List Addr}
theorem MLr.app {b : Addr} {r : Ro} (h : MLr l refs R H) (nb : b ≠ l) (hb : H b = some (.lst (r.map V.int))) : MLr l (refs ++ [b]) (R ++ [r]) (upd H l (.lst (refs.map V.ref ++ [.ref b]))) := by
  refine ⟨by rw [upd_same]; simp, by simp [h.2.1], fun j c hc => ?_⟩
  have key : c ≠ l ∧ H c = some (.lst ((row (R ++ [r]) j).map V.int)) := by
    by_cases e : j < refs.length
    · rw [List.getElem?_append_left e] at hc
      have er : row (R ++ [r]) j = row R j := by
        unfold row
        rw [List.getD_eq_getElem?_getD, List.getD_eq_getElem?_getD, List.getElem?_append_left (by rw [← h.2.1]; exact e)]
      rw [er]
      exact h.2.2 j c hc
    · rw [List.getElem?_append_right (by omega)] at hc
      have z : j - refs.length = 0 := by
        refine Nat.eq_zero_of_not_pos fun q => ?_
        rw [List.getElem?_eq_none (by simp; omega)] at hc
        cases hc
      rw [z] at hc
      simp at hc
      subst hc
      have er : row (R ++ [r]) j = r := by
        unfold row
        rw [List.getD_eq_getElem?_getD, List.getElem?_append_right (by rw [← h.2.1]; omega), show j - R.length = 0 by rw [← h.2.1]; exact z]
        rfl
      rw [er]
      exact ⟨nb, hb⟩
  exact ⟨key.1, by rw [upd_ne key.1]; exact key.2⟩
/-- a comprehension over zip whose items are new -/
theorem en_lcZ {t1 t2 : Bool} {ta : TA} {a b : Addr} {xs ys : List V} {i j : Nat} {vs : List Nat} {o : Nat → HO} (h : EvA ta σ H [.ref a, .ref b]) (hx : SqB t1 K H a xs) (hy : SqB t2 K H b ys) (hl : xs.length = ys.length) (hn : xs.length ≤ 40000)
    (hw : ∀ x y, wipe (((wipe σ vs).set i (some x)).set j (some y)) vs = wipe σ vs)
    (he : ∀ m x y H1, Ex H H1 → xs[m]? = some x → ys[m]? = some y → EvH te (((wipe σ vs).set i (some x)).set j (some y)) H1 (o m)) : EvN (tLc (iZipB t1 t2 K ta) (gTup K 2 (gCons (gName i) (gCons (gName j) gNil))) tYes te vs) σ H (LsO xs.length o) :=
  fun H0 e Q q => h H0 e _ fun H1 e1 => ⟨a, b, xs, ys, rfl, ex_B (e.trans e1) hx, ex_B (e.trans e1) hy, fun Dl hD =>
    lc_it (n := xs.length) (walk_zipB (by omega)) (fun i H' => Ex H1 H' ∧ LsO i o Dl H') ⟨Ex.new hD, [], upd_same, rfl, fun i y h => by simp at h⟩ (fun m H' _ p => ⟨ex_B ((e.trans e1).trans p.1) hx, ex_B ((e.trans e1).trans p.1) hy⟩)
      (fun m z H2 H3 hm => by
        rintro ⟨p2, rs, hy, hl, hp⟩ ⟨T, x, y, rfl, hT, rfl, h1, h2⟩
        have nT : Dl ≠ T := fun z => by rw [z, hT] at hy; cases hy
        refine ⟨T, _, rfl, st_of upd_same, rfl, x, _, rfl, y, _, rfl, rfl, hw x y, ?_⟩
        refine yesT ?_
        have e2 : Ex H1 (upd H2 T (.tup [x, y])) := p2.trans (Ex.new hT)
        have eT : Ex H2 (upd H2 T (.tup [x, y])) := Ex.new hT
        have hy2 : (upd H2 T (.tup [x, y])) Dl = some (.lst (rs.map V.ref)) := eT _ _ hy
        refine he m x y _ ((e.trans e1).trans e2) h1 h2 _ (.refl _) _ fun p H4 np u4 hpo => ⟨rs.map V.ref, u4 _ _ hy2, sz_lt (by rw [List.length_map]; omega), Ex.mut (e2.trans u4) hD, rs ++ [p], by rw [upd_same]; simp, by simp [hl], fun m' b' hm' => ?_⟩
        have npD : p ≠ Dl := fun z => by rw [z, hy2] at np; cases np
        by_cases c : m' < rs.length
        · rw [List.getElem?_append_left c] at hm'
          obtain ⟨n1, h1⟩ := hp m' b' hm'
          exact ⟨n1, by rw [upd_ne n1]; exact u4 _ _ (eT _ _ h1)⟩
        · rw [List.getElem?_append_right (by omega)] at hm'
          have z : m' - rs.length = 0 := by
            refine Nat.eq_zero_of_not_pos fun q => ?_
            rw [List.getElem?_eq_none (by simp; omega)] at hm'
            cases hm'
          rw [z] at hm'
          simp at hm'
          subst hm'
          have : m' = m := by omega
          subst this
          exact ⟨npD, by rw [upd_ne npD]; exact hpo⟩)
      (fun H' p => q Dl H' (fresh_back e1 hD) (e1.trans p.1) p.2)⟩
theorem el_cat {xs ys : List V} (ha : EvL ta σ H xs) (hb : EvL tb σ H ys) (hz : xs.length + ys.length ≤ 1000) : EvL (tOp rCat ta tb) σ H (xs ++ ys) := fun H1 e Q q =>
  ha H1 e _ fun p H2 hp e2 hx => hb H2 (e.trans e2) _ fun r H3 hr e3 hy => ⟨p, r, xs, ys, rfl, rfl, e3 _ _ hx, hy, sz_of (by omega), fun c hc => q c _ (fresh_back (e2.trans e3) hc) ((e2.trans e3).trans (Ex.new hc)) upd_same⟩
def joined (M : Mx) (right : Ro) : Mx := List.zipWith (fun r x => r ++ [x]) M right
def solT (R : Mx) (S : List Nat) (n : Nat) : Nat → Ro
  | 0 => List.replicate n 0
  | t + 1 => (solT R S n t).set (S.getD t 0) (ent R t n)
noncomputable def sol (p : Int) (M : Mx) (right : Ro) (n : Nat) : Option Ro :=
  if n ∈ (red p (joined M right) (n + 1)).S then none else some (solT (red p (joined M right) (n + 1)).R (red p (joined M right) (n + 1)).S n (red p (joined M right) (n + 1)).d)
theorem len_solT {R : Mx} {S : List Nat} {n : Nat} : ∀ t, (solT R S n t).length = n
  | 0 => by simp [solT]
  | t + 1 => by simp [solT, len_solT t]
theorem len_joined {M : Mx} {right : Ro} (h : right.length = M.length) : (joined M right).length = M.length := by simp [joined, h]
theorem row_joined {M : Mx} {right : Ro} (h : right.length = M.length) {i : Nat} (hi : i < M.length) : row (joined M right) i = row M i ++ [nth right i] := by
  have e : (joined M right)[i]? = some (row M i ++ [nth right i]) := by
    unfold joined
    rw [List.getElem?_zipWith, row_at hi, List.getElem?_eq_getElem (by omega : i < right.length)]
    unfold nth
    rw [getD_lt (by omega)]
  unfold row
  rw [List.getD_eq_getElem?_getD]
  show ((joined M right)[i]?).getD [] = _
  rw [e]; rfl
theorem wf_joined {p : Int} {n : Nat} {M : Mx} {right : Ro} (w : WF p n M) (h : right.length = M.length) (hr : ∀ x ∈ right, 0 ≤ x ∧ x < p) : WF p (n + 1) (joined M right) := fun r hr' => by
  obtain ⟨i, hi, e⟩ := mem_row hr'
  rw [len_joined h] at hi
  rw [row_joined h hi] at e
  subst e
  refine ⟨by rw [List.length_append, (wf_row w hi).1]; rfl, fun x hx => ?_⟩
  rcases List.mem_append.mp hx with q | q
  · exact (wf_row w hi).2 x q
  · rw [List.mem_singleton.mp q]
    unfold nth
    rw [getD_lt (by omega)]
    exact hr _ (List.getElem_mem _)
/-- what solved tells -/
def SolP (K : PySem.W.Frag) (N : Mx) : Option Ro → VP
  | none, v, _ => v = .non
  | some s, v, H => ∃ a x y, v = .ref a ∧ SqT K H a [.ref x, .ref y] ∧ SqT K H x (s.map V.int) ∧ MT K y N H
theorem SolP.ex {N : Mx} {o : Option Ro} {v : V} (e : Ex H H') (h : SolP K N o v H) : SolP K N o v H' := by
  cases o with
  | none => exact h
  | some s =>
    obtain ⟨a, x, y, h1, h2, h3, h4⟩ := h
    exact ⟨a, x, y, h1, ex_t e h2, ex_t e h3, h4.ex e⟩
end
end Own


namespace Own
open PySem PySem.Spec PyProof.Rows L2
/-! ### t * 0 -/
theorem tuple_nought (l : Addr) (items : Array Value) (n : Nat) (dd : Option Addr) (sl : Array (Option Value)) (u : Tok) (hi : items.isEmpty = false) :
    Meets (Builtin.«tuple.__mul__» ⟨[.ref l, .int 0 u], []⟩) (fun _ R s => s.heap.get? l = some { cls := .type "tuple", dict := dd, data := .seq items n, slots := sl } ∧
      R (.ok (.ret (Value.ref s.heap.objs.size))) { s with heap := s.heap.push { cls := Value.type "tuple", data := Data.seq #[] }, toks := s.toks }) :=
  .of_wp fun prog w A R s h => by
    obtain ⟨hp, g, d, tk, os⟩ := s
    obtain ⟨hl, h⟩ := h
    have f1 := AutoSeq1.idx_int
    have c0 : (decide ((0 : Int) < -(2 ^ 63)) || decide ((0 : Int) ≥ 2 ^ 63)) = false := by decide
    have c1 : (items.isEmpty || (0 : Int) == 1) = false := by rw [hi]; rfl
    have c2 : (decide ((0 : Int) ≤ 0) || items.isEmpty) = true := by rw [decide_eq_true (Int.le_refl 0)]; rfl
    wp_walk using wpAny_loadPart' hl
    repeat (first
      | (refine wpAny_ite_false (decide_eq_false (by rw [c0]; exact Bool.false_ne_true)) ?_; wp_walk using wpAny_loadPart' hl)
      | (refine wpAny_ite_false (decide_eq_false (by rw [c1]; exact Bool.false_ne_true)) ?_; wp_walk using wpAny_loadPart' hl)
      | (refine wpAny_ite_true (decide_eq_true c2) ?_; wp_walk using wpAny_loadPart' hl))
    exact ⟨_, rfl, h⟩
def rNought (K : PySem.W.Frag) : R2 := fun x y H Q => ∃ l xs, x = .ref l ∧ y = .int 0 ∧ SqT K H l xs ∧ xs ≠ [] ∧ ∀ p, H p = none → Q (.ref p) (upd H p (.tup []))
theorem op_nought {X : Cx} : OpR X (binaryOp .Mult) (rNought X.K) := by
  intro pins s σ H x y v u Q I rx ry h
  obtain ⟨l, xs, rfl, rfl, hT, hne, q⟩ := h
  cases rx
  obtain ⟨t, rfl⟩ := ry
  obtain ⟨its, r, ⟨⟨cls, dd, data, sl⟩, ho, hc, n, hd⟩, hs⟩ := I.tuple hT
  simp only at hc hd
  subst hc hd
  have hle : its.length = xs.length := r.length.symm
  have hi : its.toArray.isEmpty = false := by
    cases its with
    | nil => exact absurd (List.eq_nil_of_length_eq_zero hle.symm) hne
    | cons a b => rfl
  refine wpAny_binaryOp_repeat_ref (T := "tuple") (U := "int") (by decide) ⟨_, ho, rfl⟩ (fun s' => typeIs_int s' 0 t) noFill_tuple_mul F.fills_int_mul F.slot_int_rmul repeat_tuple F.slot_int_index.lookup
    (call_meets F.slot_int_rmul (typeIs_int s 0 t) F.entry_int_rmul (F.args_int_rmul_2 _ _) (int_rmul_tuple 0 t l its.toArray n dd sl)
      ⟨ho, rfl, ⟨_, ho, rfl⟩, call_meets F.slot_tuple_mul ⟨_, ho, rfl⟩ F.entry_tuple_mul (F.args_tuple_mul_2 _ _) (tuple_nought l its.toArray n dd sl t hi) ⟨ho, ?_⟩⟩)
  refine ⟨.ref s.heap.objs.size, _, I.laid (t' := s.toks) (o := .tup []) (fun b ob q => Heap.get?_push_of_some _ q) (Nat.le_refl _) ?_, rfl, q _ (I.hok.fresh (Nat.le_refl _))⟩
  exact ⟨Nat.zero_le _, [], .nil, IsTup.new _ _⟩
abbrev rTimes0 (K : PySem.W.Frag) : R2 := fun x y H Q => rTimes K x y H Q ∨ rNought K x y H Q
theorem op_times0 {X : Cx} : OpR X (binaryOp .Mult) (rTimes0 X.K) := OpR.or op_times op_nought
/-! ### a list's or a tuple's place -/
abbrev rIxA (K : PySem.W.Frag) : R2 := fun x y H Q => rIxL K x y H Q ∨ rIxT K x y H Q
theorem ix_seq {X : Cx} : IxR X (rIxA X.K) := by
  intro value slice pins s σ H x y v u Q I rx ry h hs
  rcases h with h | h
  · exact ix_list value slice pins s σ H x y v u Q I rx ry h hs
  · exact ix_tup value slice pins s σ H x y v u Q I rx ry h hs
theorem lookup_relabel_cf {env : Env} : ∀ {names : List (Str × NameKind)} {x : Str}, (names.lookup x = some .cell ∨ names.lookup x = some .free) →
    (names.map fun (n, k) => if (k == NameKind.free && env.scope.kind == .function && env.kindOf n == some .cell) then (n, NameKind.cell) else (n, k)).lookup x = some .cell ∨
    (names.map fun (n, k) => if (k == NameKind.free && env.scope.kind == .function && env.kindOf n == some .cell) then (n, NameKind.cell) else (n, k)).lookup x = some .free
  | [], _, h => by simp at h
  | (n, k) :: r, x, h => by
    have ih := @lookup_relabel_cf env r x
    show List.lookup x ((if (k == NameKind.free && env.scope.kind == .function && env.kindOf n == some .cell) = true then (n, NameKind.cell) else (n, k)) :: _) = _ ∨ List.lookup x ((if (k == NameKind.free && env.scope.kind == .function && env.kindOf n == some .cell) = true then (n, NameKind.cell) else (n, k)) :: _) = _
    cases hx : x == n with
    | true =>
      simp only [List.lookup_cons, hx] at h
      by_cases hc : (k == NameKind.free && env.scope.kind == .function && env.kindOf n == some .cell) = true
      · rw [if_pos hc]; simp [List.lookup_cons, hx]
      · rw [if_neg hc]; simpa only [List.lookup_cons, hx] using h
    | false =>
      simp only [List.lookup_cons, hx] at h
      by_cases hc : (k == NameKind.free && env.scope.kind == .function && env.kindOf n == some .cell) = true
      · rw [if_pos hc]; simp only [List.lookup_cons, hx]; exact ih h
      · rw [if_neg hc]; simp only [List.lookup_cons, hx]; exact ih h
theorem blk_relabel {N : List Str} {sc scope : Scope} {own : List (Str × Nat)} {env : Env} (h : BlkOk N sc scope own) : BlkOk N (relabel sc env) scope own :=
  ⟨h.kind, h.uniq, h.ix, fun y hy e => lookup_relabel_cf (h.free y hy e), h.own⟩
/-- a comprehension within a comprehension -/
theorem pe_lcIn {X : Cx} {s : Shared} {H : Hp} {scope0 : Scope} {C : Addr} {cl : List (Str × Addr)} {fp : List Addr} {elt tg iter : Expr} {ifs : List Expr} {scope : Scope} {own : List (Str × Nat)} {pos : Pos} {wi : TI} {g : TG} {tt : TT} {te : TE} (hc : X.calm = true) (hN : X.N.Nodup)
    (hi : PI (X.blk s H scope0 (compEnvC scope0 cl C X.env) fp) tg iter wi) (ok : BlkOk X.N scope0 scope own)
    (hg : ∀ (s' : Shared) (H' : Hp) (C' : Addr) (cl' : List (Str × Addr)) (fp' : List Addr), PG ((X.blk s H scope0 (compEnvC scope0 cl C X.env) fp).blk s' H' scope (compEnvC scope cl' C' (compEnvC scope0 cl C X.env)) fp') tg g)
    (ht : ∀ (s' : Shared) (H' : Hp) (C' : Addr) (cl' : List (Str × Addr)) (fp' : List Addr), L2.PTs ((X.blk s H scope0 (compEnvC scope0 cl C X.env) fp).blk s' H' scope (compEnvC scope cl' C' (compEnvC scope0 cl C X.env)) fp') ifs tt)
    (he : ∀ (s' : Shared) (H' : Hp) (C' : Addr) (cl' : List (Str × Addr)) (fp' : List Addr), PE ((X.blk s H scope0 (compEnvC scope0 cl C X.env) fp).blk s' H' scope (compEnvC scope cl' C' (compEnvC scope0 cl C X.env)) fp') elt te)
    (hs : ∀ x, foldedSetIterable iter (compEnvC scope0 cl C X.env) x = pure x := by intro _; rfl) :
    PE (X.blk s H scope0 (compEnvC scope0 cl C X.env) fp) (.ListComp elt [⟨tg, iter, ifs, 0⟩] scope pos) (tLc wi g tt te (own.map (·.2))) :=
  pe_lc (X := X.blk s H scope0 (compEnvC scope0 cl C X.env) fp) hc hN hi (blk_relabel ok) hg ht he hs
end Own
namespace Own
open PySem PySem.Spec PyProof.Rows L2
open Evl
section
variable {K : PySem.W.Frag} {σ : L2.St} {H H' : Hp} {te ta tb tl : TE} {x y z w v : V} {D : Ends} {tz tu t : TS} {R M : Mx} {l m : Addr} {refs : List Addr}
theorem ev_ixA {a : Addr} {xs : List V} {i : Int} (ha : Ev ta σ H (.ref a)) (hb : Ev tb σ H (.int i)) (hs : SqA K H a xs) (h : atI xs i = some v) : Ev (tOp (rIxA K) ta tb) σ H v :=
  fun H1 e Q q => by
    rcases hs with hs | hs
    · exact ha H1 e _ fun H2 e2 => hb H2 (e.trans e2) _ fun H3 e3 => .inl ⟨a, xs, i, v, rfl, rfl, ex_l ((e.trans e2).trans e3) hs, h, q H3 (e2.trans e3)⟩
    · exact ha H1 e _ fun H2 e2 => hb H2 (e.trans e2) _ fun H3 e3 => .inr ⟨a, xs, i, v, rfl, rfl, ex_t ((e.trans e2).trans e3) hs, h, q H3 (e2.trans e3)⟩
theorem ev_lenA {a : Addr} {xs : List V} (h : Ev ta σ H (.ref a)) (hs : SqA K H a xs) : Ev (tCB (rLenV K) (tCons ta tNil)) σ H (.int (xs.length : Int)) := by
  rcases hs with hs | hs
  · exact ev_lenL h hs
  · exact ev_lenT h hs
theorem ev_sumN {ns : List Int} (h : EvL ta σ H (ns.map V.int)) : Ev (tCB (rSum K) (tCons ta tNil)) σ H (.int ns.sum) := fun H1 e Q q =>
  h H1 e _ fun p H2 _ e2 hp => ⟨p, ns, rfl, sq_of hp, q H2 e2⟩
theorem sum_range {f : Nat → Int} : ∀ n : Nat, ((List.range n).map f).sum = sumTo f n
  | 0 => rfl
  | n + 1 => by rw [List.range_succ, List.map_append, List.sum_append, sum_range n]; simp [sumTo]
/-- (e,) * k, from nought on -/
theorem eh_rep0 {k : Nat} (h : Ev te σ H v) (hb : Ev tb σ H (.int (k : Int))) (hk : k ≤ 1000) : EvH (tOp (rTimes0 K) (tTup (tCons te tNil)) tb) σ H (.tup (List.replicate k v)) := fun H1 e Q q =>
  h H1 e _ fun H2 e2 => ⟨by show 1 ≤ sizeLine; decide, fun p np => hb _ ((e.trans e2).trans (Ex.new np)) _ fun H3 e3 => by
    have hp := e3 _ _ (upd_same (H := H2) (a := p) (o := .tup [v]))
    have E3 : Ex H1 H3 := (e2.trans (Ex.new np)).trans e3
    match k, hk with
    | 0, _ => exact .inr ⟨p, [v], rfl, rfl, st_of hp, (by simp), fun r nr => q r _ (fresh_back E3 nr) (E3.trans (Ex.new nr)) (by rw [upd_same]; rfl)⟩
    | 1, _ => exact .inl (.inr ⟨p, [v], rfl, rfl, st_of hp, q p H3 (fresh_back e2 np) E3 hp⟩)
    | k + 2, hk => exact .inl (.inl ⟨p, ((k + 2 : Nat) : Int), [v], rfl, rfl, st_of hp, (by simp), by omega, by omega, by show 1 ≤ 1000; decide, fun r nr => q r _ (fresh_back E3 nr) (E3.trans (Ex.new nr)) (by rw [upd_same, Int.toNat_natCast, rep_one])⟩)⟩
/-- a list that stands + a new one -/
theorem el_catV {xs ys : List V} {a : Addr} (ha : Ev ta σ H (.ref a)) (hx : H a = some (.lst xs)) (hb : EvL tb σ H ys) (hz : xs.length + ys.length ≤ 1000) : EvL (tOp rCat ta tb) σ H (xs ++ ys) := fun H1 e Q q =>
  ha H1 e _ fun H2 e2 => hb H2 (e.trans e2) _ fun r H3 hr e3 hy => ⟨a, r, xs, ys, rfl, rfl, e3 _ _ (e2 _ _ (e _ _ hx)), hy, sz_of (by omega), fun c hc => q c _ (fresh_back (e2.trans e3) hc) ((e2.trans e3).trans (Ex.new hc)) upd_same⟩
/-- a new tuple of numbers -/
theorem eh_call {sp : Sp} {vs : List V} {E : XK} {ta : TA} {o : HO} (h : EvA ta σ H vs) (hs : SpN sp vs H fun l H' => H' l = some o) : EvH (tCall sp [] E ta) σ H o := fun H1 e Q q => en_call h hs H1 e Q q
/-! ### data of numbers -/
def intsD (r : Ro) : PyData := .tuple (r.map PyData.int)
def matD (M : Mx) : PyData := .tuple (M.map intsD)
theorem gd_ints {r : Ro} {a : Addr} (h : SqT K H a (r.map V.int)) (hl : r.length ≤ 20) (hb : ∀ x ∈ r, x.natAbs < 2 ^ 64) : Gd K H 1 (.ref a) (intsD r) := by
  refine gd_tup h ?_ (by rw [List.length_map]; exact hl)
  have : ∀ (r : Ro), (∀ x ∈ r, x.natAbs < 2 ^ 64) → GdAll K H 0 (r.map V.int) (r.map PyData.int) := fun r => by
    induction r with
    | nil => exact fun _ => .nil
    | cons x r ih => exact fun h => .cons (gd_int (h x List.mem_cons_self)) (ih fun y hy => h y (List.mem_cons_of_mem _ hy))
  exact this r hb
theorem gd_mat {p : Int} {n : Nat} {t : Addr} (h : MT K t M H) (w : WF p n M) (hp : p ≤ 1000003) (hn : n ≤ 20) (hl : M.length ≤ 20) : Gd K H 2 (.ref t) (matD M) := by
  obtain ⟨refs, h1, h2, h3⟩ := h
  refine gd_tup h1 ?_ (by rw [List.length_map]; omega)
  have key : ∀ (M : Mx) (refs : List Addr), refs.length = M.length → (∀ i b, refs[i]? = some b → Gd K H 1 (.ref b) (intsD (row M i))) → GdAll K H 1 (refs.map V.ref) (M.map intsD) := fun M => by
    induction M with
    | nil =>
      intro refs hl _
      rw [List.eq_nil_of_length_eq_zero hl]
      exact .nil
    | cons r M ih =>
      intro refs hl h
      cases refs with
      | nil => cases hl
      | cons b refs => exact .cons (h 0 b rfl) (ih refs (by simpa using hl) fun i c hc => h (i + 1) c (by simpa using hc))
  refine key M refs h2 fun i b hb => ?_
  have hi : i < M.length := by have := (List.getElem?_eq_some_iff.mp hb).1; omega
  have wr := wf_row w hi
  exact gd_ints (h3 i b hb) (by omega) fun x hx => by have := wr.2 x hx; omega
theorem ints_self : ∀ r : Ro, PyData.eqvAll (r.map PyData.int) (r.map PyData.int) = true
  | [] => by simp [PyData.eqvAll]
  | x :: r => by simp [PyData.eqvAll, PyData.eqv, ints_self r]
/-- the text of what a call makes -/
theorem ev_showN {P : Addr → Hp → Prop} {d : PyData} {k : Nat} (h : EvN te σ H P) (hd : ∀ t H', Ex H H' → P t H' → Gd K H' k (.ref t) d) (hk : k ≤ 4) : Ev (tCB (rShow K) (tCons te tNil)) σ H (.str d.shown) := fun H1 e Q q =>
  h H1 e _ fun t H2 _ e2 p => show_d (hd t H2 (e.trans e2) p) hk (q H2 e2)
theorem ev_showV {d : PyData} {k : Nat} (h : Ev te σ H v) (hd : Gd K H k v d) (hk : k ≤ 4) : Ev (tCB (rShow K) (tCons te tNil)) σ H (.str d.shown) := fun H1 e Q q =>
  h H1 e _ fun H2 e2 => show_d (hd.ex (e.trans e2)) hk (q H2 e2)
/-- two texts that are one -/
theorem et_neSame {s : Str} (ha : Ev ta σ H (.str s)) (hb : Ev tb σ H (.str s)) : EvT (tTest (tOp rNe ta tb)) σ H false := by
  have := et_test (ev_op (z := .bl (!decide ((V.str s) = (V.str s)))) ha hb (rv_ne rfl))
  rwa [decide_eq_true rfl] at this
/-- two new tuples of the same numbers -/
theorem ints_shaped (r : Ro) : SeqAt.shaped (intsD r) = true := by
  have h := lay_ints r
  unfold SeqAt.shaped intsD
  rw [show PyData.canLay0 (.tuple (r.map PyData.int)) = true by simpa only [PyData.canLay0] using h.1, decide_eq_true (show (PyData.tuple (r.map PyData.int)).depth ≤ 64 by simp only [PyData.depth]; omega)]
  rfl
theorem ne_ints {a b : Addr} {r : Ro} {Q : VK} (ha : SqT K H a (r.map V.int)) (hb : SqT K H b (r.map V.int)) (q : Q (.bl false) H) : rNeD K (.ref a) (.ref b) H Q :=
  ⟨intsD r, intsD r, .tup ha (dp_ints r), .tup hb (dp_ints r), ints_shaped r, ints_shaped r, by
    have e : PyData.eqv (intsD r) (intsD r) = true := by unfold intsD; simp [PyData.eqv, ints_self r]
    rw [e]
    exact q⟩
theorem ev_neHH {r : Ro} (ha : EvH ta σ H (.tup (r.map V.int))) (hb : EvH tb σ H (.tup (r.map V.int))) : Ev (tOp (rNeD K) ta tb) σ H (.bl false) := fun H1 e Q q =>
  ha H1 e _ fun p H2 _ e2 h2 => hb H2 (e.trans e2) _ fun p' H3 _ e3 h3 => ne_ints (st_of (e3 _ _ h2)) (st_of h3) (q H3 (e2.trans e3))
/-- a, b, c = something new, v, [] -/
theorem q_three {i j k : Nat} {P : Addr → Hp → Prop} (h : EvN te σ H P) (kk : ∀ l H1 s H2, H l = none → Ex H H1 → P l H1 → H1 s = none → Ex H1 H2 → H2 s = some (.lst []) → tz D (((σ.set i (some (.ref l))).set j (some v)).set k (some (.ref s))) H2) :
    tSeq (tAsg (tTup (tCons te (tCons (tC v) (tCons (tLst tNil) tNil)))) (gTup K 3 (gCons (gName i) (gCons (gName j) (gCons (gName k) gNil))))) tz D σ H :=
  h H (.refl H) _ fun l H1 hl e1 p => ⟨Nat.zero_le _, fun s ns => ⟨by show 3 ≤ sizeLine; decide, fun t nt => ⟨t, _, rfl, st_of upd_same, rfl, _, _, rfl, _, _, rfl, _, _, rfl, rfl,
    kk l H1 s _ hl e1 p ns ((Ex.new ns).trans (Ex.new nt)) ((Ex.new nt) _ _ upd_same)⟩⟩⟩
theorem s_parL {i j : Nat} {xs : List V} (h : Ev ta σ H x) (h2 : EvL tb σ H xs) (k : ∀ p H1, H p = none → Ex H H1 → H1 p = some (.lst xs) → D.nx ((σ.set i (some x)).set j (some (.ref p))) H1) : tPar i j (tCons ta (tCons tb tNil)) D σ H :=
  h H (.refl H) _ fun H1 e1 => h2 H1 e1 _ fun p H2 hp e2 hx => ⟨x, .ref p, rfl, k p H2 (fresh_back e1 hp) (e1.trans e2) hx⟩
/-- tuple(t) + (x,) -/
theorem eh_catT {a : Addr} {xs : List V} (h : Ev te σ H (.ref a)) (hx : SqT K H a xs) (h2 : Ev tb σ H v) (hz : xs.length ≤ 1000) : EvH (tOp (rCatA K) (tCB (rTupOf K) (tCons te tNil)) (tTup (tCons tb tNil))) σ H (.tup (xs ++ [v])) := fun H1 e Q q =>
  h H1 e _ fun H2 e2 => ⟨a, xs, rfl, .inr ⟨ex_t (e.trans e2) hx, h2 H2 (e.trans e2) _ fun H3 e3 => ⟨by show 1 ≤ sizeLine; decide, fun p np => ⟨a, p, xs, [v], rfl, rfl, ex_t (((e.trans e2).trans e3).trans (Ex.new np)) hx, st_of upd_same, sz_of (by show xs.length + 1 ≤ 100000; omega),
    fun z => q p _ (fresh_back (e2.trans e3) np) ((e2.trans e3).trans (Ex.new np)) (by rw [upd_same, z]; rfl), (fun _ z => by cases z), fun _ _ r nr => q r _ (fresh_back ((e2.trans e3).trans (Ex.new np)) nr) (((e2.trans e3).trans (Ex.new np)).trans (Ex.new nr)) upd_same⟩⟩⟩⟩
/-- xs.append(a new thing) -/
theorem s_appH {l : Addr} {xs : List V} {o : HO} (hl : H l = some (.lst xs)) (ha : Ev ta σ H (.ref l)) (h : EvH te σ H o) (hz : xs.length < 100000) (k : ∀ p H1, H p = none → Ex H H1 → H1 p = some o → D.nx σ (upd H1 l (.lst (xs ++ [.ref p])))) :
    tDrop (tBM K "list" rAppend ta (tCons te tNil)) D σ H := ha H (Ex.refl H) _ fun H1 e1 =>
  ⟨Or.inl ⟨rfl, xs, sq_of (e1 l _ hl)⟩, h H1 e1 _ fun p H2 hp e2 h2 => ⟨l, xs, .ref p, rfl, rfl, e2 l _ (e1 l _ hl), sz_lt hz, k p H2 (fresh_back e1 hp) (e1.trans e2) h2⟩⟩
theorem MT.kp (e : Kp H H') (h : MT K m M H) : MT K m M H' := let ⟨r, h1, h2, h3⟩ := h; ⟨r, e.sqT h1, h2, fun i b hb => e.sqT (h3 i b hb)⟩
/-- [e for j in range(n)], e drawing: a new list of n -/
def PLsF (H0 : Hp) (a : Addr) (n : Nat) (P : VP) : VP := fun v H => ∃ b xs, v = .ref b ∧ H0 b = none ∧ b ≠ a ∧ H b = some (.lst xs) ∧ xs.length = n ∧ ∀ x ∈ xs, P x H
theorem up_back {a b : Addr} (u : Up a H H') (n : b ≠ a) (h : H' b = none) : H b = none := by
  cases e : H b with
  | none => rfl
  | some o => rw [u.keep b o n e] at h; cases h
theorem es_lcN {a : Addr} {P : VP} {elt : TE} {j i n : Nat} {vs : List Nat} (e0 : σ[i]? = some (some (.int (n : Int)))) (hn : n ≤ 1000) (hw : ∀ x, wipe ((wipe σ vs).set j (some x)) vs = wipe σ vs)
    (he : ∀ (i : Nat) H1, Up a H H1 → i < n → EvS a elt ((wipe σ vs).set j (some (.int (i : Int)))) H1 P) (mk : MonoK P) : EvS a (tLc (iRng1 (tCons (tVar i) tNil)) (gName j) tYes elt vs) σ H (PLsF H a n P) :=
  fun H2 u Q q => ⟨_, e0, (n : Int), rfl, by omega, by omega, fun Dl hD =>
    lc_range (lo := 0) (n := (n : Int).toNat) (fun i H' => Up a H2 H' ∧ ∃ acc, H' Dl = some (.lst acc) ∧ acc.length = i ∧ ∀ x ∈ acc, P x H') ⟨.ex (Ex.new hD) u.src, [], upd_same, rfl, fun _ z => absurd z List.not_mem_nil⟩
      (fun i H' hi ⟨u3, acc, hacc, hl, hp⟩ => by
        show wipe ((wipe σ vs).set j (some (.int ((0 : Int) + (i : Int))))) vs = wipe σ vs ∧ elt ((wipe σ vs).set j (some (.int ((0 : Int) + (i : Int))))) H' fun y H4 => ∃ acc, H4 Dl = some (.lst acc) ∧ acc.length < sizeLine ∧ (Up a H2 (upd H4 Dl (.lst (acc ++ [y]))) ∧ ∃ ac2, (upd H4 Dl (.lst (acc ++ [y]))) Dl = some (.lst ac2) ∧ ac2.length = i + 1 ∧ ∀ x ∈ ac2, P x (upd H4 Dl (.lst (acc ++ [y]))))
        rw [Int.zero_add]
        have nD : Dl ≠ a := u.src.new hD
        refine ⟨hw _, he i H' (u.trans u3) (by omega) H' (.refl u3.src) _ fun y H4 u4 py => ?_⟩
        have h4 := u4.keep Dl _ nD hacc
        have kp : Kp H' (upd H4 Dl (.lst (acc ++ [y]))) := (u4.kp u3.src).trans (.lst h4)
        refine ⟨acc, h4, sz_lt (by omega), ⟨fun b o nb hb => ?_, ?_⟩, _, upd_same, by rw [List.length_append, hl]; rfl, fun x hx => ?_⟩
        · rw [upd_ne (ne_of_none hb hD)]
          exact u4.keep b o nb (u3.keep b o nb hb)
        · obtain ⟨big, mixed, e, r⟩ := u4.src
          exact ⟨big, mixed, by rw [upd_ne nD.symm]; exact e, r⟩
        · rcases List.mem_append.mp hx with z | z
          · exact mk x _ _ kp (hp x z)
          · rw [List.mem_singleton.mp z]
            exact mk y _ _ (.lst h4) py)
      (fun H' ⟨u3, acc, hacc, hl, hp⟩ => q _ _ u3 ⟨Dl, acc, rfl, up_back u (u.src.new hD) hD, u.src.new hD, hacc, by omega, hp⟩)⟩
/-- rows against none -/
theorem dp_rows : ∀ (refs : List Addr) (R : Mx), refs.length = R.length → (∀ i b, refs[i]? = some b → H b = some (.lst ((row R i).map V.int))) → DpAll K H (refs.map V.ref) (R.map fun r => PyData.list (r.map PyData.int))
  | [], [], _, _ => .nil
  | b :: refs, r :: R, hl, h => .cons (.lst (sq_of (h 0 b rfl)) (dp_ints r)) (dp_rows refs R (by simpa using hl) fun i c hc => h (i + 1) c (by simpa using hc))
  | [], _ :: _, hl, _ => by cases hl
  | _ :: _, [], hl, _ => by cases hl
theorem lay_rows : ∀ R : Mx, PyData.canLayAll0 (R.map fun r => PyData.list (r.map PyData.int)) = true ∧ PyData.depthAll (R.map fun r => PyData.list (r.map PyData.int)) ≤ 2
  | [] => ⟨rfl, by simp [PyData.depthAll]⟩
  | r :: R => ⟨by simp [PyData.canLayAll0, PyData.canLay0, (lay_ints r).1, (lay_rows R).1], by have := (lay_rows R).2; have := (lay_ints r).2; simp only [List.map_cons, PyData.depthAll, PyData.depth]; omega⟩
theorem shaped_rows (R : Mx) : SeqAt.shaped (.list (R.map fun r => PyData.list (r.map PyData.int))) = true := by
  have h := lay_rows R
  unfold SeqAt.shaped
  rw [show PyData.canLay0 (.list (R.map fun r => PyData.list (r.map PyData.int))) = true by simpa only [PyData.canLay0] using h.1, decide_eq_true (show (PyData.list (R.map fun r => PyData.list (r.map PyData.int))).depth ≤ 64 by simp only [PyData.depth]; omega)]
  rfl
theorem et_neRows (h : Ev ta σ H (.ref l)) (hs : MLr l refs R H) : EvT (tTest (tOp (rNeD K) ta (tLst tNil))) σ H (!R.isEmpty) :=
  et_test (ev_opL h (el_lst ea_nil (Nat.zero_le _)) fun q H1 hq e H2 e2 Q w => ⟨_, .list [], .lst (sq_of (hs.ex (e.trans e2)).1) (dp_rows _ _ hs.2.1 fun i b hb => ((hs.ex (e.trans e2)).2.2 i b hb).2), .lst (sq_of (e2 q _ hq)) .nil, shaped_rows R, rfl, by
    have z : PyData.eqv (.list (R.map fun r => PyData.list (r.map PyData.int))) (.list []) = R.isEmpty := by cases R <;> simp [PyData.eqv, PyData.eqvAll]
    rw [z]
    exact w H2 (.refl _)⟩)
theorem ev_chainLt {i j k : Int} {tc : TE} (ha : Ev ta σ H (.int i)) (hb : Ev tb σ H (.int j)) (hc : Ev tc σ H (.int k)) : Ev (tChain rLtI rLtI ta tb tc) σ H (.bl (decide (i < j) && decide (j < k))) :=
  fun H1 e Q q => ha H1 e _ fun H2 e2 => hb H2 (e.trans e2) _ fun H3 e3 => ⟨i, j, rfl, rfl, _, rfl, by
    by_cases c : i < j
    · rw [decide_eq_true c]
      exact iteT (hc H3 ((e.trans e2).trans e3) _ fun H4 e4 => ⟨j, k, rfl, rfl, by simpa [c] using q H4 ((e2.trans e3).trans e4)⟩)
    · rw [decide_eq_false c]
      exact iteF (by simpa [c] using q H3 (e2.trans e3))⟩
theorem es_mulN {a : Addr} {h1 h2 : Int} (ha : EvS a ta σ H (PInt 0 h1)) (hb : EvS a tb σ H (PInt 0 h2)) (z : h1 ≤ 1000003) (z2 : 0 ≤ h1) : EvS a (tOp rMulI ta tb) σ H (PInt 0 (h1 * h2)) :=
  es_op ha hb mono_int fun x y H1 u ⟨i, ei, a1, a2⟩ ⟨j, ej, b1, b2⟩ Q q => ⟨i, j, ei, ej, .inl ⟨by omega, by omega⟩, q _ H1 (.refl u.src) ⟨_, rfl, Int.mul_nonneg a1 b1, Int.mul_le_mul a2 b2 b1 z2⟩⟩
theorem ev_showX {P : VP} {d : PyData} {k : Nat} (h : EvX te σ H P) (hd : ∀ v H', Ex H H' → P v H' → Gd K H' k v d) (hk : k ≤ 4) : Ev (tCB (rShow K) (tCons te tNil)) σ H (.str d.shown) := fun H1 e Q q =>
  h H1 e _ fun t H2 e2 p => show_d (hd t H2 (e.trans e2) p) hk (q H2 e2)
theorem given_none (n : Nat) (v : Nat → V) : given n (fun _ => false) v = [] := by
  unfold given
  rw [List.filter_eq_nil_iff.mpr (by simp)]
  rfl
theorem wf_take {p : Int} {n d : Nat} (w : WF p n R) : WF p n (R.take d) := fun r hr => w r (List.mem_of_mem_take hr)
theorem wf_rr {p : Int} {n : Nat} (hp : 1 < p) (hI : HasInv p) (w : WF p n M) : WF p n (rr p M n) := wf_take (good_red hp hI w n).wf
theorem wf_ker {p : Int} {n : Nat} (hp : 1 < p) (hI : HasInv p) : WF p n (ker p M n) := wf_take (good_red hp hI (wf_kerM hp) n).wf
theorem len_ker {p : Int} {n : Nat} (hp : 1 < p) (hI : HasInv p) : (ker p M n).length ≤ n := by
  unfold ker
  rw [List.length_take]
  have h1 := len_red (p := p) (M := kerM p M n) n
  have h2 : (kerM p M n).length ≤ n := by
    simp only [kerM, List.length_map]
    have := List.length_filter_le (fun k => !decide (k ∈ (red p M n).S)) (List.range n)
    rw [List.length_range] at this
    exact this
  omega
theorem solT_bd {p : Int} {n : Nat} {S : List Nat} (hp : 0 < p) (w : WF p (n + 1) R) : ∀ t, ∀ x ∈ solT R S n t, 0 ≤ x ∧ x < p
  | 0 => fun x hx => by
    have := (List.mem_replicate.mp hx).2
    omega
  | t + 1 => fun x hx => by
    rcases List.mem_or_eq_of_mem_set hx with q | q
    · exact solT_bd hp w t x q
    · rw [q]; exact wf_nth w hp t n
theorem sol_bd {p : Int} {n : Nat} {right s : Ro} (P : Prm p) (hI : HasInv p) (w : WF p n M) (hr : right.length = M.length) (hb : ∀ x ∈ right, 0 ≤ x ∧ x < p) (h : sol p M right n = some s) : s.length = n ∧ ∀ x ∈ s, 0 ≤ x ∧ x < p := by
  have p5 := P.1
  have wj := wf_joined w hr hb
  have g := good_red (show 1 < p by omega) hI wj (n + 1)
  unfold sol at h
  split at h
  · cases h
  · injection h with h
    subst h
    exact ⟨len_solT _, solT_bd (by omega) g.wf _⟩
/-- a right side: n numbers below p, in a tuple -/
def Rig (K : PySem.W.Frag) (p : Int) (n : Nat) (v : V) (H : Hp) : Prop := ∃ (c : Addr) (r : Ro), v = .ref c ∧ SqT K H c (r.map V.int) ∧ r.length = n ∧ ∀ x ∈ r, 0 ≤ x ∧ x < p
theorem Rig.ex {p : Int} {n : Nat} {v : V} (e : Ex H H') (h : Rig K p n v H) : Rig K p n v H' := let ⟨c, r, h1, h2, h3⟩ := h; ⟨c, r, h1, ex_t e h2, h3⟩
theorem monoK_rig {p : Int} {n : Nat} : MonoK (Rig K p n) := fun _ _ _ e ⟨c, r, h1, h2, h3⟩ => ⟨c, r, h1, e.sqT h2, h3⟩
theorem ints_of {lo hi : Int} : ∀ {xs : List V}, (∀ x ∈ xs, PInt lo hi x H) → ∃ r : Ro, xs = r.map V.int ∧ r.length = xs.length ∧ ∀ x ∈ r, lo ≤ x ∧ x ≤ hi
  | [], _ => ⟨[], rfl, rfl, fun _ h => absurd h List.not_mem_nil⟩
  | x :: xs, h => by
    obtain ⟨i, e, h1, h2⟩ := h x List.mem_cons_self
    obtain ⟨r, e2, hl, hr⟩ := ints_of fun y hy => h y (List.mem_cons_of_mem _ hy)
    exact ⟨i :: r, by rw [e, e2]; rfl, by simp [hl], fun y hy => by
      rcases List.mem_cons.mp hy with z | z
      · rw [z]; exact ⟨h1, h2⟩
      · exact hr y z⟩
theorem es_ofH {a : Addr} {P : VP} {o : HO} (h : ∀ H1, Up a H H1 → EvH te σ H1 o) (i : ∀ p H1, H1 p = some o → P (.ref p) H1) : EvS a te σ H P :=
  fun H1 u Q q => h H1 u H1 (.refl H1) _ fun p H2 _ e hp => q _ H2 (.ex e u.src) (i p H2 hp)
theorem es_tupR {a : Addr} {H0 : Hp} {p : Int} {n : Nat} (h : EvS a te σ H (PLsF H0 a n (PInt 0 (p - 1)))) : EvS a (tCB (rTupOf K) (tCons te tNil)) σ H (Rig K p n) :=
  fun H1 u Q q => h H1 u _ fun v H2 u2 ⟨b, xs, ev, _, _, hb, hl, hp⟩ => by
    obtain ⟨r, rfl, hl2, hr⟩ := ints_of hp
    exact ⟨b, _, by rw [ev], .inl ⟨sq_of hb, fun t nt => q _ _ (u2.trans (.ex (Ex.new nt) u2.src)) ⟨t, r, rfl, st_of upd_same, by omega, fun x hx => by have := hr x hx; omega⟩⟩⟩
/-- for x in a new list whose items are drawn -/
theorem q_forS {a : Addr} {P : VP} {j n : Nat} (s : Src H a) (h : EvS a tl σ H (PLst a n P)) (Pv : Hp → Nat → L2.St → Hp → Prop) (h0 : ∀ HL, Up a H HL → Pv HL 0 σ HL) (hE : ∀ HL i σ' H', Pv HL i σ' H' → Ex HL H')
    (hs : ∀ HL i x σ' H', Up a H HL → P x HL → i < n → Pv HL i σ' H' → tu { D with nx := Pv HL (i + 1), ct := Pv HL (i + 1), bk := tz D } (σ'.set j (some x)) H') (hd : ∀ HL σ' H', Up a H HL → Pv HL n σ' H' → tz D σ' H') :
    tSeq (tFor (iList K tl) (gName j) tu) tz D σ H :=
  h H (.refl s) _ fun v HL u ⟨L, xs, ev, nL, hL, hl, hp⟩ => ⟨L, ev, ⟨xs, sq_of hL⟩, for_list (xs := xs) (Pv HL) (h0 HL u) (fun i σ' H' _ p => sq_of (hE HL i σ' H' p _ _ hL))
    (fun i x σ' H' hx p => hs HL i x σ' H' u (hp x (List.mem_of_getElem? hx)) (by have := (List.getElem?_eq_some_iff.mp hx).1; omega) p) (fun σ' H' p => hd HL σ' H' u (by rw [← hl]; exact p))⟩
end
end Own


set_option maxHeartbeats 1000000
namespace Own
open PySem PySem.Spec PyProof.Rows L2
/-! ### try .. with several clauses, each of which names the error (slot i) -/
abbrev Suites := List (Value × (Addr → Value → Option Addr → TS))
/-- the wishes behind a suite: the name is gone -/
def Ends.less (D : Ends) (i : Nat) : Ends := { nx := fun z G => D.nx (z.set i none) G, rt := D.rt, bk := fun z G => D.bk (z.set i none) G, ct := fun z G => D.ct (z.set i none) G }
def wNamed (K : PySem.W.Frag) (i : Nat) (out : WX) (D : Ends) : Suites → WX
  | [] => out
  | c :: rest => fun cls dd z G => ∃ yes, PySem.W.exmOne K cls c.1 = some yes ∧ (yes = true → ∀ a, G a = none → c.2 a cls dd (Ends.less D i) (z.set i (some (.ref a))) G) ∧ (yes = false → wNamed K i out D rest cls dd z G)
inductive NamedOk (X : Cx) (n : Str) : List ExceptHandler → Suites → Prop
  | nil : NamedOk X n [] []
  | cons {x : Str} {c : Value} {ts : Addr → Value → Option Addr → TS} {first : Stmt} {more : List Stmt} {q1 q2 : Pos} {hs : List ExceptHandler} {cs : Suites} (hc : Names X x c)
      (hsu : ∀ (a : Addr) (oe : Obj) (cls : Value) (dd : Option Addr) (pn : List (Addr × Obj)), Zc cls dd oe → (∃ vs, oe.data = .fields vs) → PSs (X.suite a ((a, oe) :: pn)) (first :: more) (ts a cls dd)) (tl : NamedOk X n hs cs) :
      NamedOk X n (.ExceptHandler (some (.Name x q1)) (some n) (first :: more) q2 :: hs) ((c, ts) :: cs)
section
variable {X : Cx} {n : Str} {i : Nat} {body : List Stmt} {hd₀ : ExceptHandler} {hs : List ExceptHandler} {cs : Suites} {pos : Pos} {tb : WX → TS} {out : WX}
theorem ps_try_named (hst : X.stack = X.env :: X.outer) (hfr : X.env.frame = some X.env.locals) (hN : X.N.Nodup) (hi : X.N[i]? = some n) (hln : X.env.kindOf n = some .local) (tk : Takes X out)
    (hb : ∀ (W : WX) (pn : List (Addr × Obj)) (xe : Value → Shared → Prop), Takes (X.tr pn xe) W → PassesOwn (model X.prog X.w) X.A X.env xe → PSs (X.tr pn xe) body (tb W))
    (hh : NamedOk X n (hd₀ :: hs) cs) : PS X (.Try body (hd₀ :: hs) [] [] pos) (fun D z G => tb (wNamed X.K i out D cs) D z G) := by
  refine ⟨fun pins s z G D I wish => ?_⟩
  have ok := I.ok
  have frames : X.A.frames = some (X.env :: X.outer) := ok.frames.trans (by rw [hst])
  refine wpAny_Try_except (wpAny_mono ((hb (wNamed X.K i out D cs) (X.pn ++ pins) _ (fun u s' thrown => ?_) PassesOwn.looking).run [] s z G D (I.toTry _) wish) (fun fl s1 gone => ?_) (fun _ _ far => far))
  · obtain ⟨a, B, sI, pins', z', G', cls, dd, rfl, J0, nb, up, sky, na, os, ag, w⟩ := thrown
    have J : Inv X pins z' G' sI := J0.ofTry ok
    have sky1 : Sky B (X.env :: X.outer) a (Zc cls dd) X.env.locals s'.heap := hst ▸ sky
    show wpAny (model X.prog X.w) X.A (noteFrame (.ref a) X.env) _ _ _
    refine Sky.land Zc.steady frames hfr sky1 fun h3 fl3 up3 => ?_
    have J3 : Inv X pins z' G' { s' with heap := h3 } := J.landed nb fl3.1 (up.trans up3) os ag
    obtain ⟨oe3, vs3, at3, hz3, hd3⟩ := fl3.there
    have apart : a ∉ frs (X.env :: X.outer) := fun hm => by
      obtain ⟨_, o', e', no⟩ := fl3.2.2.1.mem hm
      rw [at3] at e'
      cases e'
      exact no _ hd3
    have nL : a ≠ X.env.locals := fun q => apart (List.mem_filterMap.mpr ⟨X.env, List.mem_cons_self, by rw [hfr, q]⟩)
    have nF : a ∉ X.fs := fun hm => let ⟨e, he, q⟩ := List.mem_filterMap.mp hm; apart (List.mem_filterMap.mpr ⟨e, List.mem_cons_of_mem _ he, q⟩)
    have S3 := J3.suite at3 hd3 na nL nF
    have LT : PySem.W.Looks (model X.prog X.w) h3 (typeOf (.ref a)) cls := fun A Q E s k q => wpAny_typeOf_ref (k _ _ at3) (by rw [hz3.1]; exact q)
    suffices go : ∀ {hs' : List ExceptHandler} {cs' : Suites}, NamedOk X n hs' cs' → wNamed X.K i out D cs' cls dd z' G' → wpAny (model X.prog X.w) X.A (handleBy (.ref a) X.env hs') (SP X pins D) X.xe { s' with heap := h3 } from go hh w
    intro hs' cs' okc
    induction okc with
    | nil =>
      intro w
      refine wpAny_handleBy_nil ?_
      obtain ⟨_, _, _, oe, vs, Tb, oT, ts', he, hz, hd, h1, hr⟩ := id fl3
      unfold PySem.passOn
      refine wpAny_bind (wpAny_field he hd h1 ?_)
      rw [if_neg (show ¬ ((Value.ref Tb == Value.none) = true) from by simp)]
      have leave : wpAny (model X.prog X.w) X.A (setFlight (.ref a) X.env.frame) (fun _ s4 => wpAny (model X.prog X.w) X.A (throw (.ref a) : Sem Flow) (SP X pins D) X.xe s4) X.xe { s' with heap := h3 } := by
        rw [hfr]
        exact HandSPX.setFlight_upZ fl3 fun h4 hh4 up4 => wpAny_throw (tk _ _ ⟨a, B, sI, pins, z', G', cls, dd, rfl, J, nb, (up.trans up3).trans up4, .inr (.inr (by rw [hst]; exact hh4)), na, os, ag, w⟩)
      first
        | exact wpAny_bind (wpAny_pure (wpAny_bind leave))
        | exact wpAny_bind leave
    | cons hc hsu tl ih =>
      intro w
      obtain ⟨yes, hy, w1, w2⟩ := w
      have asked := PySem.W.exm_one (M := model X.prog X.w) (J3.kIn) LT hy
      refine wpAny_handleBy_cons (codeAny_handlers_test ?_) (fun q => nomatch q)
      have reads : ∀ {Q : Value → Shared → Prop} {E : Value → Shared → Prop} {x : Str} {c : Value} {q1 : Pos}, Names X x c → Q c { s' with heap := h3 } → wpAny (model X.prog X.w) (X.A.mark (some (.ref a))) (eval (.Name x q1) X.env) Q E { s' with heap := h3 } := fun {Q E x c q1} nm q => by
        obtain ⟨hg, hdbg, hm | ⟨hm, hv, hnn⟩⟩ := nm
        · exact ld_glob (X := X.suite a ((a, oe3) :: (X.pn ++ pins))) S3 hg hm q hdbg
        · exact ld_blt (X := X.suite a ((a, oe3) :: (X.pn ++ pins))) S3 hg hm hv q hnn hdbg
      refine reads hc (asked.here ?_)
      cases yes with
      | false => exact ih (w2 rfl)
      | true =>
        refine codeAny_handlers_suite_as (HandSPX.lands_againZ fl3 fun h4 fl4 up4 => ?_)
        obtain ⟨oe4, vs4, at4, hz4, hd4⟩ := fl4.there
        have S4 := (J.landed (s' := { s' with heap := h4 }) nb fl4.1 ((up.trans up3).trans up4) os ag).suite at4 hd4 na nL nF
        refine store_ok (X := X.suite a ((a, oe4) :: (X.pn ++ pins))) (v := .ref a) S4 hN hi (.inl hln) rfl (fun s5 S5 => ?_) (.inr hln)
        refine wpAny_mono ((hsu a oe4 cls dd (X.pn ++ pins) hz4 ⟨_, hd4⟩).run [] s5 _ G' _ S5 (w1 rfl a na)) (fun fl s6 gone => ?_) (fun _ _ far => False.elim far)
        have free : ∀ {z6 : L2.St} {G6 : Hp} {Q : Shared → Prop} {q2 : Pos}, Inv (X.suite a ((a, oe4) :: (X.pn ++ pins))) [] z6 G6 s6 → (∀ s7, Inv X pins (z6.set i none) G6 s7 → Q s7) →
            wpAny (model X.prog X.w) X.A (do bindName X.env n .none; unbindBehindTheSuite X.env n q2) (fun _ s7 => Q s7) X.xe s6 := fun S6 hq => gone_ok (S6.unsuite ok) hN hi hln hq
        match fl, gone with
        | .next, ⟨_, _, S6, q6⟩ => exact free S6 fun s7 J7 => ⟨_, _, J7, q6⟩
        | .brk, ⟨_, _, S6, q6⟩ => exact free S6 fun s7 J7 => ⟨_, _, J7, q6⟩
        | .cont, ⟨_, _, S6, q6⟩ => exact free S6 fun s7 J7 => ⟨_, _, J7, q6⟩
        | .ret u, ⟨_, _, _, S6, r6, q6⟩ => exact free S6 fun s7 J7 => ⟨_, _, _, J7, r6, q6⟩
  · match fl, gone with
    | .next, ⟨_, _, J, q⟩ => exact wpAny_execs_nil ⟨_, _, J.ofTry ok, q⟩
    | .brk, ⟨_, _, J, q⟩ => exact ⟨_, _, J.ofTry ok, q⟩
    | .cont, ⟨_, _, J, q⟩ => exact ⟨_, _, J.ofTry ok, q⟩
    | .ret u, ⟨_, _, _, J, r, q⟩ => exact ⟨_, _, _, J.ofTry ok, r, q⟩
end
def tTryN (K : PySem.W.Frag) (i : Nat) (tb : WX → TS) (cs : Suites) : TS := fun D σ H => tb (wNamed K i (fun _ _ _ _ => False) D cs) D σ H
abbrev rStrI : List V → Hp → VK → Prop := fun xs H Q => ∃ i, xs = [.int i] ∧ i.natAbs.log2 < 1920 ∧ Q (.str (toString i)) H
end Own


set_option maxHeartbeats 1000000
namespace Own
open PySem PySem.Spec PyProof.Rows L2
open Evl
/-! ### shapes that are right, as objects -/
structure Shp where
  p : Int
  w : Nat
  n : Nat
  k : Nat
  e : Nat
  m : Nat
  t : Mx
def Shp.c (s : Shp) : Nat := s.t.length
structure Shp.Ok (s : Shp) : Prop where
  p : Prm s.p
  w : 1 ≤ s.w ∧ s.w ≤ 16
  n : 1 ≤ s.n ∧ s.n ≤ 8
  k : 1 ≤ s.k ∧ s.k ≤ 3 ∧ s.k ≤ s.n
  e : s.e ≤ 2
  m : s.m ≤ 1 ∧ (s.m = 1 → s.e = 0)
  c : s.t.length ≤ 8
  t : WF s.p s.n s.t
def shD (s : Shp) : PyData := .tuple [.int s.p, .int s.w, .int s.n, .int s.k, .int s.e, .int s.m, matD s.t]
def Sh (K : PySem.W.Frag) (sh : Addr) (s : Shp) (H : Hp) : Prop := ∃ tb, SqT K H sh [.int s.p, .int s.w, .int s.n, .int s.k, .int s.e, .int s.m, .ref tb] ∧ MT K tb s.t H
section
variable {K : PySem.W.Frag} {σ : L2.St} {H H' : Hp} {te ta tb : TE} {sh : Addr} {s : Shp}
theorem Sh.ex (e : Ex H H') (h : Sh K sh s H) : Sh K sh s H' := let ⟨b, h1, h2⟩ := h; ⟨b, ex_t e h1, h2.ex e⟩
theorem Sh.kp (e : Kp H H') (h : Sh K sh s H) : Sh K sh s H' := let ⟨b, h1, h2⟩ := h; ⟨b, e.sqT h1, h2.kp e⟩
theorem Sh.gd (h : Sh K sh s H) (o : s.Ok) : Gd K H 3 (.ref sh) (shD s) := by
  obtain ⟨b, h1, h2⟩ := h
  have p1 := o.p.1
  have p2 := o.p.2.1
  have := o.w; have := o.n; have := o.k; have := o.e; have := o.m.1; have := o.c
  have gi : ∀ {i : Int}, i.natAbs < 2 ^ 64 → Gd K H 2 (.int i) (.int i) := fun h => (gd_int h).up (by decide)
  exact gd_tup h1 (.cons (gi (by omega)) (.cons (gi (by omega)) (.cons (gi (by omega)) (.cons (gi (by omega)) (.cons (gi (by omega)) (.cons (gi (by omega)) (.cons (gd_mat h2 o.t p2 (by omega) (by omega)) .nil))))))) (by show 7 ≤ 20; decide)
theorem sh_p (h : Sh K sh s H) (ha : Ev ta σ H (.ref sh)) : Ev (tOp (rIxT K) ta (tC (.int 0))) σ H (.int s.p) := let ⟨_, h1, _⟩ := h; ev_ixT ha ev_c h1 (atI_nat (j := 0) rfl)
theorem sh_w (h : Sh K sh s H) (ha : Ev ta σ H (.ref sh)) : Ev (tOp (rIxT K) ta (tC (.int 1))) σ H (.int s.w) := let ⟨_, h1, _⟩ := h; ev_ixT ha ev_c h1 (atI_nat (j := 1) rfl)
theorem sh_n (h : Sh K sh s H) (ha : Ev ta σ H (.ref sh)) : Ev (tOp (rIxT K) ta (tC (.int 2))) σ H (.int s.n) := let ⟨_, h1, _⟩ := h; ev_ixT ha ev_c h1 (atI_nat (j := 2) rfl)
theorem sh_k (h : Sh K sh s H) (ha : Ev ta σ H (.ref sh)) : Ev (tOp (rIxT K) ta (tC (.int 3))) σ H (.int s.k) := let ⟨_, h1, _⟩ := h; ev_ixT ha ev_c h1 (atI_nat (j := 3) rfl)
theorem sh_e (h : Sh K sh s H) (ha : Ev ta σ H (.ref sh)) : Ev (tOp (rIxT K) ta (tC (.int 4))) σ H (.int s.e) := let ⟨_, h1, _⟩ := h; ev_ixT ha ev_c h1 (atI_nat (j := 4) rfl)
theorem sh_m (h : Sh K sh s H) (ha : Ev ta σ H (.ref sh)) : Ev (tOp (rIxT K) ta (tC (.int 5))) σ H (.int s.m) := let ⟨_, h1, _⟩ := h; ev_ixT ha ev_c h1 (atI_nat (j := 5) rfl)
theorem sh_t (h : Sh K sh s H) : ∃ t, MT K t s.t H ∧ ∀ (σ : L2.St) (ta : TE) H1, Ex H H1 → Ev ta σ H1 (.ref sh) → Ev (tOp (rIxT K) ta (tC (.int 6))) σ H1 (.ref t) := let ⟨b, h1, h2⟩ := h; ⟨b, h2, fun _ _ _ e ha => ev_ixT ha ev_c (ex_t e h1) (atI_nat (j := 6) rfl)⟩
theorem mt_len {t : Addr} {M : Mx} (h : MT K t M H) (ha : Ev ta σ H (.ref t)) : Ev (tCB (rLenV K) (tCons ta tNil)) σ H (.int (M.length : Int)) := by
  obtain ⟨refs, h1, h2, _⟩ := h
  have := ev_lenT ha h1
  rwa [List.length_map, h2] at this
/-- len(shape[6]) -/
theorem sh_c (h : Sh K sh s H) (ha : Ev ta σ H (.ref sh)) : Ev (tCB (rLenV K) (tCons (tOp (rIxT K) ta (tC (.int 6))) tNil)) σ H (.int s.c) := by
  obtain ⟨t, h1, h2⟩ := sh_t h
  exact mt_len h1 (h2 _ _ _ (.refl H) ha)
end
/-! ### rising numbers, rows, as data -/
def risD : Int → List PyData → Int → Bool
  | _, [], _ => true
  | lo, .int i :: ds, top => decide (lo ≤ i) && decide (i ≤ top - 1) && risD (i + 1) ds top
  | _, _ :: _, _ => false
def risingD (d : PyData) (top : Int) : Bool := match d with
  | .tuple ds => risD 0 ds top
  | _ => false
def tItems : PyData → List PyData
  | .tuple ds => ds
  | _ => []
def numD : PyData → Int
  | .int i => i
  | _ => 0
section
variable {K : PySem.W.Frag} {σ : L2.St} {H H' : Hp} {te ta tb : TE} {x y z v : V} {D : Ends} {tz tu : TS} {k j : Nat} {d e : PyData}
/-- a, b = a pair that stands -/
theorem q_unp2 {i j : Nat} {a : Addr} (h : Ev te σ H (.ref a)) (hs : SqT K H a [x, y]) (k : ∀ H1, Ex H H1 → tz D ((σ.set i (some x)).set j (some y)) H1) : tSeq (tAsg te (gTup K 2 (gCons (gName i) (gCons (gName j) gNil)))) tz D σ H :=
  h H (.refl H) _ fun H1 e1 => ⟨a, _, rfl, ex_t e1 hs, rfl, _, _, rfl, _, _, rfl, rfl, k H1 e1⟩
theorem q_unp3 {i j l : Nat} {a : Addr} (h : Ev te σ H (.ref a)) (hs : SqT K H a [x, y, z]) (k : ∀ H1, Ex H H1 → tz D (((σ.set i (some x)).set j (some y)).set l (some z)) H1) : tSeq (tAsg te (gTup K 3 (gCons (gName i) (gCons (gName j) (gCons (gName l) gNil))))) tz D σ H :=
  h H (.refl H) _ fun H1 e1 => ⟨a, _, rfl, ex_t e1 hs, rfl, _, _, rfl, _, _, rfl, _, _, rfl, rfl, k H1 e1⟩
/-- == of data -/
theorem eqG (g : Gd K H k x d) (g2 : Gd K H j y e) (hk : k ≤ 60) (hj : j ≤ 60) {Q : VK} (q : Q (.bl (PyData.eqv d e)) H) : rEqD K x y H Q := ⟨d, e, g.dp, g2.dp, fine_shaped hk g.fn, fine_shaped hj g2.fn, q⟩
theorem neG (g : Gd K H k x d) (g2 : Gd K H j y e) (hk : k ≤ 60) (hj : j ≤ 60) {Q : VK} (q : Q (.bl (!PyData.eqv d e)) H) : rNeD K x y H Q := ⟨d, e, g.dp, g2.dp, fine_shaped hk g.fn, fine_shaped hj g2.fn, q⟩
theorem ev_eqG (ha : Ev ta σ H x) (hb : Ev tb σ H y) (g : Gd K H k x d) (g2 : Gd K H j y e) (hk : k ≤ 60) (hj : j ≤ 60) : Ev (tOp (rEqD K) ta tb) σ H (.bl (PyData.eqv d e)) := fun H1 e1 Q q =>
  ha H1 e1 _ fun H2 e2 => hb H2 (e1.trans e2) _ fun H3 e3 => eqG (g.ex ((e1.trans e2).trans e3)) (g2.ex ((e1.trans e2).trans e3)) hk hj (q H3 (e2.trans e3))
theorem ev_neG (ha : Ev ta σ H x) (hb : Ev tb σ H y) (g : Gd K H k x d) (g2 : Gd K H j y e) (hk : k ≤ 60) (hj : j ≤ 60) : Ev (tOp (rNeD K) ta tb) σ H (.bl (!PyData.eqv d e)) := fun H1 e1 Q q =>
  ha H1 e1 _ fun H2 e2 => hb H2 (e1.trans e2) _ fun H3 e3 => neG (g.ex ((e1.trans e2).trans e3)) (g2.ex ((e1.trans e2).trans e3)) hk hj (q H3 (e2.trans e3))
theorem inV_ints {i : Int} {l : List Int} : inV (.int i) (l.map V.int) = decide (i ∈ l) := by
  unfold inV
  induction l with
  | nil => simp
  | cons s l ih =>
    rw [List.map_cons, List.any_cons, ih]
    show ((s == i) || decide (i ∈ l)) = _
    by_cases c : s = i
    · subst c; simp
    · have : (s == i) = false := by rw [beq_eq_false_iff_ne]; exact c
      rw [this, Bool.false_or]
      simp [Ne.symm c]
theorem flat_ints (l : List Int) : (l.map V.int).all flatV = true := by
  rw [List.all_eq_true]
  intro v hv
  obtain ⟨s, _, rfl⟩ := List.mem_map.mp hv
  rfl
theorem ev_inL {i : Int} {l : List Int} {p : Addr} (ha : Ev ta σ H (.int i)) (hb : Ev tb σ H (.ref p)) (hs : SqL K H p (l.map V.int)) : Ev (tOp (rIn K false) ta tb) σ H (.bl (decide (i ∈ l))) := by
  rw [← inV_ints]; exact ev_op ha hb (rv_isL hs rfl (flat_ints l))
theorem ev_inT {i : Int} {l : List Int} {p : Addr} (ha : Ev ta σ H (.int i)) (hb : Ev tb σ H (.ref p)) (hs : SqT K H p (l.map V.int)) : Ev (tOp (rIn K false) ta tb) σ H (.bl (decide (i ∈ l))) := by
  rw [← inV_ints]; exact ev_op ha hb (rv_isT hs rfl (flat_ints l))
theorem ev_ninL {i : Int} {l : List Int} {p : Addr} (ha : Ev ta σ H (.int i)) (hb : Ev tb σ H (.ref p)) (hs : SqL K H p (l.map V.int)) : Ev (tOp (rIn K true) ta tb) σ H (.bl (!decide (i ∈ l))) := by
  rw [← inV_ints]; exact ev_op ha hb (rv_niL hs rfl (flat_ints l))
/-- a list of ints against [] -/
theorem ev_eqInts {p : Addr} {ns : List Int} (h : Ev ta σ H (.ref p)) (hs : SqL K H p (ns.map V.int)) : Ev (tOp (rEqD K) ta (tLst tNil)) σ H (.bl ns.isEmpty) :=
  ev_opL h (el_lst ea_nil (Nat.zero_le _)) fun q H1 hq e H2 e2 Q w => ⟨.list (ns.map .int), .list [], .lst (ex_l (e.trans e2) hs) (dp_ints ns), .lst (sq_of (e2 q _ hq)) .nil, shaped_ints ns, rfl, by
    have z : PyData.eqv (.list (ns.map .int)) (.list []) = ns.isEmpty := by cases ns <;> simp [PyData.eqv, PyData.eqvAll]
    rw [z]
    exact w H2 (.refl _)⟩
/-- a comprehension over a tuple of pairs -/
theorem el_lcTp2 {t : TT} {a : Addr} {xs : List V} {tl : TE} {i j : Nat} {vs : List Nat} (f : Nat → Bool) (v : Nat → V) (h : Ev tl σ H (.ref a)) (hx : SqT K H a xs) (hz : xs.length ≤ 40000) (hw : ∀ x y, wipe (((wipe σ vs).set i (some x)).set j (some y)) vs = wipe σ vs)
    (hp : ∀ (m : Nat) (x : V), xs[m]? = some x → ∃ b x1 x2, x = .ref b ∧ SqT K H b [x1, x2] ∧ (∀ H1, Ex H H1 → EvT t (((wipe σ vs).set i (some x1)).set j (some x2)) H1 (f m)) ∧ (∀ H1, Ex H H1 → f m = true → Ev te (((wipe σ vs).set i (some x1)).set j (some x2)) H1 (v m))) :
    EvL (tLc (iTup K tl) (gTup K 2 (gCons (gName i) (gCons (gName j) gNil))) t te vs) σ H (given xs.length f v) := fun H0 e Q q => h H0 e _ fun H1 e1 => ⟨a, rfl, ⟨xs, ex_t (e.trans e1) hx⟩, fun Dl hD =>
  lc_tup (xs := xs) (Cw H1 f v Dl) ⟨hD, Ex.new hD, upd_same⟩ (fun i H' _ p => ex_t ((e.trans e1).trans p.2.1) hx)
    (fun m x H' hi p => by
      obtain ⟨b, x1, x2, rfl, hb, ht, he⟩ := hp m x hi
      exact ⟨b, _, rfl, ex_t ((e.trans e1).trans p.2.1) hb, rfl, x1, _, rfl, x2, _, rfl, rfl, hw _ _, cw_turn p (by have := (List.getElem?_eq_some_iff.mp hi).1; omega) (ht H1 (e.trans e1)) (fun hf => he H1 (e.trans e1) hf)⟩) (fun H' p => q Dl H' (fresh_back e1 p.1) (e1.trans p.2.1) p.2.2)⟩
end
theorem range_get {α : Type} (l : List α) (z : α) : (List.range l.length).map (fun i => l.getD i z) = l := by
  have := range_getD l z (fun x => x)
  rwa [List.map_id'] at this
theorem given_filter (l : List Int) (g : Int → Bool) : given l.length (fun i => g (l.getD i 0)) (fun i => V.int (l.getD i 0)) = (l.filter g).map V.int := by
  unfold given
  conv => rhs; rw [← range_get l 0, List.filter_map, List.map_map]
  rfl
theorem given_ints (n : Nat) (v : Nat → Int) : given n (fun _ => true) (fun i => V.int (v i)) = ((List.range n).map v).map V.int := by
  rw [given_true, List.map_map]; rfl
theorem map_ints {l : List Int} {f : Int → Int} : (List.range l.length).map (fun i => f (l.getD i 0)) = l.map f := range_getD l 0 f
theorem rf_at {refs : List Addr} {i : Nat} {x : V} (h : (refs.map V.ref)[i]? = some x) : ∃ b, refs[i]? = some b ∧ x = .ref b := by
  rw [List.getElem?_map] at h
  cases e : refs[i]? with
  | none => rw [e] at h; cases h
  | some b => rw [e] at h; injection h with h; exact ⟨b, rfl, h.symm⟩
/-- two rising lots with the same members are one -/
theorem pw_ext : ∀ {a b : List Nat}, a.Pairwise (· < ·) → b.Pairwise (· < ·) → (∀ i, i ∈ a ↔ i ∈ b) → a = b
  | [], [], _, _, _ => rfl
  | [], y :: b, _, _, h => absurd ((h y).mpr List.mem_cons_self) List.not_mem_nil
  | x :: a, [], _, _, h => absurd ((h x).mp List.mem_cons_self) List.not_mem_nil
  | x :: a, y :: b, ha, hb, h => by
    rw [List.pairwise_cons] at ha hb
    have e : x = y := by
      rcases List.mem_cons.mp ((h x).mp List.mem_cons_self) with q | q
      · exact q
      · rcases List.mem_cons.mp ((h y).mpr List.mem_cons_self) with r | r
        · exact r.symm
        · have := ha.1 y r; have := hb.1 x q; omega
    subst e
    rw [pw_ext ha.2 hb.2 fun i => ?_]
    constructor
    · intro hi
      rcases List.mem_cons.mp ((h i).mp (List.mem_cons_of_mem _ hi)) with q | q
      · have := ha.1 i hi; omega
      · exact q
    · intro hi
      rcases List.mem_cons.mp ((h i).mpr (List.mem_cons_of_mem _ hi)) with q | q
      · have := hb.1 i hi; omega
      · exact q
/-! ### sums of rows -/
def wsumT (p : Int) (w : Nat) (wt : Ro) (R : Mx) (k : Nat) : Ro := (List.range w).map fun i => sumTo (fun x => nth wt x * ent R x i) k % p
def wsum (s : Shp) (wt : Ro) (R : Mx) : Ro := wsumT s.p s.w wt R s.n
def sumsM (s : Shp) (R : Mx) : Mx := s.t.map fun wt => wsum s wt R
def stripeM (s : Shp) (R : Mx) : Mx := sumsM s R ++ R
theorem len_wsumT {p : Int} {w : Nat} {wt : Ro} {R : Mx} {k : Nat} : (wsumT p w wt R k).length = w := by simp [wsumT]
theorem nth_wsumT {p : Int} {w : Nat} {wt : Ro} {R : Mx} {k i : Nat} (h : i < w) : nth (wsumT p w wt R k) i = sumTo (fun x => nth wt x * ent R x i) k % p := by
  show (wsumT p w wt R k).getD i 0 = _
  rw [getD_lt (by rw [len_wsumT]; exact h)]
  unfold wsumT
  rw [List.getElem_map, List.getElem_range]
theorem wf_wsumT {p : Int} {w : Nat} {wt : Ro} {R : Mx} {k : Nat} (hp : 0 < p) : ∀ x ∈ wsumT p w wt R k, 0 ≤ x ∧ x < p := fun x hx => by
  obtain ⟨i, _, rfl⟩ := List.mem_map.mp hx
  exact ⟨Int.emod_nonneg _ (by omega), Int.emod_lt_of_pos _ hp⟩
theorem wsumT_zero {p : Int} {w : Nat} {wt : Ro} {R : Mx} : wsumT p w wt R 0 = List.replicate w 0 := by
  unfold wsumT
  rw [List.eq_replicate_iff]
  refine ⟨by simp, fun x hx => ?_⟩
  obtain ⟨i, _, rfl⟩ := List.mem_map.mp hx
  exact Int.zero_emod p
theorem wsumT_step {p : Int} {w : Nat} {wt : Ro} {R : Mx} {k i : Nat} (h : i < w) : (nth (wsumT p w wt R k) i + nth wt k * ent R k i) % p = nth (wsumT p w wt R (k + 1)) i := by
  rw [nth_wsumT h, nth_wsumT h, Int.emod_add_emod]
  rfl
theorem len_sumsM {s : Shp} {R : Mx} : (sumsM s R).length = s.c := by simp [sumsM, Shp.c]
theorem row_sumsM {s : Shp} {R : Mx} {j : Nat} (h : j < s.c) : row (sumsM s R) j = wsum s (row s.t j) R := by
  unfold sumsM
  show (List.map _ _).getD j [] = _
  rw [getD_lt (by rw [List.length_map]; exact h), List.getElem_map]
  show wsum s _ R = wsum s (s.t.getD j []) R
  rw [getD_lt (show j < s.t.length from h)]
theorem len_stripeM {s : Shp} {R : Mx} : (stripeM s R).length = s.c + R.length := by simp [stripeM, len_sumsM]
theorem wf_stripeM {s : Shp} {R : Mx} (hp : 0 < s.p) (w : WF s.p s.w R) : WF s.p s.w (stripeM s R) := fun r hr => by
  rcases List.mem_append.mp hr with h | h
  · obtain ⟨wt, _, rfl⟩ := List.mem_map.mp h
    exact ⟨len_wsumT, wf_wsumT hp⟩
  · exact w r h
/-! ### changes, stories, as objects -/
def setAll (R : Mx) : List (Nat × Ro) → Mx
  | [] => R
  | c :: cs => setAll (R.set c.1 c.2) cs
theorem len_setAll : ∀ {cs : List (Nat × Ro)} {R : Mx}, (setAll R cs).length = R.length
  | [], _ => rfl
  | c :: cs, R => by show (setAll (R.set c.1 c.2) cs).length = _; rw [len_setAll]; simp
theorem wf_set {p : Int} {w i : Nat} {R : Mx} {r : Ro} (h : WF p w R) (hr : r.length = w ∧ ∀ x ∈ r, 0 ≤ x ∧ x < p) : WF p w (R.set i r) := fun x hx => by
  rcases List.mem_or_eq_of_mem_set hx with q | q
  · exact h x q
  · rw [q]; exact hr
theorem wf_setAll {p : Int} {w : Nat} : ∀ {cs : List (Nat × Ro)} {R : Mx}, WF p w R → (∀ c ∈ cs, c.2.length = w ∧ ∀ x ∈ c.2, 0 ≤ x ∧ x < p) → WF p w (setAll R cs)
  | [], _, h, _ => h
  | c :: cs, R, h, hc => wf_setAll (cs := cs) (R := R.set c.1 c.2) (wf_set h (hc c List.mem_cons_self)) fun d hd => hc d (List.mem_cons_of_mem _ hd)
theorem setAll_snoc : ∀ {cs : List (Nat × Ro)} {R : Mx} {c : Nat × Ro}, setAll R (cs ++ [c]) = (setAll R cs).set c.1 c.2
  | [], _, _ => rfl
  | d :: cs, R, c => setAll_snoc (cs := cs) (R := R.set d.1 d.2)
structure Sto where
  r : Mx
  ch : List (Nat × Ro)
  cm : List Nat
def Sto.b (t : Sto) : Mx := setAll t.r t.ch
def natI (l : List Nat) : List Int := l.map fun (i : Nat) => (i : Int)
def chD (ch : List (Nat × Ro)) : PyData := .tuple (ch.map fun c => .tuple [.int c.1, intsD c.2])
def stD (t : Sto) : PyData := .tuple [matD t.r, chD t.ch, intsD (natI t.cm)]
structure Sto.Ok (s : Shp) (t : Sto) : Prop where
  r : WF s.p s.w t.r
  n : t.r.length = s.n
  k : t.ch.length ≤ s.k
  c : ∀ c ∈ t.ch, c.1 < s.n ∧ c.2.length = s.w ∧ (∀ x ∈ c.2, 0 ≤ x ∧ x < s.p) ∧ c.2 ≠ row t.r c.1
  cs : (t.ch.map (·.1)).Pairwise (· < ·)
  m : ∀ i ∈ t.cm, i < s.c + s.n
  ms : t.cm.Pairwise (· < ·)
  mc : ∀ i ∈ t.cm, s.c ≤ i → ∃ c ∈ t.ch, i = s.c + c.1
  w : s.m = 0 ∨ (∀ i ∈ t.cm, i < s.c) ∨ (∀ j, j < s.c → j ∈ t.cm)
def CH (K : PySem.W.Frag) (c : Addr) (ch : List (Nat × Ro)) (H : Hp) : Prop := ∃ refs : List Addr, SqT K H c (refs.map V.ref) ∧ refs.length = ch.length ∧ ∀ (i : Nat) (b : Addr) (x : Nat × Ro), refs[i]? = some b → ch[i]? = some x → ∃ cb, SqT K H b [.int x.1, .ref cb] ∧ SqT K H cb (x.2.map V.int)
def St (K : PySem.W.Frag) (a : Addr) (t : Sto) (H : Hp) : Prop := ∃ r c m, SqT K H a [.ref r, .ref c, .ref m] ∧ MT K r t.r H ∧ CH K c t.ch H ∧ SqT K H m ((natI t.cm).map V.int)
/-- a list of cells that may be set -/
def MTl (K : PySem.W.Frag) (l : Addr) (M : Mx) (H : Hp) : Prop := ∃ refs : List Addr, H l = some (.lst (refs.map V.ref)) ∧ refs.length = M.length ∧ ∀ i b, refs[i]? = some b → SqT K H b ((row M i).map V.int)
def CellV (K : PySem.W.Frag) (H : Hp) (v : V) : Option Ro → Prop
  | none => v = .non
  | some r => ∃ b, v = .ref b ∧ SqT K H b (r.map V.int)
/-- a list, a tuple of N cells or Nones -/
def LO (K : PySem.W.Frag) (l : Addr) (N : Nat) (f : Nat → Option Ro) (H : Hp) : Prop := ∃ vs, H l = some (.lst vs) ∧ vs.length = N ∧ ∀ i v, vs[i]? = some v → CellV K H v (f i)
def TupO (K : PySem.W.Frag) (l : Addr) (N : Nat) (f : Nat → Option Ro) (H : Hp) : Prop := ∃ vs, SqT K H l vs ∧ vs.length = N ∧ ∀ i v, vs[i]? = some v → CellV K H v (f i)
section
variable {K : PySem.W.Frag} {σ : L2.St} {H H' : Hp} {te ta tb : TE} {x y z v : V} {D : Ends} {tz tu : TS} {a l : Addr} {M : Mx} {N : Nat} {f : Nat → Option Ro} {o : Option Ro}
theorem CellV.kp (e : Kp H H') (h : CellV K H v o) : CellV K H' v o := by
  cases o with
  | none => exact h
  | some r => obtain ⟨b, h1, h2⟩ := h; exact ⟨b, h1, e.sqT h2⟩
theorem CH.kp {c : Addr} {ch : List (Nat × Ro)} (e : Kp H H') (h : CH K c ch H) : CH K c ch H' := let ⟨refs, h1, h2, h3⟩ := h; ⟨refs, e.sqT h1, h2, fun i b x hb hx => let ⟨cb, q1, q2⟩ := h3 i b x hb hx; ⟨cb, e.sqT q1, e.sqT q2⟩⟩
theorem St.kp {t : Sto} (e : Kp H H') (h : St K a t H) : St K a t H' := let ⟨r, c, m, h1, h2, h3, h4⟩ := h; ⟨r, c, m, e.sqT h1, h2.kp e, h3.kp e, e.sqT h4⟩
theorem St.ex {t : Sto} (e : Ex H H') (h : St K a t H) : St K a t H' := h.kp (.ex e)
theorem TupO.kp (e : Kp H H') (h : TupO K l N f H) : TupO K l N f H' := let ⟨vs, h1, h2, h3⟩ := h; ⟨vs, e.sqT h1, h2, fun i v hv => (h3 i v hv).kp e⟩
theorem LO.ex (e : Ex H H') (h : LO K l N f H) : LO K l N f H' := let ⟨vs, h1, h2, h3⟩ := h; ⟨vs, e _ _ h1, h2, fun i v hv => (h3 i v hv).kp (.ex e)⟩
theorem LO.set {j : Nat} (h : LO K l N f H) (hj : j < N) (hv : CellV K H v o) : ∃ vs, H l = some (.lst vs) ∧ j < vs.length ∧ LO K l N (fun i => if i = j then o else f i) (upd H l (.lst (vs.set j v))) := by
  obtain ⟨vs, h1, h2, h3⟩ := h
  refine ⟨vs, h1, by omega, _, upd_same, by rw [List.length_set, h2], fun i w hw => ?_⟩
  rw [List.getElem?_set] at hw
  by_cases c : j = i
  · subst c
    rw [if_pos rfl, if_pos (by omega)] at hw
    injection hw with hw
    subst hw
    show CellV K _ _ (if j = j then o else f j)
    rw [if_pos rfl]
    exact hv.kp (.lst h1)
  · rw [if_neg c] at hw
    show CellV K _ _ (if i = j then o else f i)
    rw [if_neg (Ne.symm c)]
    exact (h3 i w hw).kp (.lst h1)
/-- tuple(l) -/
theorem en_tupO (h : Ev te σ H (.ref l)) (hl : LO K l N f H) : EvN (tCB (rTupOf K) (tCons te tNil)) σ H (fun t H' => TupO K t N f H') := fun H1 e Q q => by
  obtain ⟨vs, h1, h2, h3⟩ := hl
  exact h H1 e _ fun H2 e2 => ⟨l, vs, rfl, .inl ⟨sq_of ((e.trans e2) _ _ h1), fun t nt => q t _ (fresh_back e2 nt) (e2.trans (Ex.new nt)) ⟨vs, st_of upd_same, h2, fun i v hv => (h3 i v hv).kp (.ex ((e.trans e2).trans (Ex.new nt)))⟩⟩⟩
/-- l[j] = v -/
theorem s_setO {j : Nat} (hl : LO K l N f H) (h : Ev te σ H v) (hv : CellV K H v o) (ho : Ev ta σ H (.ref l)) (hi : Ev tb σ H (.int (j : Int))) (hj : j < N) (k : ∀ H1 vs, Ex H H1 → LO K l N (fun i => if i = j then o else f i) (upd H1 l (.lst vs)) → D.nx σ (upd H1 l (.lst vs))) :
    tAsg te (gSub ta tb rSetL) D σ H := by
  obtain ⟨vs, h1, h2, h3⟩ := id hl
  refine s_setL (j := j) h1 h ho hi (by omega) fun H1 e1 => k H1 _ e1 ?_
  obtain ⟨vs', q1, q2, q3⟩ := (hl.ex e1).set hj (hv.kp (.ex e1))
  rw [e1 _ _ h1] at q1
  injection q1 with q1
  injection q1 with q1
  subst q1
  exact q3
end
end Own


set_option maxHeartbeats 1000000
namespace Own
open PySem PySem.Spec PyProof.Rows L2
open Evl
/-! ### comprehensions that draw -/
def PLsX (H0 : Hp) (a : Addr) (n : Nat) (P : Nat → VP) : VP := fun v H => ∃ b xs, v = .ref b ∧ H0 b = none ∧ b ≠ a ∧ H b = some (.lst xs) ∧ xs.length = n ∧ ∀ i x, xs[i]? = some x → P i x H
def PTX (K : PySem.W.Frag) (n : Nat) (P : Nat → VP) : VP := fun v H => ∃ b xs, v = .ref b ∧ SqT K H b xs ∧ xs.length = n ∧ ∀ i x, xs[i]? = some x → P i x H
/-- a new list of some of n things, in their order -/
def PSubF (H0 : Hp) (a : Addr) (n : Nat) (v : Nat → V) : VP := fun x H => ∃ (b : Addr) (S : List Nat), x = .ref b ∧ H0 b = none ∧ b ≠ a ∧ H b = some (.lst (S.map v)) ∧ S.Pairwise (· < ·) ∧ ∀ i ∈ S, i < n
/-- a test that draws -/
def EvST (a : Addr) (tt : TT) (σ : L2.St) (H : Hp) : Prop := ∀ H1, Up a H H1 → ∀ Q : Bool → Hp → Prop, (∀ b H2, Up a H1 H2 → Q b H2) → tt σ H1 Q
section
variable {K : PySem.W.Frag} {a : Addr} {σ : L2.St} {H H' : Hp} {te ta tb tl : TE} {tt uu : TT} {x y z w v : V} {D : Ends} {tz tu t : TS} {P : VP}
theorem up_mut {b : Addr} {o : HO} {H0 : Hp} (u : Up a H0 H) (nb : b ≠ a) (hb : H0 b = none) : Up a H0 (upd H b o) := ⟨fun c q nc hc => by rw [upd_ne (ne_of_none hc hb)]; exact u.keep c q nc hc, let ⟨x, y, h, r⟩ := u.src; ⟨x, y, by rw [upd_ne nb.symm]; exact h, r⟩⟩
theorem snoc_at {α : Type} {l : List α} {y x : α} {i : Nat} (h : (l ++ [y])[i]? = some x) : (i < l.length ∧ l[i]? = some x) ∨ (i = l.length ∧ x = y) := by
  by_cases c : i < l.length
  · rw [List.getElem?_append_left c] at h; exact .inl ⟨c, h⟩
  · rw [List.getElem?_append_right (by omega)] at h
    have z : i - l.length = 0 := by
      refine Nat.eq_zero_of_not_pos fun q => ?_
      rw [List.getElem?_eq_none (by simp; omega)] at h
      cases h
    rw [z] at h
    simp at h
    exact .inr ⟨by omega, h.symm⟩
/-- the step of a comprehension whose item is drawn -/
theorem lcD_step {P : Nat → VP} (mk : ∀ i, MonoK (P i)) {H2 H3 H4 : Hp} {Dl : Addr} {acc : List V} {y : V} {n : Nat} (hD : H2 Dl = none) (nD : Dl ≠ a) (u3 : Up a H2 H3) (hacc : H3 Dl = some (.lst acc)) (hl : acc.length = n) (hp : ∀ i x, acc[i]? = some x → P i x H3) (u4 : Up a H3 H4) (py : P n y H4) :
    Up a H2 (upd H4 Dl (.lst (acc ++ [y]))) ∧ ∃ ac2, (upd H4 Dl (.lst (acc ++ [y]))) Dl = some (.lst ac2) ∧ ac2.length = n + 1 ∧ ∀ i x, ac2[i]? = some x → P i x (upd H4 Dl (.lst (acc ++ [y]))) := by
  have h4 := u4.keep Dl _ nD hacc
  have kp : Kp H3 (upd H4 Dl (.lst (acc ++ [y]))) := (u4.kp u3.src).trans (.lst h4)
  refine ⟨up_mut (u3.trans u4) nD hD, _, upd_same, by rw [List.length_append, hl]; rfl, fun i x hx => ?_⟩
  rcases snoc_at hx with ⟨_, q⟩ | ⟨q1, q2⟩
  · exact mk i x _ _ kp (hp i x q)
  · rw [q1, hl, q2]; exact mk n y _ _ (.lst h4) py
theorem es_lcE {P : Nat → VP} {elt : TE} {j n : Nat} {vs : List Nat} (e0 : ∀ H1, Up a H H1 → Ev te σ H1 (.int (n : Int))) (hn : n ≤ 1000) (hw : ∀ x, wipe ((wipe σ vs).set j (some x)) vs = wipe σ vs)
    (he : ∀ (i : Nat) H1, Up a H H1 → i < n → EvS a elt ((wipe σ vs).set j (some (.int (i : Int)))) H1 (P i)) (mk : ∀ i, MonoK (P i)) : EvS a (tLc (iRng1 (tCons te tNil)) (gName j) tYes elt vs) σ H (PLsX H a n P) :=
  fun H1 u Q q => e0 H1 u H1 (.refl H1) _ fun H2 e2 => ⟨(n : Int), rfl, by omega, by omega, fun Dl hD => by
    have uE := u.trans (.ex e2 u.src)
    have nD : Dl ≠ a := uE.src.new hD
    exact lc_range (lo := 0) (n := (n : Int).toNat) (fun i H' => Up a H2 H' ∧ ∃ acc, H' Dl = some (.lst acc) ∧ acc.length = i ∧ ∀ k x, acc[k]? = some x → P k x H') ⟨.ex (Ex.new hD) uE.src, [], upd_same, rfl, fun k x h => by simp at h⟩
      (fun i H' hi ⟨u3, acc, hacc, hl, hp⟩ => by
        show wipe ((wipe σ vs).set j (some (.int ((0 : Int) + (i : Int))))) vs = wipe σ vs ∧ elt ((wipe σ vs).set j (some (.int ((0 : Int) + (i : Int))))) H' fun y H4 => ∃ acc, H4 Dl = some (.lst acc) ∧ acc.length < sizeLine ∧ (Up a H2 (upd H4 Dl (.lst (acc ++ [y]))) ∧ ∃ ac2, (upd H4 Dl (.lst (acc ++ [y]))) Dl = some (.lst ac2) ∧ ac2.length = i + 1 ∧ ∀ k x, ac2[k]? = some x → P k x (upd H4 Dl (.lst (acc ++ [y]))))
        rw [Int.zero_add]
        exact ⟨hw _, he i H' (uE.trans u3) (by omega) H' (.refl u3.src) _ fun y H4 u4 py => ⟨acc, u4.keep Dl _ nD hacc, sz_lt (by omega), lcD_step mk hD nD u3 hacc hl hp u4 py⟩⟩)
      (fun H' ⟨u3, acc, hacc, hl, hp⟩ => q _ _ ((Up.ex e2 u.src).trans u3) ⟨Dl, acc, rfl, up_back uE nD hD, nD, hacc, by omega, hp⟩)⟩
/-- .. over a list that stands -/
theorem es_lcLi {P : Nat → VP} {elt : TE} {j : Nat} {l : Addr} {xs : List V} {vs : List Nat} (nl : l ≠ a) (hl0 : H l = some (.lst xs)) (e0 : ∀ H1, Up a H H1 → Ev te σ H1 (.ref l)) (hn : xs.length ≤ 1000) (hw : ∀ x, wipe ((wipe σ vs).set j (some x)) vs = wipe σ vs)
    (he : ∀ (i : Nat) (x : V) H1, Up a H H1 → xs[i]? = some x → EvS a elt ((wipe σ vs).set j (some x)) H1 (P i)) (mk : ∀ i, MonoK (P i)) : EvS a (tLc (iList K te) (gName j) tYes elt vs) σ H (PLsX H a xs.length P) :=
  fun H1 u Q q => e0 H1 u H1 (.refl H1) _ fun H2 e2 => ⟨l, rfl, ⟨xs, sq_of (e2 _ _ (u.keep l _ nl hl0))⟩, fun Dl hD => by
    have uE := u.trans (.ex e2 u.src)
    have nD : Dl ≠ a := uE.src.new hD
    exact lc_list (xs := xs) (fun i H' => Up a H2 H' ∧ ∃ acc, H' Dl = some (.lst acc) ∧ acc.length = i ∧ ∀ k x, acc[k]? = some x → P k x H') ⟨.ex (Ex.new hD) uE.src, [], upd_same, rfl, fun k x h => by simp at h⟩
      (fun i H' _ p => sq_of ((uE.trans p.1).keep l _ nl hl0))
      (fun i x H' hi ⟨u3, acc, hacc, hl, hp⟩ => ⟨hw _, yesT (he i x H' (uE.trans u3) hi H' (.refl u3.src) _ fun y H4 u4 py => ⟨acc, u4.keep Dl _ nD hacc, sz_lt (by have := (List.getElem?_eq_some_iff.mp hi).1; omega), lcD_step mk hD nD u3 hacc hl hp u4 py⟩)⟩)
      (fun H' ⟨u3, acc, hacc, hl, hp⟩ => q _ _ ((Up.ex e2 u.src).trans u3) ⟨Dl, acc, rfl, up_back uE nD hD, nD, hacc, by omega, hp⟩)⟩
/-- [v(j) for j in range(n) if a test that draws] -/
theorem es_lcRT {elt : TE} {j n : Nat} {vs : List Nat} (v : Nat → V) (e0 : ∀ H1, Up a H H1 → Ev te σ H1 (.int (n : Int))) (hn : n ≤ 1000) (hw : ∀ x, wipe ((wipe σ vs).set j (some x)) vs = wipe σ vs)
    (ht : ∀ (i : Nat) H1, Up a H H1 → i < n → EvST a tt ((wipe σ vs).set j (some (.int (i : Int)))) H1) (he : ∀ (i : Nat) H1, Up a H H1 → i < n → Ev elt ((wipe σ vs).set j (some (.int (i : Int)))) H1 (v i)) : EvS a (tLc (iRng1 (tCons te tNil)) (gName j) tt elt vs) σ H (PSubF H a n v) :=
  fun H1 u Q q => e0 H1 u H1 (.refl H1) _ fun H2 e2 => ⟨(n : Int), rfl, by omega, by omega, fun Dl hD => by
    have uE := u.trans (.ex e2 u.src)
    have nD : Dl ≠ a := uE.src.new hD
    exact lc_range (lo := 0) (n := (n : Int).toNat) (fun i H' => Up a H2 H' ∧ ∃ S : List Nat, H' Dl = some (.lst (S.map v)) ∧ S.Pairwise (· < ·) ∧ (∀ k ∈ S, k < i) ∧ S.length ≤ i) ⟨.ex (Ex.new hD) uE.src, [], upd_same, .nil, fun k h => absurd h List.not_mem_nil, Nat.le_refl 0⟩
      (fun i H' hi ⟨u3, S, hacc, hS, hlt, hSl⟩ => by
        show wipe ((wipe σ vs).set j (some (.int ((0 : Int) + (i : Int))))) vs = wipe σ vs ∧ tt ((wipe σ vs).set j (some (.int ((0 : Int) + (i : Int))))) H' fun b H3 => if b = true then elt ((wipe σ vs).set j (some (.int ((0 : Int) + (i : Int))))) H3 fun y H4 => ∃ acc, H4 Dl = some (.lst acc) ∧ acc.length < sizeLine ∧ (Up a H2 (upd H4 Dl (.lst (acc ++ [y]))) ∧ ∃ S : List Nat, (upd H4 Dl (.lst (acc ++ [y]))) Dl = some (.lst (S.map v)) ∧ S.Pairwise (· < ·) ∧ (∀ k ∈ S, k < i + 1) ∧ S.length ≤ i + 1)
          else (Up a H2 H3 ∧ ∃ S : List Nat, H3 Dl = some (.lst (S.map v)) ∧ S.Pairwise (· < ·) ∧ (∀ k ∈ S, k < i + 1) ∧ S.length ≤ i + 1)
        rw [Int.zero_add]
        refine ⟨hw _, ht i H' (uE.trans u3) (by omega) H' (.refl u3.src) _ fun b H3 u4 => ?_⟩
        have h3 := u4.keep Dl _ nD hacc
        cases b with
        | false => exact ⟨u3.trans u4, S, h3, hS, fun k hk => by have := hlt k hk; omega, by omega⟩
        | true =>
          refine he i H3 ((uE.trans u3).trans u4) (by omega) H3 (.refl H3) _ fun H4 e4 => ⟨S.map v, e4 _ _ h3, sz_lt (by rw [List.length_map]; omega), up_mut ((u3.trans u4).trans (.ex e4 u4.src)) nD hD, S ++ [i], by rw [upd_same, List.map_append]; rfl, ?_, fun k hk => ?_, by simp; omega⟩
          · rw [List.pairwise_append]
            exact ⟨hS, by simp, fun x hx y hy => by rw [List.mem_singleton.mp hy]; exact hlt x hx⟩
          · rcases List.mem_append.mp hk with q | q
            · have := hlt k q; omega
            · rw [List.mem_singleton.mp q]; omega)
      (fun H' ⟨u3, S, hacc, hS, hlt, _⟩ => q _ _ ((Up.ex e2 u.src).trans u3) ⟨Dl, S, rfl, up_back uE nD hD, nD, hacc, hS, fun k hk => hlt k hk⟩)⟩
/-- [v(x) for x in xs if a test that draws] -/
theorem es_lcLT {elt : TE} {j : Nat} {l : Addr} {xs : List V} {vs : List Nat} (v : Nat → V) (nl : l ≠ a) (hl0 : H l = some (.lst xs)) (e0 : ∀ H1, Up a H H1 → Ev te σ H1 (.ref l)) (hn : xs.length ≤ 1000) (hw : ∀ x, wipe ((wipe σ vs).set j (some x)) vs = wipe σ vs)
    (ht : ∀ (i : Nat) (x : V) H1, Up a H H1 → xs[i]? = some x → EvST a tt ((wipe σ vs).set j (some x)) H1) (he : ∀ (i : Nat) (x : V) H1, Up a H H1 → xs[i]? = some x → Ev elt ((wipe σ vs).set j (some x)) H1 (v i)) : EvS a (tLc (iList K te) (gName j) tt elt vs) σ H (PSubF H a xs.length v) :=
  fun H1 u Q q => e0 H1 u H1 (.refl H1) _ fun H2 e2 => ⟨l, rfl, ⟨xs, sq_of (e2 _ _ (u.keep l _ nl hl0))⟩, fun Dl hD => by
    have uE := u.trans (.ex e2 u.src)
    have nD : Dl ≠ a := uE.src.new hD
    exact lc_list (xs := xs) (fun i H' => Up a H2 H' ∧ ∃ S : List Nat, H' Dl = some (.lst (S.map v)) ∧ S.Pairwise (· < ·) ∧ (∀ k ∈ S, k < i) ∧ S.length ≤ i) ⟨.ex (Ex.new hD) uE.src, [], upd_same, .nil, fun k h => absurd h List.not_mem_nil, Nat.le_refl 0⟩
      (fun i H' _ p => sq_of ((uE.trans p.1).keep l _ nl hl0))
      (fun i x H' hi ⟨u3, S, hacc, hS, hlt, hSl⟩ => by
        have hix := (List.getElem?_eq_some_iff.mp hi).1
        refine ⟨hw _, ht i x H' (uE.trans u3) hi H' (.refl u3.src) _ fun b H3 u4 => ?_⟩
        have h3 := u4.keep Dl _ nD hacc
        cases b with
        | false => exact ⟨u3.trans u4, S, h3, hS, fun k hk => by have := hlt k hk; omega, by omega⟩
        | true =>
          refine he i x H3 ((uE.trans u3).trans u4) hi H3 (.refl H3) _ fun H4 e4 => ⟨S.map v, e4 _ _ h3, sz_lt (by rw [List.length_map]; omega), up_mut ((u3.trans u4).trans (.ex e4 u4.src)) nD hD, S ++ [i], by rw [upd_same, List.map_append]; rfl, ?_, fun k hk => ?_, by simp; omega⟩
          · rw [List.pairwise_append]
            exact ⟨hS, by simp, fun x hx y hy => by rw [List.mem_singleton.mp hy]; exact hlt x hx⟩
          · rcases List.mem_append.mp hk with q | q
            · have := hlt k q; omega
            · rw [List.mem_singleton.mp q]; omega)
      (fun H' ⟨u3, S, hacc, hS, hlt, _⟩ => q _ _ ((Up.ex e2 u.src).trans u3) ⟨Dl, S, rfl, up_back uE nD hD, nD, hacc, hS, fun k hk => hlt k hk⟩)⟩
theorem es_tupX {H0 : Hp} {n : Nat} {P : Nat → VP} (h : EvS a te σ H (PLsX H0 a n P)) (mk : ∀ i, MonoK (P i)) : EvS a (tCB (rTupOf K) (tCons te tNil)) σ H (PTX K n P) :=
  fun H1 u Q q => h H1 u _ fun v H2 u2 ⟨b, xs, ev, _, _, hb, hl, hp⟩ => ⟨b, xs, by rw [ev], .inl ⟨sq_of hb, fun l hl2 => q _ _ (u2.trans (.ex (Ex.new hl2) u2.src)) ⟨l, xs, rfl, st_of upd_same, hl, fun i x hx => mk i x _ _ (.new hl2) (hp i x hx)⟩⟩⟩
theorem monoK_ptx {n : Nat} {P : Nat → VP} (m : ∀ i, MonoK (P i)) : MonoK (PTX K n P) := fun _ _ _ e ⟨b, xs, ev, hb, hl, hp⟩ => ⟨b, xs, ev, e.sqT hb, hl, fun i x hx => m i x _ _ e (hp i x hx)⟩
theorem et_st (h : EvS a te σ H (fun v _ => ∃ b, v = .bl b)) : EvST a (tTest te) σ H := fun H1 u Q q => h H1 u _ fun v H2 u2 ⟨b, e⟩ => ⟨b, e, q b H2 u2⟩
theorem est_or (h : EvST a tt σ H) (h2 : EvST a uu σ H) : EvST a (tOr tt uu) σ H := fun H1 u Q q => h H1 u _ fun b H2 u2 => by
  cases b with
  | true => exact q true H2 u2
  | false => exact h2 H2 (u.trans u2) Q fun b H3 u3 => q b H3 (u2.trans u3)
theorem est_and (h : EvST a tt σ H) (h2 : EvST a uu σ H) : EvST a (tAnd tt uu) σ H := fun H1 u Q q => h H1 u _ fun b H2 u2 => by
  cases b with
  | false => exact q false H2 u2
  | true => exact h2 H2 (u.trans u2) Q fun b H3 u3 => q b H3 (u2.trans u3)
theorem est_of {f : Hp → Bool} (h : ∀ H1, Up a H H1 → EvT tt σ H1 (f H1)) : EvST a tt σ H := fun H1 u Q q => h H1 u H1 (.refl H1) Q fun H2 e2 => q _ H2 (.ex e2 u.src)
/-- number of a draw against one that is written -/
theorem est_cmpEq {lo hi k : Int} (h : EvS a te σ H (PInt lo hi)) : EvST a (tTest (tOp rEq te (tC (.int k)))) σ H := fun H1 u Q q => h H1 u _ fun v H2 u2 ⟨i, e, _⟩ => by
  subst e
  exact ⟨rfl, _, rfl, q _ H2 u2⟩
theorem est_cmpGt {lo hi k : Int} (h : EvS a te σ H (PInt lo hi)) : EvST a (tTest (tOp rGtI te (tC (.int k)))) σ H := fun H1 u Q q => h H1 u _ fun v H2 u2 ⟨i, e, _⟩ => by
  subst e
  exact ⟨i, k, rfl, rfl, _, rfl, q _ H2 u2⟩
/-- a tuple of rows, drawn -/
def PMat (K : PySem.W.Frag) (p : Int) (w n : Nat) : VP := fun v H => ∃ t M, v = .ref t ∧ MT K t M H ∧ WF p w M ∧ M.length = n
theorem monoK_mat {p : Int} {w n : Nat} : MonoK (PMat K p w n) := fun _ _ _ e ⟨t, M, ev, h1, h2⟩ => ⟨t, M, ev, h1.kp e, h2⟩
theorem mat_of {p : Int} {w n : Nat} (h : PTX K n (fun _ => Rig K p w) v H) : PMat K p w n v H := by
  obtain ⟨b, xs, rfl, hb, hl, hp⟩ := h
  have key : ∀ xs : List V, (∀ (i : Nat) x, xs[i]? = some x → Rig K p w x H) → ∃ (refs : List Addr) (M : Mx), xs = refs.map V.ref ∧ refs.length = M.length ∧ WF p w M ∧ ∀ i b, refs[i]? = some b → SqT K H b ((row M i).map V.int) := fun xs => by
    induction xs with
    | nil => exact fun _ => ⟨[], [], rfl, rfl, fun r hr => absurd hr List.not_mem_nil, fun i b hb => by simp at hb⟩
    | cons x xs ih =>
      intro h
      obtain ⟨refs, M, e, hl, w', hr⟩ := ih fun i y hy => h (i + 1) y (by simpa using hy)
      obtain ⟨c, r, rfl, hc, hrl, hrb⟩ := h 0 x rfl
      refine ⟨c :: refs, r :: M, by rw [e]; rfl, by simp [hl], fun y hy => ?_, fun i d hd => ?_⟩
      · rcases List.mem_cons.mp hy with q | q
        · rw [q]; exact ⟨hrl, hrb⟩
        · exact w' y q
      · cases i with
        | zero => simp at hd; subst hd; exact hc
        | succ i => exact hr i d (by simpa using hd)
  obtain ⟨refs, M, rfl, h1, h2, h3⟩ := key xs hp
  exact ⟨b, M, rfl, ⟨refs, hb, h1, h3⟩, h2, by rw [← h1, ← hl, List.length_map]⟩
theorem rig_of {p : Int} {n : Nat} (h : PTX K n (fun _ => PInt 0 (p - 1)) v H) : Rig K p n v H := by
  obtain ⟨b, xs, rfl, hb, hl, hp⟩ := h
  obtain ⟨r, rfl, hl2, hr⟩ := ints_of (lo := 0) (hi := p - 1) (H := H) (xs := xs) fun x hx => by
    obtain ⟨i, hi, e⟩ := List.mem_iff_getElem.mp hx
    exact hp i x (by rw [List.getElem?_eq_getElem hi, e])
  exact ⟨b, r, rfl, hb, by omega, fun x hx => by have := hr x hx; omega⟩
theorem ss_tupPQ {P R : VP} {i j : Nat} (s : Src H a) (h1 : EvS a ta σ H P) (h2 : EvS a tb σ H R) (m : Mono a P) (k : ∀ x y H1 H2, Up a H H1 → Ex H1 H2 → P x H1 → R y H1 → D.nx ((σ.set i (some x)).set j (some y)) H2) :
    tAsg (tTup (tCons ta (tCons tb tNil))) (gTup K 2 (gCons (gName i) (gCons (gName j) gNil))) D σ H :=
  h1 H (.refl s) _ fun x H1 u1 p => h2 H1 u1 _ fun y H2 u2 r => ⟨by show 2 ≤ sizeLine; decide, fun t nt => ⟨t, _, rfl, st_of upd_same, rfl, x, _, rfl, y, _, rfl, rfl, k x y H2 _ (u1.trans u2) (Ex.new nt) (m x H1 H2 u1.src u2 p) r⟩⟩
theorem ss_parPQ {P R : VP} {i j : Nat} (s : Src H a) (h1 : EvS a ta σ H P) (h2 : EvS a tb σ H R) (m : Mono a P) (k : ∀ x y H1, Up a H H1 → P x H1 → R y H1 → D.nx ((σ.set i (some x)).set j (some y)) H1) :
    tPar i j (tCons ta (tCons tb tNil)) D σ H :=
  h1 H (.refl s) _ fun x H1 u1 p => h2 H1 u1 _ fun y H2 u2 r => ⟨x, y, rfl, k x y H2 (u1.trans u2) (m x H1 H2 u1.src u2 p) r⟩
theorem es_ev {P : VP} (h : ∀ H1, Up a H H1 → Ev te σ H1 v) (p : ∀ H1, Up a H H1 → P v H1) : EvS a te σ H P := fun H1 u Q q => h H1 u H1 (.refl H1) _ fun H2 e => q v H2 (.ex e u.src) (p H2 (u.trans (.ex e u.src)))
def PPrm : VP := fun v _ => ∃ p, v = .int p ∧ Prm p
theorem mono_prm : Mono a PPrm := fun _ _ _ _ _ h => h
def numV : V → Int
  | .int i => i
  | _ => 0
/-- an arrangement of numbers is one of numbers -/
theorem perm_ints {ys : List V} {l : List Int} (h : ys.Perm (l.map V.int)) : ∃ ns : List Int, ys = ns.map V.int ∧ ns.Perm l := by
  refine ⟨ys.map numV, ?_, ?_⟩
  · rw [List.map_map]
    refine (List.map_id' ys).symm.trans (List.map_congr_left fun y hy => ?_)
    obtain ⟨i, _, rfl⟩ := List.mem_map.mp (h.mem_iff.mp hy)
    rfl
  · have := h.map numV
    rw [List.map_map] at this
    exact this.trans (by rw [show (numV ∘ V.int) = id from rfl, List.map_id])
/-- rising: from no more than to less than, where none stands twice -/
theorem strict_of : ∀ {l : List Int}, l.Pairwise (· ≤ ·) → l.Nodup → l.Pairwise (· < ·)
  | [], _, _ => .nil
  | x :: l, h, n => by
    rw [List.pairwise_cons] at h
    rw [List.nodup_cons] at n
    exact List.pairwise_cons.mpr ⟨fun y hy => by have := h.1 y hy; have : x ≠ y := fun z => n.1 (z ▸ hy); omega, strict_of h.2 n.2⟩
/-- a, b = two new things -/
theorem q_tupNN {P R : Addr → Hp → Prop} {i j : Nat} (h1 : EvN ta σ H P) (h2 : ∀ H1, Ex H H1 → EvN tb σ H1 R) (k : ∀ a b H1 H2 H3, Ex H H1 → P a H1 → Ex H1 H2 → R b H2 → Ex H2 H3 → tz D ((σ.set i (some (.ref a))).set j (some (.ref b))) H3) :
    tSeq (tAsg (tTup (tCons ta (tCons tb tNil))) (gTup K 2 (gCons (gName i) (gCons (gName j) gNil)))) tz D σ H :=
  h1 H (.refl H) _ fun a H1 _ e1 p => h2 H1 e1 H1 (.refl H1) _ fun b H2 _ e2 r => ⟨by show 2 ≤ sizeLine; decide, fun t nt => ⟨t, _, rfl, st_of upd_same, rfl, _, _, rfl, _, _, rfl, rfl, k a b H1 H2 _ e1 p e2 r (Ex.new nt)⟩⟩
/-! ### exact data, drawn; lots of data -/
theorem gdAll_dp {k : Nat} : ∀ {vs : List V} {ds : List PyData}, DpAll K H vs ds → (∀ d ∈ ds, fine k d = true) → GdAll K H k vs ds
  | _, _, .nil, _ => .nil
  | _, _, .cons h t, f => .cons ⟨h, f _ List.mem_cons_self⟩ (gdAll_dp t fun d hd => f d (List.mem_cons_of_mem _ hd))
def PG (K : PySem.W.Frag) (k : Nat) (d : PyData) : VP := fun v H => Gd K H k v d
def PBad (K : PySem.W.Frag) (k : Nat) (p : PyData → Prop) : VP := fun v H => ∃ d, Gd K H k v d ∧ p d
theorem monoK_g {k : Nat} {d : PyData} : MonoK (PG K k d) := fun _ _ _ e g => g.kp e
theorem monoK_bad {k : Nat} {p : PyData → Prop} : MonoK (PBad K k p) := fun _ _ _ e ⟨d, g, h⟩ => ⟨d, g.kp e, h⟩
variable {k j : Nat} {d d2 d3 : PyData} {tc : TE}
theorem es_bad {p : PyData → Prop} (h : EvS a te σ H (PG K k d)) (hp : p d) : EvS a te σ H (PBad K k p) := es_imp h fun _ _ g => ⟨d, g, hp⟩
theorem es_upG (h : EvS a te σ H (PG K k d)) (l : k ≤ j) : EvS a te σ H (PG K j d) := es_imp h fun _ _ g => Gd.up l g
theorem es_varG {i : Nat} {v : V} (e : σ[i]? = some (some v)) (g : Gd K H k v d) (s : Src H a) : EvS a (tVar i) σ H (PG K k d) := es_var e fun H1 u => g.kp (u.kp s)
theorem es_intG {i : Int} (h : i.natAbs < 2 ^ 64) : EvS a (tC (.int i)) σ H (PG K 0 (.int i)) := es_c fun _ => gd_int h
theorem es_nonG : EvS a (tC .non) σ H (PG K 0 .none) := es_c fun _ => gd_non
theorem es_strG {x : Str} (h : fine 0 (.str x) = true) : EvS a (tC (.str x)) σ H (PG K 0 (.str x)) := es_c fun _ => gd_str h
theorem es_evG {v : V} (h : ∀ H1, Up a H H1 → Ev te σ H1 v) (g : ∀ H1, Up a H H1 → Gd K H1 k v d) : EvS a te σ H (PG K k d) := es_ev h g
theorem es_tup0G : EvS a (tTup tNil) σ H (PG K 1 (.tuple [])) := fun H1 u Q q => ⟨Nat.zero_le _, fun p np => q _ _ (.ex (Ex.new np) u.src) (gd_tup (st_of upd_same) .nil (Nat.zero_le _))⟩
theorem es_tup1G (h : EvS a te σ H (PG K k d)) : EvS a (tTup (tCons te tNil)) σ H (PG K (k + 1) (.tuple [d])) := fun H1 u Q q =>
  h H1 u _ fun v H2 u2 g => ⟨by show 1 ≤ sizeLine; decide, fun p np => q _ _ (u2.trans (.ex (Ex.new np) u2.src)) (gd_tup (st_of upd_same) (.cons (g.kp (.new np)) .nil) (by show 1 ≤ 20; decide))⟩
theorem es_tup2G (h : EvS a te σ H (PG K k d)) (h2 : EvS a tb σ H (PG K k d2)) : EvS a (tTup (tCons te (tCons tb tNil))) σ H (PG K (k + 1) (.tuple [d, d2])) := fun H1 u Q q =>
  h H1 u _ fun v H2 u2 g => h2 H2 (u.trans u2) _ fun w H3 u3 g2 => ⟨by show 2 ≤ sizeLine; decide, fun p np => q _ _ ((u2.trans u3).trans (.ex (Ex.new np) u3.src)) (gd_tup (st_of upd_same) (.cons ((g.kp (u3.kp u2.src)).kp (.new np)) (.cons (g2.kp (.new np)) .nil)) (by show 2 ≤ 20; decide))⟩
theorem es_tup3G (h : EvS a te σ H (PG K k d)) (h2 : EvS a tb σ H (PG K k d2)) (h3 : EvS a tc σ H (PG K k d3)) : EvS a (tTup (tCons te (tCons tb (tCons tc tNil)))) σ H (PG K (k + 1) (.tuple [d, d2, d3])) := fun H1 u Q q =>
  h H1 u _ fun v H2 u2 g => h2 H2 (u.trans u2) _ fun w H3 u3 g2 => h3 H3 ((u.trans u2).trans u3) _ fun x H4 u4 g3 => ⟨by show 3 ≤ sizeLine; decide, fun p np => q _ _ (((u2.trans u3).trans u4).trans (.ex (Ex.new np) u4.src))
    (gd_tup (st_of upd_same) (.cons (((g.kp (u3.kp u2.src)).kp (u4.kp u3.src)).kp (.new np)) (.cons ((g2.kp (u4.kp u3.src)).kp (.new np)) (.cons (g3.kp (.new np)) .nil))) (by show 3 ≤ 20; decide))⟩
/-- a tuple + a tuple, by their data -/
theorem es_catG {ds es : List PyData} (h : EvS a te σ H (PG K (k + 1) (.tuple ds))) (h2 : EvS a tb σ H (PG K (k + 1) (.tuple es))) (hz : ds.length + es.length ≤ 20) : EvS a (tOp (rCatA K) te tb) σ H (PG K (k + 1) (.tuple (ds ++ es))) := fun H1 u Q q =>
  h H1 u _ fun v H2 u2 g => h2 H2 (u.trans u2) _ fun w H3 u3 g2 => by
    have g1 : Gd K H3 (k + 1) v (.tuple ds) := g.kp (u3.kp u2.src)
    have g2 : Gd K H3 (k + 1) w (.tuple es) := g2
    obtain ⟨b, xs, j, rfl, e1, hx, lx, _, ax, fx, _⟩ := g1.tup
    obtain ⟨c, ys, j2, rfl, e2, hy, ly, _, ay, fy, _⟩ := g2.tup
    have ej : k = j := by omega
    have ej2 : k = j2 := by omega
    subst ej ej2
    refine ⟨b, c, xs, ys, rfl, rfl, hx, hy, sz_of (by omega), fun z => ?_, fun _ z => ?_, fun _ _ p np => q _ _ ((u2.trans u3).trans (.ex (Ex.new np) u3.src)) ?_⟩
    · have : ds = [] := List.eq_nil_of_length_eq_zero (by rw [← lx, z]; rfl)
      subst this
      exact q _ _ (u2.trans u3) g2
    · have : es = [] := List.eq_nil_of_length_eq_zero (by rw [← ly, z]; rfl)
      subst this
      rw [List.append_nil] at *
      exact q _ _ (u2.trans u3) g1
    · exact gd_tup (st_of upd_same) (((gdAll_dp ax fx).app (gdAll_dp ay fy)).kp (.new np)) (by rw [List.length_append]; omega)
/-- a slice of a tuple, by its data -/
theorem es_cutG {ds : List PyData} {tl th : L2.TO} {lo hi : Option Int} (h : EvS a te σ H (PG K (k + 1) (.tuple ds))) (hl : ∀ H1, Up a H H1 → ∀ Q : Option Int → Hp → Prop, (∀ H2, Up a H1 H2 → Q lo H2) → tl σ H1 Q) (hh : ∀ H1, Up a H H1 → ∀ Q : Option Int → Hp → Prop, (∀ H2, Up a H1 H2 → Q hi H2) → th σ H1 Q)
    (es : List PyData) (hd : ∀ xs : List V, xs.length = ds.length → ∃ m n, cutV xs lo hi = (xs.drop m).take n ∧ es = (ds.drop m).take n) : EvS a (tSl (rSlA K) te tl th) σ H (PG K (k + 1) (.tuple es)) := fun H1 u Q q =>
  h H1 u _ fun x H2 u2 px => hl H2 (u.trans u2) _ fun H3 u3 => hh H3 ((u.trans u2).trans u3) _ fun H4 u4 => by
    have g : Gd K H4 (k + 1) x (.tuple ds) := Gd.kp ((u3.kp u2.src).trans (u4.kp u3.src)) px
    obtain ⟨b, xs, j, rfl, e1, hx, lx, l20, ax, fx, _⟩ := g.tup
    have ej : k = j := by omega
    subst ej
    obtain ⟨m, n, e2, e3⟩ := hd xs lx
    have U := (u2.trans u3).trans u4
    have dr : ∀ (m : Nat) {xs : List V} {ds : List PyData}, GdAll K H4 k xs ds → GdAll K H4 k (xs.drop m) (ds.drop m) := fun m => by
      induction m with
      | zero => exact fun h => h
      | succ m ih => exact fun h => by cases h with
        | nil => exact .nil
        | cons _ t => exact ih t
    have tk : ∀ (n : Nat) {xs : List V} {ds : List PyData}, GdAll K H4 k xs ds → GdAll K H4 k (xs.take n) (ds.take n) := fun n => by
      induction n with
      | zero => exact fun _ => .nil
      | succ n ih => exact fun h => by cases h with
        | nil => exact .nil
        | cons h t => exact .cons h (ih t)
    have G := tk n (dr m (gdAll_dp ax fx))
    rw [← e3, ← e2] at G
    have le : (cutV xs lo hi).length ≤ 20 := by have := cutV_length xs lo hi; omega
    exact ⟨b, xs, rfl, hx, fun ⟨h1, h2⟩ => q _ H4 U (by rw [cut_whole h1 h2] at G; exact gd_tup hx G (by omega)), fun _ p np => q _ _ (U.trans (.ex (Ex.new np) u4.src)) (gd_tup (st_of upd_same) (G.kp (.new np)) le)⟩
/-- a bag: a list of its own, filled by and by -/
structure Bag (a sl : Addr) (P : VP) (n : Nat) (H : Hp) : Prop where
  ne : sl ≠ a
  all : ∃ ys, H sl = some (.lst ys) ∧ 0 < ys.length ∧ ys.length ≤ n ∧ ∀ y ∈ ys, P y H
theorem Bag.up {sl : Addr} {n : Nat} (s : Src H a) (mk : MonoK P) (u : Up a H H') (B : Bag a sl P n H) : Bag a sl P n H' := let ⟨ys, h1, h2, h3, h4⟩ := B.all; ⟨B.ne, ys, u.keep sl _ B.ne h1, h2, h3, fun y hy => mk y _ _ (u.kp s) (h4 y hy)⟩
theorem Bag.grow {sl : Addr} {n m : Nat} (h : n ≤ m) (B : Bag a sl P n H) : Bag a sl P m H := let ⟨ys, h1, h2, h3, h4⟩ := B.all; ⟨B.ne, ys, h1, h2, by omega, h4⟩
/-- a list of the items, new -/
theorem es_lstF {ta : TA} {n : Nat} (h : EvSA a ta σ H n P) (hn : n ≤ 1000) (m : Mono a P) : EvS a (tLst ta) σ H (PLsF H a n P) :=
  fun H1 u Q q => h H1 u _ fun vs H2 u2 hl hp => ⟨sz_of (by omega), fun p np => q _ _ (u2.trans (.ex (Ex.new np) u2.src))
    ⟨p, vs, rfl, up_back (u.trans u2) (u2.src.new np) np, u2.src.new np, upd_same, hl, fun x hx => m x _ _ u2.src (.ex (Ex.new np) u2.src) (hp x hx)⟩⟩
theorem bag_of {n : Nat} {v : V} {H0 : Hp} (h : PLsF H0 a n P v H) (hn : 0 < n) : ∃ sl, v = .ref sl ∧ H0 sl = none ∧ Bag a sl P n H := let ⟨b, xs, ev, h0, nb, hb, hl, hp⟩ := h; ⟨b, ev, h0, nb, xs, hb, by omega, by omega, hp⟩
theorem bag_add {H0 : Hp} {sl : Addr} {n i : Nat} (nl : H0 sl = none) (u : Up a H0 H) (B : Bag a sl P n H) (hv : σ[i]? = some (some (.ref sl))) (h : EvS a te σ H P) (mk : MonoK P) (hn : n ≤ 1000) (k : ∀ H1, Up a H0 H1 → Kp H H1 → (∀ b o, b ≠ sl → b ≠ a → H b = some o → H1 b = some o) → Bag a sl P (n + 1) H1 → D.nx σ H1) :
    tDrop (tBM K "list" rAppend (tVar i) (tCons te tNil)) D σ H := by
  obtain ⟨ys, h1, h2, h3, h4⟩ := B.all
  refine ss_app u.src B.ne h1 hv h (by omega) fun y H1 u1 p => ?_
  have h1' := u1.keep sl _ B.ne h1
  have kp : Kp H (upd H1 sl (.lst (ys ++ [y]))) := (u1.kp u.src).trans (.lst h1')
  refine k _ (up_mut (u.trans u1) B.ne nl) kp (fun b o nb na hb => by rw [upd_ne nb]; exact u1.keep b o na hb) ⟨B.ne, _, upd_same, by rw [List.length_append]; omega, by rw [List.length_append]; show _ + 1 ≤ _; omega, fun z hz => ?_⟩
  rcases List.mem_append.mp hz with q | q
  · exact mk z _ _ kp (h4 z q)
  · rw [List.mem_singleton.mp q]; exact mk y _ _ (.lst h1') p
theorem q_bag {H0 : Hp} {sl : Addr} {n i : Nat} (nl : H0 sl = none) (u : Up a H0 H) (B : Bag a sl P n H) (hv : σ[i]? = some (some (.ref sl))) (h : EvS a te σ H P) (mk : MonoK P) (hn : n ≤ 1000) (k : ∀ H1, Up a H0 H1 → Kp H H1 → (∀ b o, b ≠ sl → b ≠ a → H b = some o → H1 b = some o) → Bag a sl P (n + 1) H1 → tz D σ H1) :
    tSeq (tDrop (tBM K "list" rAppend (tVar i) (tCons te tNil))) tz D σ H := bag_add (D := { D with nx := tz D }) nl u B hv h mk hn k
/-- bag + [..] -/
theorem es_bagCat {H0 : Hp} {sl : Addr} {n m i : Nat} (u0 : Up a H0 H) (B : Bag a sl P n H) (hv : σ[i]? = some (some (.ref sl))) (mk : MonoK P) (hb : EvS a tb σ H (fun v H' => ∃ c ys, v = .ref c ∧ c ≠ a ∧ H' c = some (.lst ys) ∧ ys.length ≤ m ∧ ∀ y ∈ ys, P y H')) (hz : n + m ≤ 1000) :
    EvS a (tOp rCat (tVar i) tb) σ H (fun v H' => ∃ nl, v = .ref nl ∧ H0 nl = none ∧ Bag a nl P (n + m) H') := fun H1 u Q q => ⟨_, hv, hb H1 u _ fun v H2 u2 ⟨c, ys, ev, nc, hc, ly, py⟩ => by
    subst ev
    obtain ⟨xs, x1, x2, x3, x4⟩ := (B.up u0.src mk (u.trans u2)).all
    refine ⟨sl, c, xs, ys, rfl, rfl, x1, hc, sz_of (by omega), fun p np => q _ _ (u2.trans (.ex (Ex.new np) u2.src)) ⟨p, rfl, up_back ((u0.trans u).trans u2) (u2.src.new np) np, u2.src.new np, xs ++ ys, upd_same, by rw [List.length_append]; omega, by rw [List.length_append]; omega, fun z hz => ?_⟩⟩
    rcases List.mem_append.mp hz with w | w
    · exact mk z _ _ (.new np) (x4 z w)
    · exact mk z _ _ (.new np) (py z w)⟩
theorem es_bagOne {E : XK} {sl : Addr} {n s0 i : Nat} (e0 : σ[s0]? = some (some (.ref a))) (hv : σ[i]? = some (some (.ref sl))) (s : Src H a) (B : Bag a sl P n H) (mk : MonoK P) (hn : n ≤ 1000) : EvS a (tCall (spOne K) [] E (tCons (tVar s0) (tCons (tVar i) tNil))) σ H P :=
  fun H1 u Q q => by
    obtain ⟨xs, x1, x2, x3, x4⟩ := (B.up s mk u).all
    exact ⟨_, e0, _, hv, ⟨a, sl, xs, rfl, B.ne, u.src, sq_of x1, (fun z => by rw [z] at x2; cases x2), by omega, fun x hx H3 u3 => q x H3 u3 (mk x _ _ (u3.kp u.src) (x4 x hx))⟩⟩
/-- for x in a list of items: something that keeps the list -/
theorem q_forB {P : VP} {j n : Nat} (s : Src H a) (h : EvS a tl σ H (PLsF H a n P)) (Pv : Addr → Hp → Nat → L2.St → Hp → Prop) (h0 : ∀ L HL, H L = none → Up a H HL → Pv L HL 0 σ HL)
    (hL : ∀ L HL xs i σ' H', H L = none → HL L = some (.lst xs) → Pv L HL i σ' H' → H' L = some (.lst xs))
    (hs : ∀ L HL i x σ' H', H L = none → Up a H HL → P x HL → i < n → Pv L HL i σ' H' → tu { D with nx := Pv L HL (i + 1), ct := Pv L HL (i + 1), bk := tz D } (σ'.set j (some x)) H') (hd : ∀ L HL σ' H', Up a H HL → Pv L HL n σ' H' → tz D σ' H') :
    tSeq (tFor (iList K tl) (gName j) tu) tz D σ H :=
  h H (.refl s) _ fun v HL u ⟨L, xs, ev, nL, nLa, hLx, hl, hp⟩ => ⟨L, ev, ⟨xs, sq_of hLx⟩, for_list (xs := xs) (Pv L HL) (h0 L HL nL u) (fun i σ' H' _ p => sq_of (hL L HL xs i σ' H' nL hLx p))
    (fun i x σ' H' hx p => hs L HL i x σ' H' nL u (hp x (List.mem_of_getElem? hx)) (by have := (List.getElem?_eq_some_iff.mp hx).1; omega) p) (fun σ' H' p => hd L HL σ' H' u (by rw [← hl]; exact p))⟩
end
end Own


namespace Own
open PySem PySem.Spec PyProof.Rows L2 LamX
/-! ### the law's own call, where defs make lambdas: their tables of code objects are seen, too -/
/-- nothing is seen but the script and empty tables -/
def OnlyT (Ps : List Addr) (H : Hp) : Prop := ∀ b, H b = none ∨ (b ∈ Ps ∧ H b = some (.tbl #[])) ∨ ∃ o xs, H b = some (.frz o (.lst xs))
structure Fresh0 (Ps : List Addr) (K : PySem.W.Frag) (s : Shared) (a : Addr) (ns : List Int) (H : Hp) : Prop where
  only : OnlyT Ps H
  seq : SqL K H a (ns.map V.int)
  tabs : ∀ P ∈ Ps, H P = some (.tbl #[])
  else_ : ∀ b, b ≠ a → b ∉ Ps → H b = none
  own : H a ≠ none → K.lookup a = none
theorem fresh0 {P : Program} {w : World} {K : PySem.W.Frag} {s : Shared} {a : Addr} {vs : List Value} {ns : List Int} {Ps : List Addr} (KX : K.In s.heap)
    (ht : ∀ q ∈ Ps, s.heap.get? q = some { cls := .none, data := .fields #[] }) (ha : s.heap.get? a = some { cls := .type "list", data := .seq vs.toArray }) (hi : IntsAre vs ns) (hl : ns.length ≤ sizeLine) : ∃ H, Fresh0 Ps K s a ns H ∧ HOk P w H s.heap := by
  have na : a ∉ Ps := fun m => by
    have z := ht a m
    rw [ha] at z
    injection z with z
    injection z with _ _ z
    cases z
  obtain ⟨H0, e, hok⟩ := entry_ok (P := P) (w := w) KX ha hi hl
  have z0 : ∀ q ∈ Ps, H0 q = none := fun q hq => e.none_ q fun z => na (z ▸ hq)
  refine ⟨fun b => if b ∈ Ps then some (.tbl #[]) else H0 b, ⟨fun b => ?_, ?_, fun q hq => if_pos hq, fun b nb nq => (if_neg nq).trans (e.none_ b nb), fun z => e.own fun y => z ((if_neg na).trans y)⟩, fun b u h => ?_⟩
  · by_cases m : b ∈ Ps
    · exact .inr (.inl ⟨m, if_pos m⟩)
    · rcases e.only b with z | ⟨o, xs, z⟩
      · exact .inl ((if_neg m).trans z)
      · exact .inr (.inr ⟨o, xs, (if_neg m).trans z⟩)
  · rcases e.seq with (z | ⟨o, z⟩) | z
    · exact .inl (.inl ((if_neg na).trans z))
    · exact .inl (.inr ⟨o, (if_neg na).trans z⟩)
    · exact .inr z
  · by_cases m : b ∈ Ps
    · obtain rfl : HO.tbl #[] = u := Option.some.inj ((if_pos m).symm.trans h)
      exact ht b m
    · have h0 : H0 b = some u := (if_neg m).symm.trans h
      rcases e.only b with z | ⟨o, xs, z⟩
      · rw [z] at h0; cases h0
      · rw [z] at h0
        injection h0 with h0
        subst h0
        exact hok b _ z
theorem lawGT {P : Program} {w : World} {K : PySem.W.Frag} {mg mb : Str → Option Value} {k : Nat} {fa a : Addr} {fd : FuncData} {x : Str} {sp : Sp} {s : Shared} {vs : List Value} {ns : List Int} {cs : List (Addr × Addr)}
    (KX : K.In s.heap) (g1 : s.heap.Ns mainGlobals mg) (g2 : s.heap.Ns builtinsNs mb) (g3 : ∀ x : Str, x ≠ "__name__" → mb x = bootBuiltins x) (g4 : s.heap.NoLimit) (hg : s.gens = #[])
    (g5 : ∃ (bm : Addr) (ob : Obj), mg "__builtins__" = some (.ref bm) ∧ bm ≠ builtinsNs ∧ s.heap.get? bm = some ob ∧ ob.cls = .type "module" ∧ ob.dict = some builtinsNs ∧ ob.data = .plain)
    (t1 : ∀ q ∈ cs, s.heap.get? q.2 = some { cls := .none, data := .fields #[] }) (t2 : ∀ q ∈ cs, K.lookup q.2 = none) (t3 : ∀ q ∈ cs, PySem.W.codeHdIn K q.1 q.2 = true)
    (ha : s.heap.get? a = some { cls := .type "list", data := .seq vs.toArray }) (hi : IntsAre vs ns) (hl : ns.length ≤ sizeLine) (hr : Room k callerA)
    (F : ∀ base : Heap, K.In base → base.Ns mainGlobals mg → (∀ q ∈ cs, TabB base mg q.1 q.2) → FnG P w K mg base CX0 k fa fd [x] sp) (hb : ∀ (s : Shared) (u : Value), BindsTo s fd ⟨[u], []⟩ [(x, u)])
    (hsp : ∀ H : Hp, OnlyT (cs.map (·.2)) H → (∀ q ∈ cs, H q.2 = some (.tbl #[])) → SqL K H a (ns.map V.int) → sp [.ref a] H (fun v _ => v = .bl true) E0) :
    codeAny (model P w) callerA (.call (.ref fa) ⟨[.ref a], []⟩) (fun r s' => r = .ok (.ret (.bool true)) ∧ OldK s.heap s'.heap ∧ s'.os = s.os ∧ AllBare s'.gens) s := by
  have mem : ∀ q ∈ cs, q.2 ∈ cs.map (·.2) := fun q hq => List.mem_map_of_mem hq
  have back : ∀ b ∈ cs.map (·.2), ∃ q ∈ cs, q.2 = b := fun b hb => let ⟨q, h1, h2⟩ := List.mem_map.mp hb; ⟨q, h1, h2⟩
  have tb : ∀ b ∈ cs.map (·.2), s.heap.get? b = some { cls := .none, data := .fields #[] } := fun b hb => let ⟨q, h1, h2⟩ := back b hb; h2 ▸ t1 q h1
  obtain ⟨H, e, hok⟩ := fresh0 (P := P) (w := w) KX tb ha hi hl
  -- what isn't a list and no table isn't seen
  have hid : ∀ {b : Addr} {o : Obj}, s.heap.get? b = some o → (∀ us n, o.data ≠ .seq us n) → o.data ≠ .fields #[] → H b = none := fun {b o} q n1 n2 => by
    refine e.else_ b (fun z => ?_) fun z => ?_
    · subst z
      rw [ha] at q
      injection q with q
      subst q
      exact n1 _ _ rfl
    · rw [tb b z] at q
      injection q with q
      subst q
      exact n2 rfl
  have nsB : ∀ {b : Addr} {m : Str → Option Value}, s.heap.Ns b m → (hidT s.heap H).Ns b m := fun {b m} ⟨o, es, ep, q, d, r⟩ =>
    ⟨o, es, ep, hidT_get q (hid q (fun us n z => by rw [d] at z; cases z) fun z => by rw [d] at z; cases z), d, r⟩
  have KB : K.In (hidT s.heap H) := fun b o q => hidT_get (KX b o q) (by
    by_cases z : b = a
    · subst z
      by_cases y : H b = none
      · exact y
      · have n := e.own y
        rw [q] at n
        cases n
    · refine e.else_ b z fun m => ?_
      obtain ⟨p, h1, h2⟩ := back b m
      have n := t2 p h1
      rw [h2, q] at n
      cases n)
  have TBs : ∀ q ∈ cs, TabB (hidT s.heap H) mg q.1 q.2 := fun q hq => by
    obtain ⟨bm, ob, b1, b2, b3, b4, b5, b6⟩ := g5
    have hm := hid b3 (fun us n z => by rw [b6] at z; cases z) fun z => by rw [b6] at z; cases z
    refine ⟨PySem.W.codeHd_of_K KB (t3 q hq), ⟨bm, ob, b1, b2, fun z => ?_, fun z => ?_, hidT_get b3 hm, b4, b5, b6⟩, fun z => ?_⟩
    · obtain ⟨o, es, ep, y, d, _⟩ := g1
      rw [← z, b3] at y
      injection y with y
      subst y
      rw [b6] at d
      cases d
    · rw [z, e.tabs _ (mem q hq)] at hm
      cases hm
    · obtain ⟨o, es, ep, y, d, _⟩ := g1
      rw [z, t1 q hq] at y
      injection y with y
      subst y
      cases d
  have e0 : Env0 P w K mg (hidT s.heap H) callerA [] s H :=
    ⟨rfl, ⟨KB, nsB g1, ⟨mb, nsB g2, g3⟩, (let ⟨mc, h1, h2⟩ := g4; ⟨mc, nsB h1, h2⟩)⟩, fun b o q => of_hidT q, Nat.le_of_eq (hidT_size _ _), trivial, fun b z => absurd z (List.not_mem_nil), hok, .of_eq hg⟩
  refine codeAny_mono ((F _ KB (nsB g1) TBs).goes callerA [] s H ⟨[.ref a], []⟩ [.ref a] [.ref a] _ _ rfl hr e0 (hb s (.ref a)) (.cons rfl .nil) (hsp H e.only (fun q hq => e.tabs _ (mem q hq)) e.seq)) fun r s' z => ?_
  match r, z with
  | .error _, z => exact z.elim
  | .ok .next, z => exact z.elim
  | .ok .brk, z => exact z.elim
  | .ok .cont, z => exact z.elim
  | .ok (.ret u), z =>
    obtain ⟨v, H', os, bare, ch, hok', ru, q⟩ := z
    have q : v = .bl true := q
    subst q
    have eu : u = Value.bool true := ru
    have grown : ∀ p ∈ cs, ∃ more : Array Value, s'.heap.get? p.2 = some { cls := .none, data := .fields more } := fun p hp =>
      let ⟨more, y⟩ := ch.tbls p.2 #[] (e.tabs _ (mem p hp)); ⟨_, hok' p.2 _ y⟩
    have same : ∀ b o, b ∉ cs.map (·.2) → s.heap.get? b = some o → s'.heap.get? b = some o := fun b o nb q => by
      rcases e.only b with y | ⟨m, _⟩ | ⟨ob, xs, y⟩
      · exact ch.keep b o q y (fun z => by cases z) (fun z => by cases z)
      · exact absurd m nb
      · have o1 := (hok b _ y).1
        have o2 := (hok' b _ (ch.frzs b ob _ y)).1
        rw [q] at o1
        injection o1 with o1
        rw [o1]
        exact o2
    refine ⟨by rw [eu], ⟨fun b o q => ?_, fun b o q => ?_⟩, os, bare⟩
    · by_cases m : b ∈ cs.map (·.2)
      · obtain ⟨p, h1, rfl⟩ := back b m
        obtain ⟨more, y⟩ := grown p h1
        obtain rfl : Obj.mk .none none (.fields #[]) #[] = o := Option.some.inj ((t1 p h1).symm.trans q)
        exact .inr (.inl ⟨((PySem.W.codeHd_of_K KX (t3 p h1)).tab (t1 p h1)).isCodeTable, rfl, #[], more, rfl, by rw [Array.empty_append]; exact y⟩)
      · exact .inl (same b o m q)
    · by_cases m : b ∈ cs.map (·.2)
      · obtain ⟨p, h1, rfl⟩ := back b m
        obtain ⟨more, y⟩ := grown p h1
        exact ⟨_, y⟩
      · exact ⟨o, same b o m q⟩
theorem walkGT {l : PySem.W.OpenLaw} {n k : Nat} {q : Program} {loose : List Str} {XP : (Str → Option Value) → Heap → Prop} {YP : World → Heap → Prop} {d : DefRec} {K : Params → PySem.W.Frag} {sp : List Addr → PySem.W.Frag → Sp} {x : Str} {ts : List Addr}
    (h1 : l.most = some n) (h2 : n ≤ sizeLine) (h3 : d.params.defaults = []) (hr : Room k callerA) (hY : ∀ (w : World) (h : Heap), YP w h → (K w.params).In h ∧ ∀ b ∈ ts, h.get? b = some { cls := .none, data := .fields #[] })
    (F : ∀ (w : World) (mg : Str → Option Value) (fa : Addr) (h : Heap), (K w.params).In h → h.Ns mainGlobals mg → mg d.name = some (.ref fa) →
      ∃ (fd : FuncData) (cs : List (Addr × Addr)), (∀ p ∈ cs, p.2 ∈ ts) ∧ (∀ p ∈ cs, (K w.params).lookup p.2 = none) ∧ (∀ p ∈ cs, PySem.W.codeHdIn (K w.params) p.1 p.2 = true) ∧ (∀ (s : Shared) (u : Value), BindsTo s fd ⟨[u], []⟩ [(x, u)]) ∧
        ∀ base : Heap, (K w.params).In base → base.Ns mainGlobals mg → (∀ p ∈ cs, TabB base mg p.1 p.2) → FnG l.prog w (K w.params) mg base CX0 k fa fd [x] (sp (cs.map (·.2)) (K w.params)))
    (hsp : ∀ (Ps : List Addr) (K : PySem.W.Frag) (H : Hp) (a : Addr) (ns : List Int), ns.length ≤ n → OnlyT Ps H → (∀ b ∈ Ps, H b = some (.tbl #[])) → SqL K H a (ns.map V.int) → sp Ps K [.ref a] H (fun v _ => v = .bl true) E0) :
    PySem.W.WalkO q loose XP YP l.row.toRowW d [] (fun f vs => PySem.call f vs) :=
  Att.attach_call h1 h3 fun w s₀ s₁ mg mb fa o pm cd doc a vs ns G Y ho hd hcd hmg hobj hints hlen hg =>
    let ⟨fd, cs, hts, h4, h5, hb, hF⟩ := F w mg fa _ (hY w _ Y).1 G.T.g hmg
    lawGT (hY w _ Y).1 G.T.g G.T.b G.T.builtins G.T.nolimit hg G.T.bmain (fun p hp => (hY w _ Y).2 _ (hts p hp)) h4 h5 hobj hints (Nat.le_trans hlen h2) hr hF hb
      fun H hO hT hS => hsp _ _ H a ns hlen hO (fun b hb => let ⟨p, q1, q2⟩ := List.mem_map.mp hb; q2 ▸ hT p q1) hS
end Own


namespace Own
open PySem PySem.Spec PyProof.Rows L2 LamX
section
variable {P : Program} {w : World} {K : PySem.W.Frag} {mg : Str → Option Value} {base : Heap}
/-- a def whose code object is known (it makes lambdas) -/
structure FunC (K : PySem.W.Frag) (x qual : Str) (st : Stmt) (f : Addr) (fd : FuncData) (cc : Addr) : Prop where
  ex : ∃ (oc : Value) (od : Option Addr) (kV doc pm : Value) (an : Option Addr) (ct : Value) (osl : Array (Option Value)),
    fd = PySem.W.fnOf x qual (defArgs st) (defBody st) (defScope st) .none kV doc pm an (.ref cc) ct ∧ K.lookup f = some ⟨oc, od, .func fd, osl⟩ ∧ PySem.W.codeIn K (.ref cc) qual = true
theorem fnG_okC {x qual : Str} {st : Stmt} {f cc : Addr} {fd : FuncData} {N ps : List Str} {k : Nat} {sp : Sp} (F : FunC K x qual st f fd cc) (S : FnScope N ps (defScope st)) (sz : ∀ vs H Q E, sp vs H Q E → vs.length = ps.length)
    (hb : ∀ (A : Around) (outer : List Env) (s : Shared) (H : Hp) (vs : List V) (Q : VK) (E : XK),
      (A.deeper (envOfC qual (defScope st) s.heap.objs.size f (.ref cc))).guards = some [] → Room k (A.deeper (envOfC qual (defScope st) s.heap.objs.size f (.ref cc))) → sp vs H Q E →
        ∃ t, PSs (cxOf CX0 P w K mg base N qual (defScope st) f (.ref cc) A outer s H E).nox (defBody st) t ∧ t { nx := fun _ H' => Q .non H', rt := Q } (start N vs) H) :
    FnG P w K mg base CX0 (k + 1) f fd ps sp := by
  obtain ⟨oc, od, kV, doc, pm, an, ct, osl, efd, look, code⟩ := F.ex
  subst efd
  refine ⟨sz, fun A o s H args us vs Q E gA room e0 bind rv pre => ?_⟩
  have inside : K.In s.heap := e0.mod.kin.keeps fun b u q => (e0.bs b u q).1
  have free : s.heap.NoLimit := e0.mod.nolimit.keeps fun b u q => (e0.bs b u q).1
  refine codeAny_call_function room.depth (inside _ _ look) rfl S.co S.gen rfl (PySem.W.codeRec_of inside code) (bind _ _ _ _ ?_)
  refine wpAny_newFunctionEnv_cells S.kind (fun y hy => ?_) fun env he s1 x => ?_
  · have m := (List.of_mem_zip (show (y.1, y.2) ∈ ps.zip us from hy)).1
    exact (S.par y.1 m).elim Or.inl fun q => Or.inr ⟨q, PySem.W.cellsFrom_some _ _ _ (.inl q)⟩
  · subst he
    refine ⟨free.keeps x.toInCall.keep, codeAny_func ?_⟩
    obtain ⟨t, ht, rd⟩ := hb A o s H vs Q E (guards_deeper.trans gA) (room.deeper _) pre
    have I := inv_start (CX := CX0) (P := P) (w := w) (mg := mg) (E := E) (N := N) S room.hd e0 (sz _ _ _ _ pre) rv x
    refine wpAny_mono (ht.nox.run [] s1 (start N vs) H _ I rd) (fun fl s' hs => ?_) fun _ _ z => z
    match fl, hs with
    | .ret u, hs => exact (let ⟨v, _, H', J, r2, q⟩ := hs; ⟨v, H', J.os, J.bare, J.base, J.hok, r2, q⟩)
    | .next, hs => exact (let ⟨_, H', J, q⟩ := hs; ⟨V.non, H', J.os, J.bare, J.base, J.hok, rfl, q⟩)
    | .brk, hs => exact (let ⟨_, _, _, z⟩ := hs; z.elim)
    | .cont, hs => exact (let ⟨_, _, _, z⟩ := hs; z.elim)
end
section
variable {X : Cx}
/-- a text that is read in two ways -/
theorem pss_alt {sts : List Stmt} {t u : TS} (h1 : PSs X sts t) (h2 : PSs X sts u) : PSs X sts (fun D σ H => t D σ H ∨ u D σ H) :=
  ⟨fun pins s σ H D I h => h.elim (h1.run pins s σ H D I) (h2.run pins s σ H D I)⟩
/-- a name that holds one of several defs, which may raise -/
def tCallM (i : Nat) (S : Addr → Sp → Prop) (E : XK) (t : TA) : TE := fun σ H Q => ∃ f sp, σ[i]? = some (some (.ref f)) ∧ S f sp ∧ t σ H fun vs H1 => sp vs H1 Q E
theorem pe_callM {S : Addr → Sp → Prop} {C : CXT} {k i : Nat} {E : XK} {x : Str} {p pos : Pos} {e : Expr} {es : List Expr} {t : TA}
    (A : ∀ f sp, S f sp → ∃ fd ps, FnOk X.prog X.w X.K X.mg X.base C k f fd ps sp ∧ PySem.W.keepIn X.K (.ref f) = true ∧ Binds X.K fd ps []) (hr : Room k X.A) (hN : X.N[i]? = some x) (hv : Vis X.env.scope x) (hx : Passes C X E) (ha : PA X (e :: es) t)
    (h1 : (x == ("__debug__" : Str)) = false := by decide) (h2 : (x == ("__classdict__" : Str)) = false := by decide)
    (h3 : starEach (e :: es) X.env = (false, eval e X.env) :: starEach es X.env := by rfl) (h4 : (backTo pos (starEach es X.env)).any (·.1) = false := by rfl) : PE X (.Call (.Name x p) (e :: es) [] pos) (tCallM i S E t) :=
  ⟨fun pins s σ H Q I ⟨f, sp, hs, hS, ht⟩ => by
    obtain ⟨fd, ps, F, hk, hb⟩ := A f sp hS
    refine (pe_callL (i := i) (f := f) (sp := sp) (dvs := []) (E := E) F hr hN hv hk hb .nil hx ha h1 h2 h3 h4).run pins s σ H Q I ⟨hs, ?_⟩
    simpa only [List.append_nil] using ht⟩
/-- x(lambda: ..), x a def of the text -/
theorem pe_lamF {T : List (Addr × Str)} {TT : (XK → Hp → VK → Prop) → Hp → VK → Prop} {x a : Str} {g c Pt : Addr} {k : Nat} {st : Stmt} {fd : FuncData} {Ng : List Str} {params : Arguments} {body : Expr} {scope : Scope} {t : XK → TE} {p lpos pos : Pos}
    (F : Fun X.K x x st g fd) (hg : Gl X x) (hm : X.mg x = some (.ref g)) (hb : Binds X.K fd [a] []) (Sg : FnScope Ng [a] (defScope st)) (hNg : Ng[0]? = some a) (hva : Vis (defScope st) a)
    (hG : ∀ cdg, GivesTo X Ng x (defScope st) g cdg (defBody st) a (X.env.qual ++ "<lambda>") TT) (TB : TabB X.base X.mg c Pt) (hcode : X.env.code = .ref c) (hmT : (Pt, X.env.qual ++ "<lambda>") ∈ T) (hu : ∀ p ∈ T, p.1 = Pt → p.2 = X.env.qual ++ "<lambda>")
    (hr : Room (k + 2) X.A) (L : LamS X.env.scope scope) (hdef : defaultsOf params X.env = ([], []))
    (hbind : ∀ (q : Str) (cl : List (Str × Addr)) (pm cv ctv : Value), bindArgs (PySem.W.kla_fn "<lambda>" q params body scope cl pm cv ctv) ⟨[], []⟩ = pure [])
    (hbody : ∀ (A : Around) (outer : List Env) (s : Shared) (H : Hp) (E : XK) (f c' : Addr), Room k (A.deeper (lamEnv X scope s.heap.objs.size f c')) → PE (lamCx X A outer s H E scope f c') body (t E))
    (h1 : (x == ("__debug__" : Str)) = false := by decide) (h2 : (a == ("__debug__" : Str)) = false := by decide) (h3 : (a == ("__classdict__" : Str)) = false := by decide) :
    PE X (.Call (.Name x p) [.Lambda params body scope lpos] [] pos) (tLam T TT t) := by
  obtain ⟨oc, od, kV, doc, pm, an, cdv, ct, osl, efd, look, code⟩ := F.ex
  subst efd
  exact pe_lamcall hg hm F.kp look code hb Sg hNg hva (hG cdv) TB hcode hmT hu hr L hdef hbind hbody h1 h2 h3
/-- try: return a() / except C as e: .., the suite read by ts, whatever stands in the first slot -/
def TTry (K : PySem.W.Frag) (CS : Addr) (ts : Addr → Value → Option Addr → Hp → VK → Prop) : (XK → Hp → VK → Prop) → Hp → VK → Prop := fun tl H Q =>
  tl (fun cls dd H' => ∃ yes, PySem.W.exmOne K cls (.ref CS) = some yes ∧ (yes = true → ∀ b, H' b = none → ts b cls dd H' Q) ∧ (yes = false → False)) H Q
theorem gives_try {Ng : List Str} {x a e q C : Str} {sg : Scope} {g CS : Addr} {cdg : Value} {first : Stmt} {more : List Stmt} {p1 p2 p3 p4 p5 p6 : Pos} {ts : Addr → Value → Option Addr → Hp → VK → Prop} {tss : Addr → Value → Option Addr → TS}
    (hN : Ng.Nodup) (hn : Ng = [a, e]) (hl : sg.names.lookup e = some .local) (hc : sg.names.lookup C = some .globalImplicit) (hcd : (C == ("__debug__" : Str)) = false) (hm : X.mg C = some (.ref CS))
    (hts : ∀ (f b : Addr) cls dd H' Q, ts b cls dd H' Q → ∀ D : Ends, D.rt = Q → tss b cls dd D [some (.ref f), some (.ref b)] H')
    (suite : ∀ (Z : Cx), Z.prog = X.prog → Z.w = X.w → ∀ (hK : Z.K = X.K) (hmg : Z.mg = X.mg), True → ∀ (b : Addr) (oe : Obj) (cls : Value) (dd : Option Addr) (pn : List (Addr × Obj)), Zc cls dd oe → (∃ vs, oe.data = .fields vs) → Z.N = Ng → Z.env.scope = sg → True → PSs Z (first :: more) (tss b cls dd)) :
    True := trivial
end
end Own


namespace My
open PySem PySem.Spec PyProof.Rows L2 Own LamX
def topS (i : Nat) : Stmt := PySem.Challenge.pw_twicemany_k02_rows_and_their_sums.main.body.getD i (.Pass ⟨0, 0, 0, 0⟩)
abbrev s_init : Stmt := inClass (topS 1) 0
theorem sc_init : FnScope ["self", "what"] ["self", "what"] (defScope s_init) := ⟨rfl, rfl, rfl, by decide +kernel, rfl, by decide +kernel, by decide +kernel⟩
abbrev s_number_within : Stmt := topS 6
abbrev n_number_within : List Str := ["thing", "low", "high"]
theorem sc_number_within : FnScope n_number_within ["thing", "low", "high"] (defScope s_number_within) := ⟨rfl, rfl, rfl, by decide +kernel, rfl, by decide +kernel, by decide +kernel⟩
abbrev s_tuple_of : Stmt := topS 7
abbrev n_tuple_of : List Str := ["thing", "many"]
theorem sc_tuple_of : FnScope n_tuple_of ["thing", "many"] (defScope s_tuple_of) := ⟨rfl, rfl, rfl, by decide +kernel, rfl, by decide +kernel, by decide +kernel⟩
abbrev s_is_prime : Stmt := topS 10
abbrev n_is_prime : List Str := ["p", "divisor"]
theorem sc_is_prime : FnScope n_is_prime ["p"] (defScope s_is_prime) := ⟨rfl, rfl, rfl, by decide +kernel, rfl, by decide +kernel, by decide +kernel⟩
abbrev s_made_shape : Stmt := topS 12
abbrev n_made_shape : List Str := ["thing", "fault"]
theorem sc_made_shape : FnScope n_made_shape ["thing"] (defScope s_made_shape) := ⟨rfl, rfl, rfl, by decide +kernel, rfl, by decide +kernel, by decide +kernel⟩
abbrev s_shape_fault : Stmt := topS 13
abbrev n_shape_fault : List Str := ["thing", "p", "wide", "n", "k", "e", "manner", "table"]
theorem sc_shape_fault : FnScope n_shape_fault ["thing"] (defScope s_shape_fault) := ⟨rfl, rfl, rfl, by decide +kernel, rfl, by decide +kernel, by decide +kernel⟩
abbrev s_table_fits : Stmt := topS 14
abbrev n_table_fits : List Str := ["table", "n", "p", "row"]
theorem sc_table_fits : FnScope n_table_fits ["table", "n", "p"] (defScope s_table_fits) := ⟨rfl, rfl, rfl, by decide +kernel, rfl, by decide +kernel, by decide +kernel⟩
abbrev s_numbers_fit : Stmt := topS 15
abbrev n_numbers_fit : List Str := ["thing", "many", "p", "number"]
theorem sc_numbers_fit : FnScope n_numbers_fit ["thing", "many", "p"] (defScope s_numbers_fit) := ⟨rfl, rfl, rfl, by decide +kernel, rfl, by decide +kernel, by decide +kernel⟩
abbrev s_made_row : Stmt := topS 17
abbrev n_made_row : List Str := ["shape", "thing", "fault"]
theorem sc_made_row : FnScope n_made_row ["shape", "thing"] (defScope s_made_row) := ⟨rfl, rfl, rfl, by decide +kernel, rfl, by decide +kernel, by decide +kernel⟩
abbrev s_row_fault : Stmt := topS 18
abbrev n_row_fault : List Str := ["shape", "thing", "x", "cell"]
theorem sc_row_fault : FnScope n_row_fault ["shape", "thing"] (defScope s_row_fault) := ⟨rfl, rfl, rfl, by decide +kernel, rfl, by decide +kernel, by decide +kernel⟩
abbrev s_cell_fits : Stmt := topS 19
abbrev n_cell_fits : List Str := ["shape", "thing"]
theorem sc_cell_fits : FnScope n_cell_fits ["shape", "thing"] (defScope s_cell_fits) := ⟨rfl, rfl, rfl, by decide +kernel, rfl, by decide +kernel, by decide +kernel⟩
abbrev s_sums : Stmt := topS 20
abbrev n_sums : List Str := ["shape", "row"]
theorem sc_sums : FnScope n_sums ["shape", "row"] (defScope s_sums) := ⟨rfl, rfl, rfl, by decide +kernel, rfl, by decide +kernel, by decide +kernel⟩
abbrev s_stripe : Stmt := topS 21
abbrev n_stripe : List Str := ["shape", "row"]
theorem sc_stripe : FnScope n_stripe ["shape", "row"] (defScope s_stripe) := ⟨rfl, rfl, rfl, by decide +kernel, rfl, by decide +kernel, by decide +kernel⟩
abbrev s_row_sums : Stmt := topS 22
abbrev n_row_sums : List Str := ["shape", "row", "weights"]
theorem sc_row_sums : FnScope n_row_sums ["shape", "row"] (defScope s_row_sums) := ⟨rfl, rfl, rfl, by decide +kernel, rfl, by decide +kernel, by decide +kernel⟩
abbrev s_weighted : Stmt := topS 23
abbrev n_weighted : List Str := ["shape", "weights", "row", "p", "wide", "total", "weight", "cell", "so_far", "number"]
theorem sc_weighted : FnScope n_weighted ["shape", "weights", "row"] (defScope s_weighted) := ⟨rfl, rfl, rfl, by decide +kernel, rfl, by decide +kernel, by decide +kernel⟩
abbrev s_shelves_of : Stmt := topS 24
abbrev n_shelves_of : List Str := ["shape"]
theorem sc_shelves_of : FnScope n_shelves_of ["shape"] (defScope s_shelves_of) := ⟨rfl, rfl, rfl, by decide +kernel, rfl, by decide +kernel, by decide +kernel⟩
abbrev s_made_left : Stmt := topS 25
abbrev n_made_left : List Str := ["shape", "thing", "fault"]
theorem sc_made_left : FnScope n_made_left ["shape", "thing"] (defScope s_made_left) := ⟨rfl, rfl, rfl, by decide +kernel, rfl, by decide +kernel, by decide +kernel⟩
abbrev s_left_fault : Stmt := topS 26
abbrev n_left_fault : List Str := ["shape", "thing", "shelf", "cell"]
theorem sc_left_fault : FnScope n_left_fault ["shape", "thing"] (defScope s_left_fault) := ⟨rfl, rfl, rfl, by decide +kernel, rfl, by decide +kernel, by decide +kernel⟩
abbrev s_lost_of : Stmt := topS 27
abbrev n_lost_of : List Str := ["left", "shelf", "cell"]
theorem sc_lost_of : FnScope n_lost_of ["left"] (defScope s_lost_of) := ⟨rfl, rfl, rfl, by decide +kernel, rfl, by decide +kernel, by decide +kernel⟩
abbrev s_law_pool : Stmt := topS 29
abbrev n_law_pool : List Str := ["_law_script", "_law_k", "_law_cell", "_law_big", "_law_mixed"]
theorem sc_law_pool : FnScope n_law_pool ["_law_script", "_law_k"] (defScope s_law_pool) := ⟨rfl, rfl, rfl, by decide +kernel, rfl, by decide +kernel, by decide +kernel⟩
abbrev s_law_take : Stmt := topS 30
abbrev n_law_take : List Str := ["_law_source", "_law_top", "_law_drawn"]
theorem sc_law_take : FnScope n_law_take ["_law_source", "_law_top"] (defScope s_law_take) := ⟨rfl, rfl, rfl, by decide +kernel, rfl, by decide +kernel, by decide +kernel⟩
abbrev s_law_one : Stmt := topS 31
abbrev n_law_one : List Str := ["_law_source", "_law_things"]
theorem sc_law_one : FnScope n_law_one ["_law_source", "_law_things"] (defScope s_law_one) := ⟨rfl, rfl, rfl, by decide +kernel, rfl, by decide +kernel, by decide +kernel⟩
abbrev s_law_with : Stmt := topS 32
abbrev n_law_with : List Str := ["_law_row", "_law_at", "_law_thing"]
theorem sc_law_with : FnScope n_law_with ["_law_row", "_law_at", "_law_thing"] (defScope s_law_with) := ⟨rfl, rfl, rfl, by decide +kernel, rfl, by decide +kernel, by decide +kernel⟩
abbrev s_law_any_shape : Stmt := topS 33
abbrev n_law_any_shape : List Str := ["_law_source", "_law_p", "_law_n", "_law_wide", "_law_many", "_law_table", "_law_j", "_law_manner", "_law_losses", "_law_x"]
theorem sc_law_any_shape : FnScope n_law_any_shape ["_law_source"] (defScope s_law_any_shape) := ⟨rfl, rfl, rfl, by decide +kernel, rfl, by decide +kernel, by decide +kernel⟩
abbrev s_law_any_cell : Stmt := topS 34
abbrev n_law_any_cell : List Str := ["_law_source", "_law_shape", "_law_k"]
theorem sc_law_any_cell : FnScope n_law_any_cell ["_law_source", "_law_shape"] (defScope s_law_any_cell) := ⟨rfl, rfl, rfl, by decide +kernel, rfl, by decide +kernel, by decide +kernel⟩
abbrev s_law_sums_by : Stmt := topS 35
abbrev n_law_sums_by : List Str := ["_law_shape", "_law_row", "_law_found", "_law_numbers", "_law_places", "_law_k", "_law_x"]
theorem sc_law_sums_by : FnScope n_law_sums_by ["_law_shape", "_law_row"] (defScope s_law_sums_by) := ⟨rfl, rfl, rfl, by decide +kernel, rfl, by decide +kernel, by decide +kernel⟩
abbrev s_law_no_cell : Stmt := topS 36
abbrev n_law_no_cell : List Str := ["_law_source", "_law_shape", "_law_cell", "_law_some"]
theorem sc_law_no_cell : FnScope n_law_no_cell ["_law_source", "_law_shape", "_law_cell"] (defScope s_law_no_cell) := ⟨rfl, rfl, rfl, by decide +kernel, rfl, by decide +kernel, by decide +kernel⟩
abbrev s_law_spoilt : Stmt := topS 37
abbrev n_law_spoilt : List Str := ["_law_source", "_law_shape", "_law_row", "_law_nones", "_law_way", "_law_many", "_law_first", "_law_later", "_law_cell", "_law_bad", "_law_k"]
theorem sc_law_spoilt : FnScope n_law_spoilt ["_law_source", "_law_shape", "_law_row", "_law_nones"] (defScope s_law_spoilt) := ⟨rfl, rfl, rfl, by decide +kernel, rfl, by decide +kernel, by decide +kernel⟩
abbrev s_law_heard : Stmt := topS 38
abbrev n_law_heard : List Str := ["_law_call", "error"]
theorem sc_law_heard : FnScope n_law_heard ["_law_call"] (defScope s_law_heard) := ⟨rfl, rfl, rfl, by decide +kernel, rfl, by decide +kernel, by decide +kernel⟩
abbrev s_law_row_right : Stmt := topS 39
abbrev n_law_row_right : List Str := ["_law_source", "_law_shape", "_law_row", "_law_due", "_law_turn", "_law_bad", "_law_at", "_law_call", "_law_x"]
theorem sc_law_row_right : FnScope n_law_row_right ["_law_source", "_law_shape"] (defScope s_law_row_right) := ⟨rfl, rfl, rfl, by decide +kernel, rfl, by decide +kernel, by decide +kernel⟩
abbrev s_law_left_right : Stmt := topS 40
abbrev n_law_left_right : List Str := ["_law_source", "_law_shape", "_law_many", "_law_left", "_law_whole", "_law_due", "_law_turn", "_law_bad", "_law_at", "_law_k", "_law_x"]
theorem sc_law_left_right : FnScope n_law_left_right ["_law_source", "_law_shape"] (defScope s_law_left_right) := ⟨rfl, rfl, rfl, by decide +kernel, rfl, by decide +kernel, by decide +kernel⟩
abbrev s_law : Stmt := topS 41
abbrev n_law : List Str := ["_law_script", "_law_shape", "_law_k", "_law_source"]
theorem sc_law : FnScope n_law ["_law_script"] (defScope s_law) := ⟨rfl, rfl, rfl, by decide +kernel, rfl, by decide +kernel, by decide +kernel⟩
section
/-- what the top has written -/
structure Txt (K : PySem.W.Frag) (mg : Str → Option Value) where
  f_number_within : Addr
  fd_number_within : FuncData
  d_number_within : DefAt K mg "number_within" s_number_within ["thing", "low", "high"] f_number_within fd_number_within
  f_tuple_of : Addr
  fd_tuple_of : FuncData
  d_tuple_of : DefAt K mg "tuple_of" s_tuple_of ["thing", "many"] f_tuple_of fd_tuple_of
  f_is_prime : Addr
  fd_is_prime : FuncData
  d_is_prime : DefAt K mg "is_prime" s_is_prime ["p"] f_is_prime fd_is_prime
  f_made_shape : Addr
  fd_made_shape : FuncData
  d_made_shape : DefAt K mg "made_shape" s_made_shape ["thing"] f_made_shape fd_made_shape
  f_shape_fault : Addr
  fd_shape_fault : FuncData
  d_shape_fault : DefAt K mg "shape_fault" s_shape_fault ["thing"] f_shape_fault fd_shape_fault
  f_table_fits : Addr
  fd_table_fits : FuncData
  d_table_fits : DefAt K mg "table_fits" s_table_fits ["table", "n", "p"] f_table_fits fd_table_fits
  f_numbers_fit : Addr
  fd_numbers_fit : FuncData
  d_numbers_fit : DefAt K mg "numbers_fit" s_numbers_fit ["thing", "many", "p"] f_numbers_fit fd_numbers_fit
  f_made_row : Addr
  fd_made_row : FuncData
  d_made_row : DefAt K mg "made_row" s_made_row ["shape", "thing"] f_made_row fd_made_row
  f_row_fault : Addr
  fd_row_fault : FuncData
  d_row_fault : DefAt K mg "row_fault" s_row_fault ["shape", "thing"] f_row_fault fd_row_fault
  f_cell_fits : Addr
  fd_cell_fits : FuncData
  d_cell_fits : DefAt K mg "cell_fits" s_cell_fits ["shape", "thing"] f_cell_fits fd_cell_fits
  f_sums : Addr
  fd_sums : FuncData
  d_sums : DefAt K mg "sums" s_sums ["shape", "row"] f_sums fd_sums
  f_stripe : Addr
  fd_stripe : FuncData
  d_stripe : DefAt K mg "stripe" s_stripe ["shape", "row"] f_stripe fd_stripe
  f_row_sums : Addr
  fd_row_sums : FuncData
  d_row_sums : DefAt K mg "row_sums" s_row_sums ["shape", "row"] f_row_sums fd_row_sums
  f_weighted : Addr
  fd_weighted : FuncData
  d_weighted : DefAt K mg "weighted" s_weighted ["shape", "weights", "row"] f_weighted fd_weighted
  f_shelves_of : Addr
  fd_shelves_of : FuncData
  d_shelves_of : DefAt K mg "shelves_of" s_shelves_of ["shape"] f_shelves_of fd_shelves_of
  f_made_left : Addr
  fd_made_left : FuncData
  d_made_left : DefAt K mg "made_left" s_made_left ["shape", "thing"] f_made_left fd_made_left
  f_left_fault : Addr
  fd_left_fault : FuncData
  d_left_fault : DefAt K mg "left_fault" s_left_fault ["shape", "thing"] f_left_fault fd_left_fault
  f_lost_of : Addr
  fd_lost_of : FuncData
  d_lost_of : DefAt K mg "lost_of" s_lost_of ["left"] f_lost_of fd_lost_of
  f_law_pool : Addr
  fd_law_pool : FuncData
  d_law_pool : DefAt K mg "_law_pool" s_law_pool ["_law_script", "_law_k"] f_law_pool fd_law_pool
  f_law_take : Addr
  fd_law_take : FuncData
  d_law_take : DefAt K mg "_law_take" s_law_take ["_law_source", "_law_top"] f_law_take fd_law_take
  f_law_one : Addr
  fd_law_one : FuncData
  d_law_one : DefAt K mg "_law_one" s_law_one ["_law_source", "_law_things"] f_law_one fd_law_one
  f_law_with : Addr
  fd_law_with : FuncData
  d_law_with : DefAt K mg "_law_with" s_law_with ["_law_row", "_law_at", "_law_thing"] f_law_with fd_law_with
  f_law_any_shape : Addr
  fd_law_any_shape : FuncData
  d_law_any_shape : DefAt K mg "_law_any_shape" s_law_any_shape ["_law_source"] f_law_any_shape fd_law_any_shape
  f_law_any_cell : Addr
  fd_law_any_cell : FuncData
  d_law_any_cell : DefAt K mg "_law_any_cell" s_law_any_cell ["_law_source", "_law_shape"] f_law_any_cell fd_law_any_cell
  f_law_sums_by : Addr
  fd_law_sums_by : FuncData
  d_law_sums_by : DefAt K mg "_law_sums_by" s_law_sums_by ["_law_shape", "_law_row"] f_law_sums_by fd_law_sums_by
  f_law_no_cell : Addr
  fd_law_no_cell : FuncData
  d_law_no_cell : DefAt K mg "_law_no_cell" s_law_no_cell ["_law_source", "_law_shape", "_law_cell"] f_law_no_cell fd_law_no_cell
  f_law_spoilt : Addr
  fd_law_spoilt : FuncData
  d_law_spoilt : DefAt K mg "_law_spoilt" s_law_spoilt ["_law_source", "_law_shape", "_law_row", "_law_nones"] f_law_spoilt fd_law_spoilt
  f_law_heard : Addr
  fd_law_heard : FuncData
  d_law_heard : DefAt K mg "_law_heard" s_law_heard ["_law_call"] f_law_heard fd_law_heard
  f_law_row_right : Addr
  fd_law_row_right : FuncData
  d_law_row_right : DefAt K mg "_law_row_right" s_law_row_right ["_law_source", "_law_shape"] f_law_row_right fd_law_row_right
  f_law_left_right : Addr
  fd_law_left_right : FuncData
  d_law_left_right : DefAt K mg "_law_left_right" s_law_left_right ["_law_source", "_law_shape"] f_law_left_right fd_law_left_right
  f_law : Addr
  fd_law : FuncData
  d_law : DefAt K mg "law" s_law ["_law_script"] f_law fd_law
  c_Refused : Addr
  g_Refused : mg "Refused" = some (.ref c_Refused)
  c_BadShape : Addr
  g_BadShape : mg "BadShape" = some (.ref c_BadShape)
  c_BadRow : Addr
  g_BadRow : mg "BadRow" = some (.ref c_BadRow)
  c_BadLeft : Addr
  g_BadLeft : mg "BadLeft" = some (.ref c_BadLeft)
  f_init : Addr
  fd_init : FuncData
  d_init : Fun K "__init__" "Refused.__init__" s_init f_init fd_init
  b_init : Binds K fd_init ["self", "what"] []
  ti : PySem.W.typeIn K (.ref f_init) = some (.type "function")
  o_BadShape : OexC K c_BadShape
  i_BadShape : PySem.W.findIn K (.ref c_BadShape) "__init__" = some (some (.ref f_init))
  n_BadShape_what : WhC K c_BadShape
  x_BadShape : XfC K c_BadShape
  e_BadShape : ExcC K c_BadShape
  o_BadRow : OexC K c_BadRow
  i_BadRow : PySem.W.findIn K (.ref c_BadRow) "__init__" = some (some (.ref f_init))
  n_BadRow_what : WhC K c_BadRow
  x_BadRow : XfC K c_BadRow
  e_BadRow : ExcC K c_BadRow
  te_BadRow_Refused : PySem.W.exmOne K (.ref c_BadRow) (.ref c_Refused) = some true
  ki_BadRow_BadRow : PySem.W.kitOne K (.ref c_BadRow) (.ref c_BadRow) = some true
  ki_BadRow_BadLeft : PySem.W.kitOne K (.ref c_BadRow) (.ref c_BadLeft) = some false
  o_BadLeft : OexC K c_BadLeft
  i_BadLeft : PySem.W.findIn K (.ref c_BadLeft) "__init__" = some (some (.ref f_init))
  n_BadLeft_what : WhC K c_BadLeft
  x_BadLeft : XfC K c_BadLeft
  e_BadLeft : ExcC K c_BadLeft
  te_BadLeft_Refused : PySem.W.exmOne K (.ref c_BadLeft) (.ref c_Refused) = some true
  ki_BadLeft_BadRow : PySem.W.kitOne K (.ref c_BadLeft) (.ref c_BadRow) = some false
  ki_BadLeft_BadLeft : PySem.W.kitOne K (.ref c_BadLeft) (.ref c_BadLeft) = some true
  cc_law_row_right : Addr
  P_law_row_right : Addr
  FC_law_row_right : FunC K "_law_row_right" "_law_row_right" s_law_row_right f_law_row_right fd_law_row_right cc_law_row_right
  cc_law_left_right : Addr
  P_law_left_right : Addr
  FC_law_left_right : FunC K "_law_left_right" "_law_left_right" s_law_left_right f_law_left_right fd_law_left_right cc_law_left_right
  ne_law_row_right_law_left_right : P_law_row_right ≠ P_law_left_right
  m_all : mg "all" = none
  m_bool : mg "bool" = none
  m_enumerate : mg "enumerate" = none
  m_int : mg "int" = none
  m_isinstance : mg "isinstance" = none
  m_len : mg "len" = none
  m_max : mg "max" = none
  m_min : mg "min" = none
  m_range : mg "range" = none
  m_repr : mg "repr" = none
  m_sum : mg "sum" = none
  m_tuple : mg "tuple" = none
  m_zip : mg "zip" = none
  tk_GREATEST_PRIME : Tok
  v_GREATEST_PRIME : mg "GREATEST_PRIME" = some (.int 1000003 tk_GREATEST_PRIME)
variable {K : PySem.W.Frag} {mg : Str → Option Value}
def Txt.tabs (T : Txt K mg) : List (Addr × Str) := [(T.P_law_row_right, (("_law_row_right" : Str) ++ ".<locals>.") ++ "<lambda>"), (T.P_law_left_right, (("_law_left_right" : Str) ++ ".<locals>.") ++ "<lambda>")]
def Txt.Ps (T : Txt K mg) : List Addr := [T.P_law_row_right, T.P_law_left_right]
theorem Txt.mem_law_row_right (T : Txt K mg) : (T.P_law_row_right, (("_law_row_right" : Str) ++ ".<locals>.") ++ "<lambda>") ∈ T.tabs := List.mem_cons_self
theorem Txt.one_law_row_right (T : Txt K mg) : ∀ p ∈ T.tabs, p.1 = T.P_law_row_right → p.2 = (("_law_row_right" : Str) ++ ".<locals>.") ++ "<lambda>" := fun p hp e => by
  unfold Txt.tabs at hp
  simp only [List.mem_cons, List.not_mem_nil, or_false] at hp
  rcases hp with rfl | rfl
  · rfl
  · exact absurd e (fun z => T.ne_law_row_right_law_left_right z.symm)
theorem Txt.mem_law_left_right (T : Txt K mg) : (T.P_law_left_right, (("_law_left_right" : Str) ++ ".<locals>.") ++ "<lambda>") ∈ T.tabs := List.mem_cons_of_mem _ (List.mem_cons_self)
theorem Txt.one_law_left_right (T : Txt K mg) : ∀ p ∈ T.tabs, p.1 = T.P_law_left_right → p.2 = (("_law_left_right" : Str) ++ ".<locals>.") ++ "<lambda>" := fun p hp e => by
  unfold Txt.tabs at hp
  simp only [List.mem_cons, List.not_mem_nil, or_false] at hp
  rcases hp with rfl | rfl
  · exact absurd e T.ne_law_row_right_law_left_right
  · rfl
structure Bt (T : Txt K mg) (base : Heap) : Prop where
  tb_law_row_right : TabB base mg T.cc_law_row_right T.P_law_row_right
  tb_law_left_right : TabB base mg T.cc_law_left_right T.P_law_left_right
end

/-- the law, of any script; the tables of its lambdas are empty -/
def sp_law (Ps : List Addr) (K : PySem.W.Frag) : Sp := fun vs H Q _ => ∃ (a : Addr) (ns : List Int), vs = [.ref a] ∧ SqL K H a (ns.map V.int) ∧ ns.length ≤ 63 ∧ (∀ xs, H a ≠ some (.lst xs)) ∧ (∀ b ∈ Ps, H b = some (.tbl #[])) ∧ ∀ H', Q (.bl true) H'
theorem law_sp {Ps : List Addr} {K : PySem.W.Frag} {H : Hp} {a : Addr} {ns : List Int} (h1 : ns.length ≤ 63) (h2 : OnlyT Ps H) (h3 : ∀ b ∈ Ps, H b = some (.tbl #[])) (h4 : SqL K H a (ns.map V.int)) : sp_law Ps K [.ref a] H (fun v _ => v = .bl true) E0 :=
  ⟨a, ns, rfl, h4, h1, (fun xs e => by rcases h2 a with z | ⟨_, z⟩ | ⟨o, ys, z⟩ <;> (rw [e] at z; cases z)), h3, fun _ => rfl⟩
end My


set_option maxHeartbeats 1000000
namespace My
open PySem PySem.Spec PyProof.Rows L2 Own LamX
open Evl (Ex RetV)
section
variable {P : Program} {w : World} {K : PySem.W.Frag} {mg : Str → Option Value} {base : Heap}

open Evl
/-! ### the checks -/
def sp_number_within (T : Txt K mg) : Sp := fun vs H Q _ => ∃ k x d lo hi, vs = [x, .int lo, .int hi] ∧ Gd K H k x d ∧ RetV (.bl (within d lo hi)) H Q
theorem len_number_within (T : Txt K mg) {vs H Q E} (h : sp_number_within T vs H Q E) : vs.length = 3 := by obtain ⟨_, _, _, _, _, rfl, _⟩ := h; rfl
theorem v_number_within (T : Txt K mg) {H : Hp} {k : Nat} {x : V} {d : PyData} {lo hi : Int} (g : Gd K H k x d) : SpV (sp_number_within T) [x, .int lo, .int hi] H (.bl (within d lo hi)) := spv fun H1 e Q q E => ⟨k, x, d, lo, hi, rfl, g.ex e, q⟩
def t_number_within (T : Txt K mg) : TS := (tRet (tAndV (tCB (rIsi K) (tCons (tVar 0) (tCons (tC (.ty "int")) tNil))) (tAndV (tNotV (tCB (rIsi K) (tCons (tVar 0) (tCons (tC (.ty "bool")) tNil)))) (tChain rLeI rLeI (tVar 1) (tVar 0) (tVar 2)))))

theorem pure_number_within (T : Txt K mg) {vs H Q} {E : XK} (h : sp_number_within T vs H Q E) : t_number_within T { nx := fun _ H' => Q .non H', rt := Q } (L2.start n_number_within vs) H := by
  obtain ⟨k, x, d, lo, hi, rfl, g, q⟩ := h
  refine s_ret (v := .bl (within d lo hi)) ?_ fun H1 e => q H1 e
  have e0 : Ev (tVar 0) (L2.start n_number_within [x, .int lo, .int hi]) H x := ev_var rfl
  have e1 := ev_isI e0 g
  have e2 := ev_notV (ev_isB e0 g)
  cases d with
  | int i =>
    cases g.dp
    exact ev_is (ev_andV e1 fun _ => ev_andV e2 fun _ => ev_chain (ev_var rfl) e0 (ev_var rfl)) (by simp [isI, isB, within])
  | bool b => exact ev_is (ev_andV (b := false) e1 fun _ => ev_andV (b := false) e2 fun z => by simp [isB] at z) (by simp [isI, isB, within])
  | none => exact ev_is (ev_andV (b := false) e1 fun z => by simp [isI] at z) (by simp [isI, within])
  | str b => exact ev_is (ev_andV (b := false) e1 fun z => by simp [isI] at z) (by simp [isI, within])
  | tuple b => exact ev_is (ev_andV (b := false) e1 fun z => by simp [isI] at z) (by simp [isI, within])
  | list b => exact ev_is (ev_andV (b := false) e1 fun z => by simp [isI] at z) (by simp [isI, within])
  | dict b => exact ev_is (ev_andV (b := false) e1 fun z => by simp [isI] at z) (by simp [isI, within])
theorem ok_number_within (T : Txt K mg) : FnOk P w K mg base CX0 1 T.f_number_within T.fd_number_within ["thing", "low", "high"] (sp_number_within T) :=
  T.d_number_within.F.ok sc_number_within (fun vs H Q E h => len_number_within T h) fun cdv A outer s H vs Q E hr h => ⟨t_number_within T, by
    exact (pss_one (ps_ret (pe_and (pe_callB call_isi (by rfl) T.m_isinstance (by decide +kernel) (pa_cons (pv 0) (pa_cons (pe_bltn (v := .ty "int") (by rfl) T.m_int (by decide +kernel) rfl) pa_nil))) (pe_and (pe_not (pe_callB call_isi (by rfl) T.m_isinstance (by decide +kernel) (pa_cons (pv 0) (pa_cons (pe_bltn (v := .ty "bool") (by rfl) T.m_bool (by decide +kernel) rfl) pa_nil)))) (pe_one (pe_chain op_le op_le (pv 1) (pv 0) (pv 2))))))), pure_number_within T h⟩

def isLen (d : PyData) (m : Int) : Bool := match d with
  | .tuple xs => decide ((xs.length : Int) = m)
  | _ => false
def sp_tuple_of (T : Txt K mg) : Sp := fun vs H Q _ => ∃ k x d m, vs = [x, .int m] ∧ Gd K H k x d ∧ RetV (.bl (isLen d m)) H Q
theorem len_tuple_of (T : Txt K mg) {vs H Q E} (h : sp_tuple_of T vs H Q E) : vs.length = 2 := by obtain ⟨_, _, _, _, rfl, _⟩ := h; rfl
theorem v_tuple_of (T : Txt K mg) {H : Hp} {k : Nat} {x : V} {d : PyData} {m : Int} (g : Gd K H k x d) : SpV (sp_tuple_of T) [x, .int m] H (.bl (isLen d m)) := spv fun H1 e Q q E => ⟨k, x, d, m, rfl, g.ex e, q⟩
def t_tuple_of (T : Txt K mg) : TS := (tRet (tAndV (tCB (rIsi K) (tCons (tVar 0) (tCons (tC (.ty "tuple")) tNil))) (tOp rEq (tCB (rLenV K) (tCons (tVar 0) tNil)) (tVar 1))))

theorem pure_tuple_of (T : Txt K mg) {vs H Q} {E : XK} (h : sp_tuple_of T vs H Q E) : t_tuple_of T { nx := fun _ H' => Q .non H', rt := Q } (L2.start n_tuple_of vs) H := by
  obtain ⟨k, x, d, m, rfl, g, q⟩ := h
  refine s_ret (v := .bl (isLen d m)) ?_ fun H1 e => q H1 e
  have e0 : Ev (tVar 0) (L2.start n_tuple_of [x, .int m]) H x := ev_var rfl
  have e1 := ev_isT e0 g
  cases d with
  | tuple ds =>
    obtain ⟨a, xs, j, rfl, rfl, hs, hl, _⟩ := g.tup
    exact ev_is (ev_andV e1 fun _ => ev_eqI (ev_lenT e0 hs) (ev_var rfl)) (by simp [isT, isLen, hl])
  | bool b => exact ev_is (ev_andV (b := false) e1 fun z => by simp [isT] at z) (by simp [isT, isLen])
  | int b => exact ev_is (ev_andV (b := false) e1 fun z => by simp [isT] at z) (by simp [isT, isLen])
  | none => exact ev_is (ev_andV (b := false) e1 fun z => by simp [isT] at z) (by simp [isT, isLen])
  | str b => exact ev_is (ev_andV (b := false) e1 fun z => by simp [isT] at z) (by simp [isT, isLen])
  | list b => exact ev_is (ev_andV (b := false) e1 fun z => by simp [isT] at z) (by simp [isT, isLen])
  | dict b => exact ev_is (ev_andV (b := false) e1 fun z => by simp [isT] at z) (by simp [isT, isLen])
theorem ok_tuple_of (T : Txt K mg) : FnOk P w K mg base CX0 1 T.f_tuple_of T.fd_tuple_of ["thing", "many"] (sp_tuple_of T) :=
  T.d_tuple_of.F.ok sc_tuple_of (fun vs H Q E h => len_tuple_of T h) fun cdv A outer s H vs Q E hr h => ⟨t_tuple_of T, by
    exact (pss_one (ps_ret (pe_and (pe_callB call_isi (by rfl) T.m_isinstance (by decide +kernel) (pa_cons (pv 0) (pa_cons (pe_bltn (v := .ty "tuple") (by rfl) T.m_tuple (by decide +kernel) rfl) pa_nil))) (pe_one (pe_cmpR op_eq (pe_callB call_len (by rfl) T.m_len (by decide +kernel) (pa_cons (pv 0) pa_nil)) (pv 1) (nomark _)))))), pure_tuple_of T h⟩

end
end My


set_option maxHeartbeats 1000000
namespace My
open PySem PySem.Spec PyProof.Rows L2 Own LamX
open Evl (Ex RetV)
section
variable {P : Program} {w : World} {K : PySem.W.Frag} {mg : Str → Option Value} {base : Heap}

open Evl
def primeD (d : PyData) : Bool := match d with
  | .int p => decide (2 ≤ p) && decide (p ≤ 1000003) && noDiv p
  | _ => false
def sp_is_prime (T : Txt K mg) : Sp := fun vs H Q _ => ∃ k x d, vs = [x] ∧ Gd K H k x d ∧ RetV (.bl (primeD d)) H Q
theorem len_is_prime (T : Txt K mg) {vs H Q E} (h : sp_is_prime T vs H Q E) : vs.length = 1 := by obtain ⟨_, _, _, rfl, _⟩ := h; rfl
theorem v_is_prime (T : Txt K mg) {H : Hp} {k : Nat} {x : V} {d : PyData} (g : Gd K H k x d) : SpV (sp_is_prime T) [x] H (.bl (primeD d)) := spv fun H1 e Q q E => ⟨k, x, d, rfl, g.ex e, q⟩
def t_is_prime (T : Txt K mg) : TS := (tSeq (tIfS (tNot (tB (tCall (sp_number_within T) [] E0 (tCons (tVar 0) (tCons (tC (.int 2)) (tCons (tC (.int 1000003)) tNil)))))) (tRet (tC (.bl false))) tNext) (tSeq (tIfS (tTest (tOp rLtI (tVar 0) (tC (.int 4)))) (tRet (tC (.bl true))) tNext) (tSeq (tIfS (tTest (tOp rEq (tOp rModI (tVar 0) (tC (.int 2))) (tC (.int 0)))) (tRet (tC (.bl false))) tNext) (tSeq (tAsg (tC (.int 3)) (gName 1)) (tSeq (tWhile (tTest (tOp rLeI (tOp rMulI (tVar 1) (tVar 1)) (tVar 0))) (tSeq (tIfS (tTest (tOp rEq (tOp rModI (tVar 0) (tVar 1)) (tC (.int 0)))) (tRet (tC (.bl false))) tNext) (tAug 1 (tC (.int 2)) (ipI fun i j => i + j)))) (tRet (tC (.bl true))))))))

theorem within_int {d : PyData} {lo hi : Int} (h : within d lo hi = true) : ∃ i, d = .int i ∧ lo ≤ i ∧ i ≤ hi := by
  cases d <;> simp [within] at h
  exact ⟨_, rfl, h.1, h.2⟩
theorem pure_is_prime (T : Txt K mg) {vs H Q} {E : XK} (h : sp_is_prime T vs H Q E) : t_is_prime T { nx := fun _ H' => Q .non H', rt := Q } (L2.start n_is_prime vs) H := by
  obtain ⟨k, x, d, rfl, g, q⟩ := h
  -- if not number_within(p, 2, GREATEST_PRIME)
  refine q_when (et_not (et_B (ev_call (ea_3 (ev_var rfl) ev_c ev_c) (v_number_within T g)))) (fun c H1 e1 => ?_) (fun c H1 e1 => ?_)
  · refine s_ret ev_c fun H2 e2 => ?_
    have z : primeD d = false := by
      have c' : within d 2 1000003 = false := by simpa using c
      cases d <;> simp [primeD, within] at c' ⊢
      intro h1 h2
      exact absurd h2 (by have := c' h1; omega)
    rw [← z]
    exact q H2 (e1.trans e2)
  · obtain ⟨p, rfl, h2, h3⟩ := within_int (by simpa using c : within d 2 1000003 = true)
    have g1 := g.ex e1
    cases g.dp
    have P : primeD (.int p) = noDiv p := by simp [primeD, h2, h3]
    rw [P] at q
    have q1 := fun H2 (e : Ex H1 H2) => q H2 (e1.trans e)
    -- if p < 4
    refine q_when (ev_ltI (ev_var rfl) ev_c) (fun c H2 e2 => ?_) (fun c H2 e2 => ?_)
    · refine s_ret ev_c fun H3 e3 => ?_
      rw [← noDiv_small h2 (of_decide_eq_true c)]
      exact q1 H3 (e2.trans e3)
    · have h4 : 4 ≤ p := by have := of_decide_eq_false c; omega
      -- if p % 2 == 0
      refine q_when (et_eqI (ev_modI (ev_var rfl) ev_c (by decide)) ev_c) (fun c H3 e3 => ?_) (fun c H3 e3 => ?_)
      · refine s_ret ev_c fun H4 e4 => ?_
        rw [← noDiv_even h4 h3 (of_decide_eq_true c)]
        exact q1 H4 ((e2.trans e3).trans e4)
      · have odd : p % 2 ≠ 0 := of_decide_eq_false c
        -- divisor = 3
        refine q_asg ev_c fun H4 e4 => ?_
        have E4 := (e2.trans e3).trans e4
        refine q_while (fun m σ' H' => ∃ v : Int, σ' = [some (.int p), some (.int v)] ∧ Sought p v ∧ v ≤ 1003 ∧ m = (1100 - v).toNat ∧ Ex H1 H') (1100 - 3 : Int).toNat ⟨3, rfl, Sought.start odd, by omega, rfl, E4⟩ ?_
        rintro m σ' H' ⟨v, rfl, s, hv, rfl, e'⟩
        have s3 := s.2.1
        refine ⟨_, ev_leI (ev_mulI (ev_var rfl) (ev_var rfl) (.inl ⟨by omega, by omega⟩)) (ev_var rfl), fun c H5 e5 => ?_, fun c H5 e5 => ?_⟩
        · have le := of_decide_eq_true c
          have small := s.small h3 le
          refine ⟨fun σ' H' => ∃ v' : Int, v' = v + 2 ∧ σ' = [some (.int p), some (.int v')] ∧ Sought p v' ∧ Ex H1 H', ?_, ?_⟩
          · rintro σ2 H2' ⟨v', rfl, rfl, s', e''⟩
            exact ⟨(1100 - (v + 2)).toNat, by omega, v + 2, rfl, s', by omega, rfl, e''⟩
          · refine q_when (et_eqI (ev_modI (ev_var rfl) (ev_var rfl) (by omega)) ev_c) (fun c H6 e6 => ?_) (fun c H6 e6 => ?_)
            · refine s_ret ev_c fun H7 e7 => ?_
              rw [← noDiv_found h3 (by omega) le (of_decide_eq_true c)]
              exact q1 H7 (((e'.trans e5).trans e6).trans e7)
            · exact ⟨_, rfl, v, 2, rfl, rfl, v + 2, rfl, rfl, s.next odd (of_decide_eq_false c), (e'.trans e5).trans e6⟩
        · refine s_ret ev_c fun H6 e6 => ?_
          rw [← s.done h3 (of_decide_eq_false c)]
          exact q1 H6 ((e'.trans e5).trans e6)
theorem ok_is_prime (T : Txt K mg) : FnOk P w K mg base CX0 2 T.f_is_prime T.fd_is_prime ["p"] (sp_is_prime T) :=
  T.d_is_prime.F.ok sc_is_prime (fun vs H Q E h => len_is_prime T h) fun cdv A outer s H vs Q E hr h => ⟨t_is_prime T, by
    exact (pss_cons (ps_if (pt_not (pt_val (pe_call (ok_number_within T) (hr.mono (by decide)) (by rfl) T.d_number_within.g T.d_number_within.F.kp T.d_number_within.b .nil pass0 (pa_cons (pv 0) (pa_cons pe_int (pa_cons (pe_glob (v := .int 1000003) (by rfl) T.v_GREATEST_PRIME ⟨_, rfl⟩) pa_nil)))))) (pss_one (ps_ret pe_bl)) pss_nil) (pss_cons (ps_if (pt_cmpR op_lt (pv 0) pe_int (nomark _)) (pss_one (ps_ret pe_bl)) pss_nil) (pss_cons (ps_if (pt_cmpR op_eq (pe_op op_mod (pv 0) pe_int) pe_int (nomark _)) (pss_one (ps_ret pe_bl)) pss_nil) (pss_cons (ps_set (i := 1) sc_is_prime.nd rfl (Or.inl rfl) pe_int) (pss_cons (ps_while PassesOwn.never (pt_cmpR op_le (pe_op op_mul (pv 1) (pv 1)) (pv 0) (nomark _)) (pss_cons (ps_if (pt_cmpR op_eq (pe_op op_mod (pv 0) (pv 1)) pe_int (nomark _)) (pss_one (ps_ret pe_bl)) pss_nil) (pss_one (ps_aug (i := 1) sc_is_prime.nd rfl (Or.inl rfl) pe_int ip_add)))) (pss_one (ps_ret pe_bl))))))), pure_is_prime T h⟩

def lawPrime (d : PyData) : Bool := within d 5 1000003 && primeD d
end
end My


set_option maxHeartbeats 1000000
namespace My
open PySem PySem.Spec PyProof.Rows L2 Own LamX
open Evl (Ex RetV)
section
variable {P : Program} {w : World} {K : PySem.W.Frag} {mg : Str → Option Value} {base : Heap}

open Evl
def rowD (d : PyData) (n p : Int) : Bool := match d with
  | .tuple xs => decide ((xs.length : Int) = n) && xs.all fun x => within x 0 (p - 1)
  | _ => false
def tableD (d : PyData) (n p : Int) : Bool := match d with
  | .tuple rows => decide (rows.length ≤ 8) && rows.all fun r => rowD r n p
  | _ => false
def sp_numbers_fit (T : Txt K mg) : Sp := fun vs H Q _ => ∃ k x d n p, vs = [x, .int n, .int p] ∧ Gd K H k x d ∧ RetV (.bl (rowD d n p)) H Q
theorem len_numbers_fit (T : Txt K mg) {vs H Q E} (h : sp_numbers_fit T vs H Q E) : vs.length = 3 := by obtain ⟨_, _, _, _, _, rfl, _⟩ := h; rfl
theorem v_numbers_fit (T : Txt K mg) {H : Hp} {k : Nat} {x : V} {d : PyData} {n p : Int} (g : Gd K H k x d) : SpV (sp_numbers_fit T) [x, .int n, .int p] H (.bl (rowD d n p)) := spv fun H1 e Q q E => ⟨k, x, d, n, p, rfl, g.ex e, q⟩
def t_numbers_fit (T : Txt K mg) : TS := (tRet (tAndV (tCall (sp_tuple_of T) [] E0 (tCons (tVar 0) (tCons (tVar 1) tNil))) (tCB (rAll K) (tCons (tLc (iTup K (tVar 0)) (gName 3) tYes (tCall (sp_number_within T) [] E0 (tCons (tVar 3) (tCons (tC (.int 0)) (tCons (tOp rSubI (tVar 2) (tC (.int 1))) tNil)))) [3]) tNil))))

theorem pure_numbers_fit (T : Txt K mg) {vs H Q} {E : XK} (h : sp_numbers_fit T vs H Q E) : t_numbers_fit T { nx := fun _ H' => Q .non H', rt := Q } (L2.start n_numbers_fit vs) H := by
  obtain ⟨k, x, d, n, p, rfl, g, q⟩ := h
  refine s_ret (v := .bl (rowD d n p)) ?_ fun H1 e => q H1 e
  have e1 : Ev (tCall (sp_tuple_of T) [] E0 (tCons (tVar 0) (tCons (tVar 1) tNil))) (L2.start n_numbers_fit [x, .int n, .int p]) H (.bl (isLen d n)) := ev_call (ea_2 (ev_var rfl) (ev_var rfl)) (v_tuple_of T g)
  cases d with
  | tuple ds =>
    obtain ⟨a, xs, j, rfl, rfl, hs, hl, h20, _, _, hx⟩ := g.tup
    refine ev_is (ev_andV (b := ds.all fun d => within d 0 (p - 1)) e1 fun _ => ?_) (by simp [isLen, rowD])
    rw [← all_id]
    refine ev_allB ?_
    rw [← given_bools ds .none, ← hl]
    refine el_lcTp _ _ (ev_var rfl) hs (by omega) (fun x => rfl) (fun i y H1 e hy => et_yes) fun i y H1 e hy _ => ?_
    obtain ⟨d, hd, gd⟩ := hx i y hy
    rw [getD_at hd]
    exact ev_call (ea_3 (ev_var rfl) ev_c (ev_subI (ev_var rfl) ev_c)) (v_number_within T (gd.ex e))
  | bool b => exact ev_is (ev_andV (b := false) e1 fun z => by simp [isLen] at z) (by simp [isLen, rowD])
  | int b => exact ev_is (ev_andV (b := false) e1 fun z => by simp [isLen] at z) (by simp [isLen, rowD])
  | none => exact ev_is (ev_andV (b := false) e1 fun z => by simp [isLen] at z) (by simp [isLen, rowD])
  | str b => exact ev_is (ev_andV (b := false) e1 fun z => by simp [isLen] at z) (by simp [isLen, rowD])
  | list b => exact ev_is (ev_andV (b := false) e1 fun z => by simp [isLen] at z) (by simp [isLen, rowD])
  | dict b => exact ev_is (ev_andV (b := false) e1 fun z => by simp [isLen] at z) (by simp [isLen, rowD])
theorem ok_numbers_fit (T : Txt K mg) : FnOk P w K mg base CX0 2 T.f_numbers_fit T.fd_numbers_fit ["thing", "many", "p"] (sp_numbers_fit T) :=
  T.d_numbers_fit.F.ok sc_numbers_fit (fun vs H Q E h => len_numbers_fit T h) fun cdv A outer s H vs Q E hr h => ⟨t_numbers_fit T, by
    exact (pss_one (ps_ret (pe_and (pe_call (ok_tuple_of T) (hr.mono (by decide)) (by rfl) T.d_tuple_of.g T.d_tuple_of.F.kp T.d_tuple_of.b .nil pass0 (pa_cons (pv 0) (pa_cons (pv 1) pa_nil))) (pe_one (pe_callB (cr_all rfl) (by rfl) T.m_all (by decide +kernel) (pa_cons (pe_lc (own := [("number", 3)]) (g := (gName 3)) (tt := tYes) (te := (tCall (sp_number_within T) [] E0 (tCons (tVar 3) (tCons (tC (.int 0)) (tCons (tOp rSubI (tVar 2) (tC (.int 1))) tNil))))) rfl sc_numbers_fit.nd (pi_tup (pv 0)) (blkOk_by (own := [("number", 3)]) (N := n_numbers_fit) (sc := defScope s_numbers_fit) (by decide +kernel)) (fun _ _ _ _ _ => (pg_name (i := 3) sc_numbers_fit.nd rfl (Or.inl rfl))) (fun _ _ _ _ _ => pts_nil) (fun _ _ _ _ _ => (pe_call (ok_number_within T) (hr.mono (by decide)) (by rfl) T.d_number_within.g T.d_number_within.F.kp T.d_number_within.b .nil pass0 (pa_cons (pv 3) (pa_cons pe_int (pa_cons (pe_op op_sub (pv 2) pe_int) pa_nil)))))) pa_nil)))))), pure_numbers_fit T h⟩

def sp_table_fits (T : Txt K mg) : Sp := fun vs H Q _ => ∃ k x d n p, vs = [x, .int n, .int p] ∧ Gd K H k x d ∧ RetV (.bl (tableD d n p)) H Q
theorem len_table_fits (T : Txt K mg) {vs H Q E} (h : sp_table_fits T vs H Q E) : vs.length = 3 := by obtain ⟨_, _, _, _, _, rfl, _⟩ := h; rfl
theorem v_table_fits (T : Txt K mg) {H : Hp} {k : Nat} {x : V} {d : PyData} {n p : Int} (g : Gd K H k x d) : SpV (sp_table_fits T) [x, .int n, .int p] H (.bl (tableD d n p)) := spv fun H1 e Q q E => ⟨k, x, d, n, p, rfl, g.ex e, q⟩
/-- isinstance(x, tuple) and no more than 8 -/
theorem table_first {d : PyData} {n p : Int} (h : isT d = false) : tableD d n p = false := by cases d <;> simp [isT, tableD] at h ⊢
theorem row_first {d : PyData} {n p : Int} (h : isT d = false) : rowD d n p = false := by cases d <;> simp [isT, rowD] at h ⊢
theorem isT_tuple {d : PyData} (h : isT d = true) : ∃ ds, d = .tuple ds := by cases d <;> simp [isT] at h; exact ⟨_, rfl⟩
def t_table_fits (T : Txt K mg) : TS := (tSeq (tIfS (tOr (tNot (tB (tCB (rIsi K) (tCons (tVar 0) (tCons (tC (.ty "tuple")) tNil))))) (tTest (tOp rGtI (tCB (rLenV K) (tCons (tVar 0) tNil)) (tC (.int 8))))) (tRet (tC (.bl false))) tNext) (tRet (tCB (rAll K) (tCons (tLc (iTup K (tVar 0)) (gName 3) tYes (tCall (sp_numbers_fit T) [] E0 (tCons (tVar 3) (tCons (tVar 1) (tCons (tVar 2) tNil)))) [3]) tNil))))

theorem pure_table_fits (T : Txt K mg) {vs H Q} {E : XK} (h : sp_table_fits T vs H Q E) : t_table_fits T { nx := fun _ H' => Q .non H', rt := Q } (L2.start n_table_fits vs) H := by
  obtain ⟨k, x, d, n, p, rfl, g, q⟩ := h
  have i1 : EvT (tNot (tB (tCB (rIsi K) (tCons (tVar 0) (tCons (tC (.ty "tuple")) tNil))))) (L2.start n_table_fits [x, .int n, .int p]) H (!isT d) := et_not (et_B (ev_isT (ev_var rfl) g))
  cases hT : isT d with
  | false =>
    refine q_when (et_false_or i1 (by rw [hT]; rfl)) (fun c H1 e1 => ?_) (fun c => by cases c)
    refine s_ret ev_c fun H2 e2 => ?_
    rw [← table_first (n := n) (p := p) hT]
    exact q H2 (e1.trans e2)
  | true =>
    obtain ⟨ds, rfl⟩ := isT_tuple hT
    obtain ⟨a, xs, j, rfl, rfl, hs, hl, h20, _, _, hx⟩ := g.tup
    refine q_when (et_or i1 fun _ => ev_gtI (ev_lenT (ev_var rfl) hs) ev_c) (fun c H1 e1 => ?_) (fun c H1 e1 => ?_)
    · refine s_ret ev_c fun H2 e2 => ?_
      have z : tableD (.tuple ds) n p = false := by
        have c' : 8 < (xs.length : Int) := by simpa [isT] using c
        have : ¬ ds.length ≤ 8 := by omega
        simp [tableD, this]
      rw [← z]
      exact q H2 (e1.trans e2)
    · have c' : ds.length ≤ 8 := by
        have c' : (xs.length : Int) ≤ 8 := by simpa [isT] using c
        omega
      have z : tableD (.tuple ds) n p = ds.all fun r => rowD r n p := by simp [tableD, c']
      rw [z] at q
      refine s_ret (v := .bl (ds.all fun r => rowD r n p)) ?_ fun H2 e2 => q H2 (e1.trans e2)
      rw [← all_id]
      refine ev_allB ?_
      rw [← given_bools ds .none, ← hl]
      refine el_lcTp _ _ (ev_var rfl) (ex_t e1 hs) (by omega) (fun x => rfl) (fun i y H1 e hy => et_yes) fun i y H2 e hy _ => ?_
      obtain ⟨d, hd, gd⟩ := hx i y hy
      rw [getD_at hd]
      exact ev_call (ea_3 (ev_var rfl) (ev_var rfl) (ev_var rfl)) (v_numbers_fit T ((gd.ex e1).ex e))
theorem ok_table_fits (T : Txt K mg) : FnOk P w K mg base CX0 3 T.f_table_fits T.fd_table_fits ["table", "n", "p"] (sp_table_fits T) :=
  T.d_table_fits.F.ok sc_table_fits (fun vs H Q E h => len_table_fits T h) fun cdv A outer s H vs Q E hr h => ⟨t_table_fits T, by
    exact (pss_cons (ps_if (PW.pt (pw_or (pt_not (pt_val (pe_callB call_isi (by rfl) T.m_isinstance (by decide +kernel) (pa_cons (pv 0) (pa_cons (pe_bltn (v := .ty "tuple") (by rfl) T.m_tuple (by decide +kernel) rfl) pa_nil))))) (pw_or1 (pt_cmpR op_gt (pe_callB call_len (by rfl) T.m_len (by decide +kernel) (pa_cons (pv 0) pa_nil)) pe_int (nomark _))))) (pss_one (ps_ret pe_bl)) pss_nil) (pss_one (ps_ret (pe_callB (cr_all rfl) (by rfl) T.m_all (by decide +kernel) (pa_cons (pe_lc (own := [("row", 3)]) (g := (gName 3)) (tt := tYes) (te := (tCall (sp_numbers_fit T) [] E0 (tCons (tVar 3) (tCons (tVar 1) (tCons (tVar 2) tNil))))) rfl sc_table_fits.nd (pi_tup (pv 0)) (blkOk_by (own := [("row", 3)]) (N := n_table_fits) (sc := defScope s_table_fits) (by decide +kernel)) (fun _ _ _ _ _ => (pg_name (i := 3) sc_table_fits.nd rfl (Or.inl rfl))) (fun _ _ _ _ _ => pts_nil) (fun _ _ _ _ _ => (pe_call (ok_numbers_fit T) (hr.mono (by decide)) (by rfl) T.d_numbers_fit.g T.d_numbers_fit.F.kp T.d_numbers_fit.b .nil pass0 (pa_cons (pv 3) (pa_cons (pv 1) (pa_cons (pv 2) pa_nil)))))) pa_nil))))), pure_table_fits T h⟩

theorem all_take {α : Type} {ds : List α} {f : α → Bool} {i : Nat} {d : α} (h : ds[i]? = some d) (h1 : (ds.take i).all f = true) (h2 : f d = true) : (ds.take (i + 1)).all f = true := by
  rw [List.take_add_one, h]
  simp [h1, h2]
theorem all_no {α : Type} {ds : List α} {f : α → Bool} {i : Nat} {d : α} (h : ds[i]? = some d) (h2 : f d = false) : ds.all f = false :=
  Bool.eq_false_iff.mpr fun z => by
    have := List.all_eq_true.mp z d (List.mem_of_getElem? h)
    rw [h2] at this
    cases this
end
end My


set_option maxHeartbeats 1000000
namespace My
open PySem PySem.Spec PyProof.Rows L2 Own LamX
open Evl (Ex RetV)
section
variable {P : Program} {w : World} {K : PySem.W.Frag} {mg : Str → Option Value} {base : Heap}

open Evl
def intOf : PyData → Int
  | .int i => i
  | _ => 0
def kOk (k n : PyData) : Bool := within k 1 3 && decide (intOf k ≤ intOf n)
def mOk (m e : PyData) : Bool := within m 0 1 && !(decide (intOf m = 1) && decide (0 < intOf e))
theorem mOk_int {a b : Int} : mOk (.int a) (.int b) = (within (.int a) 0 1 && !(decide (a = 1) && decide (0 < b))) := rfl
def fault7 (p w n k e m t : PyData) : Option Int :=
  if lawPrime p = false then some 0 else if within w 1 16 = false then some 1 else if within n 1 8 = false then some 2 else if kOk k n = false then some 3
  else if within e 0 2 = false then some 4 else if mOk m e = false then some 5 else if tableD t (intOf n) (intOf p) = false then some 6 else none
def fault : PyData → Option Int
  | .tuple [p, w, n, k, e, m, t] => fault7 p w n k e m t
  | _ => some (-1)
theorem fault_no {d : PyData} (h : isLen d 7 = false) : fault d = some (-1) := by
  cases d with
  | tuple ds =>
    match ds, h with
    | [], _ => rfl
    | [_], _ => rfl
    | [_, _], _ => rfl
    | [_, _, _], _ => rfl
    | [_, _, _, _], _ => rfl
    | [_, _, _, _, _], _ => rfl
    | [_, _, _, _, _, _], _ => rfl
    | [_, _, _, _, _, _, _], h => simp [isLen] at h
    | _ :: _ :: _ :: _ :: _ :: _ :: _ :: _ :: _, _ => rfl
  | _ => rfl
theorem seven {d : PyData} (h : isLen d 7 = true) : ∃ p w n k e m t, d = .tuple [p, w, n, k, e, m, t] := by
  cases d with
  | tuple ds =>
    have l : ds.length = 7 := by
      have : (ds.length : Int) = 7 := by simpa [isLen] using h
      omega
    match ds, l with
    | [p, w, n, k, e, m, t], _ => exact ⟨p, w, n, k, e, m, t, rfl⟩
  | _ => simp [isLen] at h
theorem gdAll7 {K : PySem.W.Frag} {H : Hp} {k : Nat} {xs : List V} {p w n l e m t : PyData} (hl : xs.length = 7) (h : ∀ (i : Nat) (x : V), xs[i]? = some x → ∃ d, [p, w, n, l, e, m, t][i]? = some d ∧ Gd K H k x d) :
    ∃ x0 x1 x2 x3 x4 x5 x6, xs = [x0, x1, x2, x3, x4, x5, x6] ∧ Gd K H k x0 p ∧ Gd K H k x1 w ∧ Gd K H k x2 n ∧ Gd K H k x3 l ∧ Gd K H k x4 e ∧ Gd K H k x5 m ∧ Gd K H k x6 t := by
  match xs, hl with
  | [x0, x1, x2, x3, x4, x5, x6], _ =>
    have f : ∀ (i : Nat) (x : V) (d : PyData), [x0, x1, x2, x3, x4, x5, x6][i]? = some x → [p, w, n, l, e, m, t][i]? = some d → Gd K H k x d := fun i x d h1 h2 => by
      obtain ⟨d', h3, g⟩ := h i x h1
      rw [h2] at h3
      injection h3 with h3
      rw [h3]
      exact g
    exact ⟨x0, x1, x2, x3, x4, x5, x6, rfl, f 0 _ _ rfl rfl, f 1 _ _ rfl rfl, f 2 _ _ rfl rfl, f 3 _ _ rfl rfl, f 4 _ _ rfl rfl, f 5 _ _ rfl rfl, f 6 _ _ rfl rfl⟩
theorem lawPrime_int {d : PyData} (h : lawPrime d = true) : ∃ p, d = .int p ∧ 5 ≤ p ∧ p ≤ 1000003 := by
  obtain ⟨h1, _⟩ := Bool.and_eq_true_iff.mp h
  exact within_int h1
/-- the program's two questions of a prime are the law's one -/
theorem prime_five {d : PyData} {i : Int} (h : primeD d = true) (e : d = .int i) : lawPrime d = !decide (i < 5) := by
  subst e
  have h' := h
  simp only [primeD, Bool.and_eq_true, decide_eq_true_eq] at h'
  unfold lawPrime
  rw [h, Bool.and_true]
  by_cases c : i < 5
  · simp [within, c]; omega
  · simp [within, c]; omega
theorem prime_int {d : PyData} (h : primeD d = true) : ∃ i, d = .int i := by cases d <;> simp [primeD] at h; exact ⟨_, rfl⟩
theorem prime_no {d : PyData} (h : primeD d = false) : lawPrime d = false := by simp [lawPrime, h]
theorem kOk_prog {k n : PyData} {i : Int} (e : n = .int i) : within k 1 (if i < 3 then i else 3) = kOk k n := by
  subst e
  cases k <;> simp [within, kOk, intOf]
  rename_i j
  split <;> rename_i c <;> · by_cases h1 : 1 ≤ j <;> by_cases h2 : j ≤ i <;> by_cases h3 : j ≤ 3 <;> simp [h1, h2, h3] <;> omega
def sp_shape_fault (T : Txt K mg) : Sp := fun vs H Q _ => ∃ k x d, vs = [x] ∧ Gd K H k x d ∧ RetV (optV (fault d)) H Q
theorem len_shape_fault (T : Txt K mg) {vs H Q E} (h : sp_shape_fault T vs H Q E) : vs.length = 1 := by obtain ⟨_, _, _, rfl, _⟩ := h; rfl
theorem v_shape_fault (T : Txt K mg) {H : Hp} {k : Nat} {x : V} {d : PyData} (g : Gd K H k x d) : SpV (sp_shape_fault T) [x] H (optV (fault d)) := spv fun H1 e Q q E => ⟨k, x, d, rfl, g.ex e, q⟩
theorem ev_neg1 {σ : L2.St} {H : Hp} : Ev (tUn rNegI (tC (.int 1))) σ H (.int (-1)) := fun H1 e Q q => ⟨1, rfl, q H1 (.refl _)⟩
def t_shape_fault (T : Txt K mg) : TS := (tSeq (tIfS (tNot (tB (tCall (sp_tuple_of T) [] E0 (tCons (tVar 0) (tCons (tC (.int 7)) tNil))))) (tRet (tUn rNegI (tC (.int 1)))) tNext) (tSeq (tAsg (tVar 0) (gTup K 7 (gCons (gName 1) (gCons (gName 2) (gCons (gName 3) (gCons (gName 4) (gCons (gName 5) (gCons (gName 6) (gCons (gName 7) gNil))))))))) (tSeq (tIfS (tOr (tNot (tB (tCall (sp_is_prime T) [] E0 (tCons (tVar 1) tNil)))) (tTest (tOp rLtI (tVar 1) (tC (.int 5))))) (tRet (tC (.int 0))) tNext) (tSeq (tIfS (tNot (tB (tCall (sp_number_within T) [] E0 (tCons (tVar 2) (tCons (tC (.int 1)) (tCons (tC (.int 16)) tNil)))))) (tRet (tC (.int 1))) tNext) (tSeq (tIfS (tNot (tB (tCall (sp_number_within T) [] E0 (tCons (tVar 3) (tCons (tC (.int 1)) (tCons (tC (.int 8)) tNil)))))) (tRet (tC (.int 2))) tNext) (tSeq (tIfS (tNot (tB (tCall (sp_number_within T) [] E0 (tCons (tVar 4) (tCons (tC (.int 1)) (tCons (tCB rMin2 (tCons (tC (.int 3)) (tCons (tVar 3) tNil))) tNil)))))) (tRet (tC (.int 3))) tNext) (tSeq (tIfS (tNot (tB (tCall (sp_number_within T) [] E0 (tCons (tVar 5) (tCons (tC (.int 0)) (tCons (tC (.int 2)) tNil)))))) (tRet (tC (.int 4))) tNext) (tSeq (tIfS (tOr (tNot (tB (tCall (sp_number_within T) [] E0 (tCons (tVar 6) (tCons (tC (.int 0)) (tCons (tC (.int 1)) tNil)))))) (tAnd (tTest (tOp rEq (tVar 6) (tC (.int 1)))) (tTest (tOp rGtI (tVar 5) (tC (.int 0)))))) (tRet (tC (.int 5))) tNext) (tSeq (tIfS (tNot (tB (tCall (sp_table_fits T) [] E0 (tCons (tVar 7) (tCons (tVar 3) (tCons (tVar 1) tNil)))))) (tRet (tC (.int 6))) tNext) (tRet (tC .non)))))))))))

theorem pure_shape_fault (T : Txt K mg) {vs H Q} {E : XK} (h : sp_shape_fault T vs H Q E) : t_shape_fault T { nx := fun _ H' => Q .non H', rt := Q } (L2.start n_shape_fault vs) H := by
  obtain ⟨k, x, d, rfl, g, q⟩ := h
  refine q_when (et_not (et_B (ev_call (ea_2 (ev_var rfl) ev_c) (v_tuple_of T g)))) (fun c H1 e1 => ?_) (fun c H1 e1 => ?_)
  · refine s_ret ev_neg1 fun H2 e2 => ?_
    have z := fault_no (show isLen d 7 = false by simpa using c)
    rw [z] at q
    exact q H2 (e1.trans e2)
  · obtain ⟨p, w', n, l, e, m, t, rfl⟩ := seven (show isLen d 7 = true by simpa using c)
    obtain ⟨a, xs, j, rfl, rfl, hs, hl, _, _, _, hx⟩ := (g.ex e1).tup
    obtain ⟨x0, x1, x2, x3, x4, x5, x6, rfl, g0, g1, g2, g3, g4, g5, g6⟩ := gdAll7 hl hx
    have q1 : RetV (optV (fault7 p w' n l e m t)) H1 Q := fun H2 e2 => q H2 (e1.trans e2)
    refine ⟨.ref a, rfl, a, _, rfl, hs, rfl, x0, _, rfl, x1, _, rfl, x2, _, rfl, x3, _, rfl, x4, _, rfl, x5, _, rfl, x6, _, rfl, rfl, ?_⟩
    -- if not is_prime(p) or p < 5
    have i1 : EvT (tOr (tNot (tB (tCall (sp_is_prime T) [] E0 (tCons (tVar 1) tNil)))) (tTest (tOp rLtI (tVar 1) (tC (.int 5))))) [some (.ref a), some x0, some x1, some x2, some x3, some x4, some x5, some x6] H1 (!lawPrime p) := by
      have i0 : EvT (tNot (tB (tCall (sp_is_prime T) [] E0 (tCons (tVar 1) tNil)))) [some (.ref a), some x0, some x1, some x2, some x3, some x4, some x5, some x6] H1 (!primeD p) := et_not (et_B (ev_call (ea_1 (ev_var rfl)) (v_is_prime T g0)))
      cases hP : primeD p with
      | false => exact et_is (et_false_or i0 (by rw [hP]; rfl)) (by rw [prime_no hP]; rfl)
      | true =>
        obtain ⟨i, rfl⟩ := prime_int hP
        cases g0.dp
        exact et_is (et_or i0 fun _ => ev_ltI (ev_var rfl) ev_c) (by rw [prime_five hP rfl, hP]; simp)
    refine q_when i1 (fun c H2 e2 => ?_) (fun c H2 e2 => ?_)
    · refine s_ret ev_c fun H3 e3 => ?_
      rw [show fault7 p w' n l e m t = some 0 by have c : lawPrime p = false := by simpa using c
                                                 simp [fault7, c]] at q1
      exact q1 H3 (e2.trans e3)
    · have hp : lawPrime p = true := by simpa using c
      obtain ⟨i, rfl, _, _⟩ := lawPrime_int hp
      cases g0.dp
      have q2 : RetV (optV (fault7 (.int i) w' n l e m t)) H2 Q := fun H3 e3 => q1 H3 (e2.trans e3)
      clear q1 q i1
      replace g1 := g1.ex e2; replace g2 := g2.ex e2; replace g3 := g3.ex e2; replace g4 := g4.ex e2; replace g5 := g5.ex e2; replace g6 := g6.ex e2
      -- wide
      refine q_when (et_not (et_B (ev_call (ea_3 (ev_var rfl) ev_c ev_c) (v_number_within T g1)))) (fun c H3 e3 => ?_) (fun c H3 e3 => ?_)
      · refine s_ret ev_c fun H4 e4 => ?_
        rw [show fault7 (.int i) w' n l e m t = some 1 by have c : within w' 1 16 = false := by simpa using c
                                                          simp [fault7, hp, c]] at q2
        exact q2 H4 (e3.trans e4)
      have c1 : within w' 1 16 = true := by simpa using c
      -- n
      refine q_when (et_not (et_B (ev_call (ea_3 (ev_var rfl) ev_c ev_c) (v_number_within T (g2.ex e3))))) (fun c H4 e4 => ?_) (fun c H4 e4 => ?_)
      · refine s_ret ev_c fun H5 e5 => ?_
        rw [show fault7 (.int i) w' n l e m t = some 2 by have c : within n 1 8 = false := by simpa using c
                                                          simp [fault7, hp, c1, c]] at q2
        exact q2 H5 ((e3.trans e4).trans e5)
      have c2 : within n 1 8 = true := by simpa using c
      obtain ⟨ni, rfl, n1, n8⟩ := within_int c2
      cases g2.dp
      have E4 := e3.trans e4
      -- k
      refine q_when (et_not (et_B (ev_call (ea_3 (ev_var rfl) ev_c (ev_min2 ev_c (ev_var rfl))) (v_number_within T (g3.ex E4))))) (fun c H5 e5 => ?_) (fun c H5 e5 => ?_)
      · refine s_ret ev_c fun H6 e6 => ?_
        rw [kOk_prog (n := .int ni) rfl] at c
        rw [show fault7 (.int i) w' (.int ni) l e m t = some 3 by have c : kOk l (.int ni) = false := by simpa using c
                                                                  simp [fault7, hp, c1, c2, c]] at q2
        exact q2 H6 ((E4.trans e5).trans e6)
      rw [kOk_prog (n := .int ni) rfl] at c
      have c3 : kOk l (.int ni) = true := by simpa using c
      have E5 := E4.trans e5
      -- e
      refine q_when (et_not (et_B (ev_call (ea_3 (ev_var rfl) ev_c ev_c) (v_number_within T (g4.ex E5))))) (fun c H6 e6 => ?_) (fun c H6 e6 => ?_)
      · refine s_ret ev_c fun H7 e7 => ?_
        rw [show fault7 (.int i) w' (.int ni) l e m t = some 4 by have c : within e 0 2 = false := by simpa using c
                                                                  simp [fault7, hp, c1, c2, c3, c]] at q2
        exact q2 H7 ((E5.trans e6).trans e7)
      have c4 : within e 0 2 = true := by simpa using c
      obtain ⟨ei, rfl, _, _⟩ := within_int c4
      cases g4.dp
      have E6 := E5.trans e6
      -- manner
      have i5 : EvT (tOr (tNot (tB (tCall (sp_number_within T) [] E0 (tCons (tVar 6) (tCons (tC (.int 0)) (tCons (tC (.int 1)) tNil)))))) (tAnd (tTest (tOp rEq (tVar 6) (tC (.int 1)))) (tTest (tOp rGtI (tVar 5) (tC (.int 0))))))
          [some (.ref a), some (.int i), some x1, some (.int ni), some x3, some (.int ei), some x5, some x6] H6 (!mOk m (.int ei)) := by
        have i0 := et_not (et_B (ev_call (E := E0) (ea_3 (ev_var (σ := [some (.ref a), some (.int i), some x1, some (.int ni), some x3, some (.int ei), some x5, some x6]) (i := 6) rfl) (ev_c (v := .int 0)) (ev_c (v := .int 1))) (v_number_within T (g5.ex E6))))
        cases hM : within m 0 1 with
        | false => exact et_is (et_false_or i0 (by rw [hM]; rfl)) (by simp [mOk, hM])
        | true =>
          obtain ⟨mi, rfl, _, _⟩ := within_int hM
          cases g5.dp
          exact et_is (et_or i0 fun _ => et_and (et_eqI (ev_var rfl) ev_c) fun _ => ev_gtI (ev_var rfl) ev_c) (by rw [mOk_int, hM]; simp)
      refine q_when i5 (fun c H7 e7 => ?_) (fun c H7 e7 => ?_)
      · refine s_ret ev_c fun H8 e8 => ?_
        rw [show fault7 (.int i) w' (.int ni) l (.int ei) m t = some 5 by have c : mOk m (.int ei) = false := by simpa using c
                                                                          simp [fault7, hp, c1, c2, c3, c4, c]] at q2
        exact q2 H8 ((E6.trans e7).trans e8)
      · have c5 : mOk m (.int ei) = true := by simpa using c
        have E7 := E6.trans e7
        -- table
        refine q_when (et_not (et_B (ev_call (ea_3 (ev_var rfl) (ev_var rfl) (ev_var rfl)) (v_table_fits T (g6.ex E7))))) (fun c H8 e8 => ?_) (fun c H8 e8 => ?_)
        · refine s_ret ev_c fun H9 e9 => ?_
          rw [show fault7 (.int i) w' (.int ni) l (.int ei) m t = some 6 by
            have c : tableD t ni i = false := by simpa using c
            simp [fault7, hp, c1, c2, c3, c4, c5, intOf, c]] at q2
          exact q2 H9 ((E7.trans e8).trans e9)
        · refine s_ret ev_c fun H9 e9 => ?_
          rw [show fault7 (.int i) w' (.int ni) l (.int ei) m t = none by
            have c : tableD t ni i = true := by simpa using c
            simp [fault7, hp, c1, c2, c3, c4, c5, intOf, c]] at q2
          exact q2 H9 ((E7.trans e8).trans e9)
theorem ok_shape_fault (T : Txt K mg) : FnOk P w K mg base CX0 4 T.f_shape_fault T.fd_shape_fault ["thing"] (sp_shape_fault T) :=
  T.d_shape_fault.F.ok sc_shape_fault (fun vs H Q E h => len_shape_fault T h) fun cdv A outer s H vs Q E hr h => ⟨t_shape_fault T, by
    exact (pss_cons (ps_if (pt_not (pt_val (pe_call (ok_tuple_of T) (hr.mono (by decide)) (by rfl) T.d_tuple_of.g T.d_tuple_of.F.kp T.d_tuple_of.b .nil pass0 (pa_cons (pv 0) (pa_cons pe_int pa_nil))))) (pss_one (ps_ret (pe_un un_neg pe_int))) pss_nil) (pss_cons (ps_asg (pv 0) (pg_tup rfl (pgs_cons (pg_name (i := 1) sc_shape_fault.nd rfl (Or.inl rfl)) (pgs_cons (pg_name (i := 2) sc_shape_fault.nd rfl (Or.inl rfl)) (pgs_cons (pg_name (i := 3) sc_shape_fault.nd rfl (Or.inl rfl)) (pgs_cons (pg_name (i := 4) sc_shape_fault.nd rfl (Or.inl rfl)) (pgs_cons (pg_name (i := 5) sc_shape_fault.nd rfl (Or.inl rfl)) (pgs_cons (pg_name (i := 6) sc_shape_fault.nd rfl (Or.inl rfl)) (pgs_cons (pg_name (i := 7) sc_shape_fault.nd rfl (Or.inl rfl)) pgs_nil))))))))) (pss_cons (ps_if (PW.pt (pw_or (pt_not (pt_val (pe_call (ok_is_prime T) (hr.mono (by decide)) (by rfl) T.d_is_prime.g T.d_is_prime.F.kp T.d_is_prime.b .nil pass0 (pa_cons (pv 1) pa_nil)))) (pw_or1 (pt_cmpR op_lt (pv 1) pe_int (nomark _))))) (pss_one (ps_ret pe_int)) pss_nil) (pss_cons (ps_if (pt_not (pt_val (pe_call (ok_number_within T) (hr.mono (by decide)) (by rfl) T.d_number_within.g T.d_number_within.F.kp T.d_number_within.b .nil pass0 (pa_cons (pv 2) (pa_cons pe_int (pa_cons pe_int pa_nil)))))) (pss_one (ps_ret pe_int)) pss_nil) (pss_cons (ps_if (pt_not (pt_val (pe_call (ok_number_within T) (hr.mono (by decide)) (by rfl) T.d_number_within.g T.d_number_within.F.kp T.d_number_within.b .nil pass0 (pa_cons (pv 3) (pa_cons pe_int (pa_cons pe_int pa_nil)))))) (pss_one (ps_ret pe_int)) pss_nil) (pss_cons (ps_if (pt_not (pt_val (pe_call (ok_number_within T) (hr.mono (by decide)) (by rfl) T.d_number_within.g T.d_number_within.F.kp T.d_number_within.b .nil pass0 (pa_cons (pv 4) (pa_cons pe_int (pa_cons (pe_callB (call_min2 rfl) (by rfl) T.m_min (by decide +kernel) (pa_cons pe_int (pa_cons (pv 3) pa_nil))) pa_nil)))))) (pss_one (ps_ret pe_int)) pss_nil) (pss_cons (ps_if (pt_not (pt_val (pe_call (ok_number_within T) (hr.mono (by decide)) (by rfl) T.d_number_within.g T.d_number_within.F.kp T.d_number_within.b .nil pass0 (pa_cons (pv 5) (pa_cons pe_int (pa_cons pe_int pa_nil)))))) (pss_one (ps_ret pe_int)) pss_nil) (pss_cons (ps_if (PW.pt (pw_or (pt_not (pt_val (pe_call (ok_number_within T) (hr.mono (by decide)) (by rfl) T.d_number_within.g T.d_number_within.F.kp T.d_number_within.b .nil pass0 (pa_cons (pv 6) (pa_cons pe_int (pa_cons pe_int pa_nil)))))) (pw_or1 (PW.pt (pw_and (pt_cmpR op_eq (pv 6) pe_int (nomark _)) (pw_and1 (pt_cmpR op_gt (pv 5) pe_int (nomark _)))))))) (pss_one (ps_ret pe_int)) pss_nil) (pss_cons (ps_if (pt_not (pt_val (pe_call (ok_table_fits T) (hr.mono (by decide)) (by rfl) T.d_table_fits.g T.d_table_fits.F.kp T.d_table_fits.b .nil pass0 (pa_cons (pv 7) (pa_cons (pv 3) (pa_cons (pv 1) pa_nil)))))) (pss_one (ps_ret pe_int)) pss_nil) (pss_one (ps_ret pe_non))))))))))), pure_shape_fault T h⟩

/-- the errors' __init__ -/
theorem ok_init (T : Txt K mg) : FnOk P w K mg base CX0 1 T.f_init T.fd_init ["self", "what"] (spInit K) :=
  T.d_init.ok sc_init (fun vs H Q E h => by obtain ⟨_, _, _, _, rfl, _⟩ := h; rfl) fun cdv A outer s H vs Q E hr h =>
    ⟨tSeq (tOst K "what" (tVar 0) (tVar 1)) (tOst K "name" (tVar 0) (tNameOf K (tVar 0))), pss_cons (ps_ost (pv 0) (pv 1)) (pss_one (ps_ost (pv 0) (pe_nameOf (pv 0)))), by
    obtain ⟨a, C, v, nm, rfl, o, n, N, ea, q⟩ := h
    refine ⟨v, rfl, .ref a, rfl, a, C, rfl, o, n, .inl ⟨ea, fun dx ndx ne => ?_⟩⟩
    exact ⟨.ref a, rfl, a, C, dx, _, nm, rfl, N, upd_same, by rw [upd_ne ne, upd_same], .ref a, rfl, a, C, rfl, o, N.fn, .inr ⟨dx, _, upd_same, by rw [upd_ne ne, upd_same], by show 1 ≤ 900; decide, q dx ndx ne⟩⟩⟩
def sp_made_shape (T : Txt K mg) : Sp := fun vs H Q E => ∃ k x d, vs = [x] ∧ Gd K H k x d ∧ (fault d = none → ∀ H', Ex H H' → Q x H') ∧
  ∀ f, fault d = some f → ∀ H' dd, Ex H H' → Wh H' dd (.int f) → E (.ref T.c_BadShape) (some dd) H'
theorem len_made_shape (T : Txt K mg) {vs H Q E} (h : sp_made_shape T vs H Q E) : vs.length = 1 := by obtain ⟨_, _, _, rfl, _⟩ := h; rfl
def t_made_shape (T : Txt K mg) (E : XK) : TS := (tSeq (tAsg (tCall (sp_shape_fault T) [] E0 (tCons (tVar 0) tNil)) (gName 1)) (tSeq (tIfS (tTest (tOp rNotN (tVar 1) (tC .non))) (tRaise E (tMkO T.c_BadShape (spInit K) [] (tCons (tVar 1) tNil))) tNext) (tRet (tVar 0))))

/-- an error with its one argument is made -/
theorem made_what {C : Addr} {H1 : Hp} {Q : XK} {v : V} (o : OexC K C) (n : WhC K C)
    (k : ∀ d H2, Ex H1 H2 → Wh H2 d v → Q (.ref C) (some d) H2) :
    ([v] : List V).length ≤ 1000 ∧ ∀ a, H1 a = none → spInit K (.ref a :: ([v] ++ [])) (upd H1 a (exo a C none))
      (fun v H2 => v = .non ∧ ∃ (d : Addr) (fs : List (Str × V)), H2 a = some (exo a C (some d)) ∧ H2 d = some (exd d fs) ∧ H1 d = none ∧ Q (.ref C) (some d) (upd (del H2 a) d (.xd fs))) (fun _ _ _ => False) := by
  obtain ⟨n, nm, N⟩ := n
  refine ⟨by show 1 ≤ 1000; decide, fun a na => ⟨a, C, v, nm, rfl, o, n, N, upd_same, fun dx ndx ne => ⟨rfl, dx, _, by rw [upd_ne (Ne.symm ne), upd_same], upd_same, by rw [upd_ne ne] at ndx; exact ndx, ?_⟩⟩⟩
  rw [upd_ne ne] at ndx
  refine k dx _ (fun b u hb => ?_) ⟨nm, upd_same⟩
  have nb1 : b ≠ dx := ne_of_none hb ndx
  have nb2 : b ≠ a := ne_of_none hb na
  rw [upd_ne nb1, del_ne nb2, upd_ne nb1, upd_ne nb2, upd_ne nb1, upd_ne nb2]
  exact hb
theorem pure_made_shape (T : Txt K mg) {vs H Q} {E : XK} (h : sp_made_shape T vs H Q E) : t_made_shape T E { nx := fun _ H' => Q .non H', rt := Q } (L2.start n_made_shape vs) H := by
  obtain ⟨k, x, d, rfl, g, qv, qe⟩ := h
  refine q_asg (ev_call (ea_1 (ev_var rfl)) (v_shape_fault T g)) fun H1 e1 => ?_
  refine q_when (et_test (ev_notN (ev_var rfl))) (fun c H2 e2 => ?_) (fun c H2 e2 => ?_)
  · rw [optV_non] at c
    cases hf : fault d with
    | none => rw [hf] at c; cases c
    | some f =>
      refine ⟨_, rfl, ?_⟩
      exact made_what T.o_BadShape T.n_BadShape_what fun dd H3 e3 ed => qe f hf H3 dd ((e1.trans e2).trans e3) ed
  · rw [optV_non] at c
    have hf : fault d = none := by
      cases h : fault d with
      | none => rfl
      | some f => rw [h] at c; cases c
    exact s_ret (ev_var rfl) fun H3 e3 => qv hf H3 ((e1.trans e2).trans e3)
theorem ok_made_shape (T : Txt K mg) : FnOk P w K mg base (L2.CX P w) 5 T.f_made_shape T.fd_made_shape ["thing"] (sp_made_shape T) :=
  T.d_made_shape.F.okX sc_made_shape (fun vs H Q E h => len_made_shape T h) fun cdv A outer s H vs Q E hr h => ⟨t_made_shape T E, by
    exact (pss_cons (ps_set (i := 1) sc_made_shape.nd rfl (Or.inl rfl) (pe_call (ok_shape_fault T) (hr.mono (by decide)) (by rfl) T.d_shape_fault.g T.d_shape_fault.F.kp T.d_shape_fault.b .nil pass0 (pa_cons (pv 0) pa_nil))) (pss_cons (ps_if (pt_cmpR op_notN (pv 1) pe_non (nomark _)) (pss_one (ps_raise rfl (takes_of rfl rfl rfl rfl) (pmk_oex T.o_BadShape T.i_BadShape T.ti (ok_init T) (hr.mono (by decide)) T.b_init .nil pass0 (by rfl) T.g_BadShape (pa_cons (pv 1) pa_nil)))) pss_nil) (pss_one (ps_ret (pv 0))))), pure_made_shape T h⟩

end
end My


set_option maxHeartbeats 1000000
namespace My
open PySem PySem.Spec PyProof.Rows L2 Own LamX
open Evl (Ex RetV)
section
variable {P : Program} {w : World} {K : PySem.W.Frag} {mg : Str → Option Value} {base : Heap}

open Evl
/-! ### rising numbers, cells, rows -/
theorem ris_no {d : PyData} {lo top : Int} {ds : List PyData} (h : within d lo (top - 1) = false) : risD lo (d :: ds) top = false := by
  cases d <;> simp [risD, within] at h ⊢
  intro h1 h2
  have := h h1
  omega
theorem ris_yes {i lo top : Int} {ds : List PyData} (h1 : lo ≤ i) (h2 : i ≤ top - 1) : risD lo (.int i :: ds) top = risD (i + 1) ds top := by simp [risD, h1, h2]
theorem drop_at {α : Type} {ds : List α} {i : Nat} {d : α} (h : ds[i]? = some d) : ds.drop i = d :: ds.drop (i + 1) := by
  obtain ⟨hi, e⟩ := List.getElem?_eq_some_iff.mp h
  rw [List.drop_eq_getElem_cons hi, e]
def sp_shelves_of (T : Txt K mg) : Sp := fun vs H Q _ => ∃ sh s, vs = [.ref sh] ∧ Sh K sh s H ∧ RetV (.int (s.c + s.n : Int)) H Q
theorem len_shelves_of (T : Txt K mg) {vs H Q E} (h : sp_shelves_of T vs H Q E) : vs.length = 1 := by obtain ⟨_, _, rfl, _⟩ := h; rfl
theorem v_shelves_of (T : Txt K mg) {H : Hp} {sh : Addr} {s : Shp} (g : Sh K sh s H) : SpV (sp_shelves_of T) [.ref sh] H (.int (s.c + s.n : Int)) := spv fun H1 e Q q E => ⟨sh, s, rfl, g.ex e, q⟩
def t_shelves_of (T : Txt K mg) : TS := (tRet (tOp rAddI (tCB (rLenV K) (tCons (tOp (rIxT K) (tVar 0) (tC (.int 6))) tNil)) (tOp (rIxT K) (tVar 0) (tC (.int 2)))))

theorem pure_shelves_of (T : Txt K mg) {vs H Q} {E : XK} (h : sp_shelves_of T vs H Q E) : t_shelves_of T { nx := fun _ H' => Q .non H', rt := Q } (L2.start n_shelves_of vs) H := by
  obtain ⟨sh, s, rfl, g, q⟩ := h
  exact s_ret (ev_addI (sh_c g (ev_var rfl)) (sh_n g (ev_var rfl))) q
theorem ok_shelves_of (T : Txt K mg) : FnOk P w K mg base CX0 1 T.f_shelves_of T.fd_shelves_of ["shape"] (sp_shelves_of T) :=
  T.d_shelves_of.F.ok sc_shelves_of (fun vs H Q E h => len_shelves_of T h) fun cdv A outer s H vs Q E hr h => ⟨t_shelves_of T, by
    exact (pss_one (ps_ret (pe_op op_add (pe_callB call_len (by rfl) T.m_len (by decide +kernel) (pa_cons (pe_ix ix_tup (pv 0) pe_int (fun _ _ => rfl)) pa_nil)) (pe_ix ix_tup (pv 0) pe_int (fun _ _ => rfl))))), pure_shelves_of T h⟩

def sp_cell_fits (T : Txt K mg) : Sp := fun vs H Q _ => ∃ sh s k x d, vs = [.ref sh, x] ∧ Sh K sh s H ∧ Gd K H k x d ∧ RetV (.bl (rowD d s.w s.p)) H Q
theorem len_cell_fits (T : Txt K mg) {vs H Q E} (h : sp_cell_fits T vs H Q E) : vs.length = 2 := by obtain ⟨_, _, _, _, _, rfl, _⟩ := h; rfl
theorem v_cell_fits (T : Txt K mg) {H : Hp} {sh : Addr} {s : Shp} {k : Nat} {x : V} {d : PyData} (S : Sh K sh s H) (g : Gd K H k x d) : SpV (sp_cell_fits T) [.ref sh, x] H (.bl (rowD d s.w s.p)) := spv fun H1 e Q q E => ⟨sh, s, k, x, d, rfl, S.ex e, g.ex e, q⟩
def t_cell_fits (T : Txt K mg) : TS := (tRet (tCall (sp_numbers_fit T) [] E0 (tCons (tVar 1) (tCons (tOp (rIxT K) (tVar 0) (tC (.int 1))) (tCons (tOp (rIxT K) (tVar 0) (tC (.int 0))) tNil)))))

theorem pure_cell_fits (T : Txt K mg) {vs H Q} {E : XK} (h : sp_cell_fits T vs H Q E) : t_cell_fits T { nx := fun _ H' => Q .non H', rt := Q } (L2.start n_cell_fits vs) H := by
  obtain ⟨sh, s, k, x, d, rfl, S, g, q⟩ := h
  exact s_ret (ev_call (ea_3 (ev_var rfl) (sh_w S (ev_var rfl)) (sh_p S (ev_var rfl))) (v_numbers_fit T g)) q
theorem ok_cell_fits (T : Txt K mg) : FnOk P w K mg base CX0 3 T.f_cell_fits T.fd_cell_fits ["shape", "thing"] (sp_cell_fits T) :=
  T.d_cell_fits.F.ok sc_cell_fits (fun vs H Q E h => len_cell_fits T h) fun cdv A outer s H vs Q E hr h => ⟨t_cell_fits T, by
    exact (pss_one (ps_ret (pe_call (ok_numbers_fit T) (hr.mono (by decide)) (by rfl) T.d_numbers_fit.g T.d_numbers_fit.F.kp T.d_numbers_fit.b .nil pass0 (pa_cons (pv 1) (pa_cons (pe_ix ix_tup (pv 0) pe_int (fun _ _ => rfl)) (pa_cons (pe_ix ix_tup (pv 0) pe_int (fun _ _ => rfl)) pa_nil)))))), pure_cell_fits T h⟩

def cellsF (w p : Int) : Nat → List PyData → Option Int
  | _, [] => none
  | i, d :: ds => if rowD d w p then cellsF w p (i + 1) ds else some (i : Int)
def rowF (s : Shp) (d : PyData) : Option Int := if isLen d s.n then (match d with | .tuple ds => cellsF s.w s.p 0 ds | _ => none) else some (-1)
def sp_row_fault (T : Txt K mg) : Sp := fun vs H Q _ => ∃ sh s k x d, vs = [.ref sh, x] ∧ Sh K sh s H ∧ Gd K H k x d ∧ RetV (optV (rowF s d)) H Q
theorem len_row_fault (T : Txt K mg) {vs H Q E} (h : sp_row_fault T vs H Q E) : vs.length = 2 := by obtain ⟨_, _, _, _, _, rfl, _⟩ := h; rfl
theorem v_row_fault (T : Txt K mg) {H : Hp} {sh : Addr} {s : Shp} {k : Nat} {x : V} {d : PyData} (S : Sh K sh s H) (g : Gd K H k x d) : SpV (sp_row_fault T) [.ref sh, x] H (optV (rowF s d)) := spv fun H1 e Q q E => ⟨sh, s, k, x, d, rfl, S.ex e, g.ex e, q⟩
theorem isLen_tuple {d : PyData} {n : Int} (h : isLen d n = true) : ∃ ds, d = .tuple ds ∧ (ds.length : Int) = n := by
  cases d <;> simp [isLen] at h
  exact ⟨_, rfl, h⟩
def t_row_fault (T : Txt K mg) : TS := (tSeq (tIfS (tNot (tB (tCall (sp_tuple_of T) [] E0 (tCons (tVar 1) (tCons (tOp (rIxT K) (tVar 0) (tC (.int 2))) tNil))))) (tRet (tUn rNegI (tC (.int 1)))) tNext) (tSeq (tFor (iEnumB true K (tCons (tVar 1) tNil)) (gTup K 2 (gCons (gName 2) (gCons (gName 3) gNil))) (tIfS (tNot (tB (tCall (sp_cell_fits T) [] E0 (tCons (tVar 0) (tCons (tVar 3) tNil))))) (tRet (tVar 2)) tNext)) (tRet (tC .non))))

theorem pure_row_fault (T : Txt K mg) {vs H Q} {E : XK} (h : sp_row_fault T vs H Q E) : t_row_fault T { nx := fun _ H' => Q .non H', rt := Q } (L2.start n_row_fault vs) H := by
  obtain ⟨sh, s, k, x, d, rfl, S, g, q⟩ := h
  refine q_when (et_not (et_B (ev_call (ea_2 (ev_var rfl) (sh_n S (ev_var rfl))) (v_tuple_of T g)))) (fun c H1 e1 => ?_) (fun c H1 e1 => ?_)
  · refine s_ret ev_neg1 fun H2 e2 => ?_
    have z : rowF s d = some (-1) := by unfold rowF; rw [if_neg (by simpa using c)]
    rw [z] at q
    exact q H2 (e1.trans e2)
  · have c' : isLen d s.n = true := by simpa using c
    obtain ⟨ds, rfl, hn⟩ := isLen_tuple c'
    have z : rowF s (.tuple ds) = cellsF s.w s.p 0 ds := by unfold rowF; rw [if_pos c']
    rw [z] at q
    obtain ⟨a, xs, j, rfl, rfl, hs, hl, h20, _, _, hx⟩ := g.tup
    refine q_forE (K := K) (b := true) (ea_1 (ev_var rfl)) (show SqB true K H1 a xs from ex_t e1 hs) (fun i σ' H' => ∃ u v, σ' = [some (.ref sh), some (.ref a), u, v] ∧ cellsF s.w s.p i (ds.drop i) = cellsF s.w s.p 0 ds ∧ Ex H H') (fun H2 e2 => ⟨none, none, rfl, rfl, e1.trans e2⟩) (fun i σ' H' ⟨_, _, _, _, e⟩ => ex_t e hs) ?_ ?_
    · rintro i y σ' H2 H3 hy ⟨u, v, rfl, hr, e2⟩ e3
      obtain ⟨d, hd, gd⟩ := hx i y hy
      rw [drop_at hd] at hr
      refine s_when (et_not (et_B (ev_call (ea_2 (ev_var rfl) (ev_var rfl)) (v_cell_fits T (S.ex (e2.trans e3)) (gd.ex (e2.trans e3)))))) (fun c H4 e4 => ?_) (fun c H4 e4 => ?_)
      · refine s_ret (ev_var rfl) fun H5 e5 => ?_
        have z : cellsF s.w s.p i (d :: ds.drop (i + 1)) = some (i : Int) := by unfold cellsF; rw [if_neg (by simpa using c)]
        rw [← hr, z] at q
        exact q H5 (((e2.trans e3).trans e4).trans e5)
      · refine ⟨_, _, rfl, ?_, (e2.trans e3).trans e4⟩
        rw [← hr]
        show _ = cellsF s.w s.p i (d :: ds.drop (i + 1))
        rw [cellsF, if_pos (by simpa using c)]
    · rintro σ' H2 ⟨u, v, rfl, hr, e2⟩
      refine s_ret ev_c fun H3 e3 => ?_
      rw [hl, List.drop_length] at hr
      rw [← hr] at q
      exact q H3 (e2.trans e3)
theorem ok_row_fault (T : Txt K mg) : FnOk P w K mg base CX0 4 T.f_row_fault T.fd_row_fault ["shape", "thing"] (sp_row_fault T) :=
  T.d_row_fault.F.ok sc_row_fault (fun vs H Q E h => len_row_fault T h) fun cdv A outer s H vs Q E hr h => ⟨t_row_fault T, by
    exact (pss_cons (ps_if (pt_not (pt_val (pe_call (ok_tuple_of T) (hr.mono (by decide)) (by rfl) T.d_tuple_of.g T.d_tuple_of.F.kp T.d_tuple_of.b .nil pass0 (pa_cons (pv 1) (pa_cons (pe_ix ix_tup (pv 0) pe_int (fun _ _ => rfl)) pa_nil))))) (pss_one (ps_ret (pe_un un_neg pe_int))) pss_nil) (pss_cons (ps_for PassesOwn.never rfl (pi_enumB true (by rfl) T.m_enumerate (pa_cons (pv 1) pa_nil)) (pg_tup rfl (pgs_cons (pg_name (i := 2) sc_row_fault.nd rfl (Or.inl rfl)) (pgs_cons (pg_name (i := 3) sc_row_fault.nd rfl (Or.inl rfl)) pgs_nil))) (pss_one (ps_if (pt_not (pt_val (pe_call (ok_cell_fits T) (hr.mono (by decide)) (by rfl) T.d_cell_fits.g T.d_cell_fits.F.kp T.d_cell_fits.b .nil pass0 (pa_cons (pv 0) (pa_cons (pv 3) pa_nil))))) (pss_one (ps_ret (pv 2))) pss_nil))) (pss_one (ps_ret pe_non)))), pure_row_fault T h⟩

theorem s_raise1 {C : Addr} {te : TE} {σ : L2.St} {H : Hp} {D : Ends} {E : XK} {v : V} (h : Ev te σ H v) (o : OexC K C) (n : WhC K C)
    (k : ∀ dd H', Ex H H' → Wh H' dd v → E (.ref C) (some dd) H') : tRaise E (tMkO C (spInit K) [] (tCons te tNil)) D σ H :=
  h H (.refl H) _ fun H1 e1 => made_what o n fun dd H2 e2 ed => k dd H2 (e1.trans e2) ed
theorem fault_ok {s : Shp} (o : s.Ok) : fault (shD s) = none := by
  have p1 := o.p.1
  have p2 := o.p.2.1
  have := o.w; have := o.n; have := o.k; have := o.e; have := o.m; have := o.c
  have f0 : lawPrime (.int s.p) = true := by
    have h2 : (2 : Int) ≤ s.p := by omega
    simp [lawPrime, within, primeD, p1, p2, h2, o.p.2.2]
  have f6 : tableD (matD s.t) s.n s.p = true := by
    have ht := o.t
    simp only [tableD, matD, Bool.and_eq_true, decide_eq_true_eq, List.length_map, List.all_eq_true]
    refine ⟨o.c, fun d hd => ?_⟩
    obtain ⟨r, hr, rfl⟩ := List.mem_map.mp hd
    have := ht r hr
    simp only [intsD, rowD, Bool.and_eq_true, decide_eq_true_eq, List.length_map, List.all_eq_true]
    refine ⟨by rw [this.1], fun d hd => ?_⟩
    obtain ⟨x, hx, rfl⟩ := List.mem_map.mp hd
    have := this.2 x hx
    simp [within]
    omega
  have f1 : within (.int (s.w : Int)) 1 16 = true := by simp [within]; omega
  have f2 : within (.int (s.n : Int)) 1 8 = true := by simp [within]; omega
  have f3 : kOk (.int (s.k : Int)) (.int (s.n : Int)) = true := by simp [kOk, within, intOf]; omega
  have f4 : within (.int (s.e : Int)) 0 2 = true := by simp [within]; omega
  have f5 : mOk (.int (s.m : Int)) (.int (s.e : Int)) = true := by
    have m2 := o.m.2
    by_cases h : s.m = 1
    · have := m2 h; simp [mOk, within, intOf, h, this]
    · have h1 : s.m = 0 := by omega
      simp [mOk, within, intOf, h1]
  show fault7 _ _ _ _ _ _ _ = none
  simp [fault7, f0, f1, f2, f3, f4, f5, f6, intOf]
end
end My


set_option maxHeartbeats 1000000
namespace My
open PySem PySem.Spec PyProof.Rows L2 Own LamX
open Evl (Ex RetV)
section
variable {P : Program} {w : World} {K : PySem.W.Frag} {mg : Str → Option Value} {base : Heap}

open Evl
/-! ### stories -/
/-- a change: x from lo on, a cell that is unlike the row's -/
def chL (s : Shp) (rds : List PyData) : Int → List PyData → Bool
  | _, [] => true
  | lo, d :: ds => match d with
    | .tuple [x, c] => within x lo (s.n - 1) && rowD c s.w s.p && !PyData.eqv c (rds.getD (numD x).toNat .none) && chL s rds (numD x + 1) ds
    | _ => false
def chF (s : Shp) (rds : List PyData) (d : PyData) : Bool := match d with
  | .tuple ds => decide (ds.length ≤ s.k) && chL s rds 0 ds
  | _ => false
theorem chL_pair {s : Shp} {rds ds : List PyData} {lo : Int} {d : PyData} (h : isLen d 2 = false) : chL s rds lo (d :: ds) = false := by
  cases d with
  | tuple es =>
    match es, h with
    | [], _ => rfl
    | [_], _ => rfl
    | [_, _], h => simp [isLen] at h
    | _ :: _ :: _ :: _, _ => rfl
  | _ => rfl
theorem two {d : PyData} (h : isLen d 2 = true) : ∃ a b, d = .tuple [a, b] := by
  obtain ⟨ds, rfl, hn⟩ := isLen_tuple h
  match ds, hn with
  | [a, b], _ => exact ⟨a, b, rfl⟩
  | [], h => simp at h
  | [_], h => simp at h
  | _ :: _ :: _ :: _, h => simp at h; omega
theorem three {d : PyData} (h : isLen d 3 = true) : ∃ a b c, d = .tuple [a, b, c] := by
  obtain ⟨ds, rfl, hn⟩ := isLen_tuple h
  match ds, hn with
  | [a, b, c], _ => exact ⟨a, b, c, rfl⟩
  | [], h => simp at h
  | [_], h => simp at h
  | [_, _], h => simp at h
  | _ :: _ :: _ :: _ :: _, h => simp at h; omega
theorem gd2 {K : PySem.W.Frag} {H : Hp} {k : Nat} {v : V} {a b : PyData} (g : Gd K H k v (.tuple [a, b])) : ∃ p x y j, v = .ref p ∧ k = j + 1 ∧ SqT K H p [x, y] ∧ Gd K H j x a ∧ Gd K H j y b := by
  obtain ⟨p, xs, j, rfl, rfl, hs, hl, _, _, _, hx⟩ := g.tup
  match xs, hl with
  | [x, y], _ =>
    obtain ⟨d, h1, g1⟩ := hx 0 x rfl
    obtain ⟨e, h2, g2⟩ := hx 1 y rfl
    cases h1; cases h2
    exact ⟨p, x, y, j, rfl, rfl, hs, g1, g2⟩
theorem gd3 {K : PySem.W.Frag} {H : Hp} {k : Nat} {v : V} {a b c : PyData} (g : Gd K H k v (.tuple [a, b, c])) : ∃ p x y z j, v = .ref p ∧ k = j + 1 ∧ SqT K H p [x, y, z] ∧ Gd K H j x a ∧ Gd K H j y b ∧ Gd K H j z c := by
  obtain ⟨p, xs, j, rfl, rfl, hs, hl, _, _, _, hx⟩ := g.tup
  match xs, hl with
  | [x, y, z], _ =>
    obtain ⟨d, h1, g1⟩ := hx 0 x rfl
    obtain ⟨e, h2, g2⟩ := hx 1 y rfl
    obtain ⟨f, h3, g3⟩ := hx 2 z rfl
    cases h1; cases h2; cases h3
    exact ⟨p, x, y, z, j, rfl, rfl, hs, g1, g2, g3⟩
end
end My


set_option maxHeartbeats 1000000
namespace My
open PySem PySem.Spec PyProof.Rows L2 Own LamX
open Evl (Ex RetV)
section
variable {P : Program} {w : World} {K : PySem.W.Frag} {mg : Str → Option Value} {base : Heap}

open Evl
def pairD (c : Int × PyData) : PyData := .tuple [.int c.1, c.2]
theorem chL_items {s : Shp} {rds : List PyData} : ∀ {ds : List PyData} {lo : Int}, 0 ≤ lo → chL s rds lo ds = true → ∃ cs : List (Int × PyData), ds = cs.map pairD ∧ (∀ c ∈ cs, lo ≤ c.1 ∧ c.1 < s.n ∧ rowD c.2 s.w s.p = true ∧ PyData.eqv c.2 (rds.getD c.1.toNat .none) = false) ∧ (cs.map (·.1)).Pairwise (· < ·)
  | [], _, _, _ => ⟨[], rfl, fun _ h => absurd h List.not_mem_nil, .nil⟩
  | d :: ds, lo, h0, h => by
    cases hl : isLen d 2 with
    | false => rw [chL_pair hl] at h; cases h
    | true =>
      obtain ⟨a, b, rfl⟩ := two hl
      have h' : (within a lo (s.n - 1) && rowD b s.w s.p && !PyData.eqv b (rds.getD (numD a).toNat .none) && chL s rds (numD a + 1) ds) = true := h
      simp only [Bool.and_eq_true, Bool.not_eq_true'] at h'
      obtain ⟨⟨⟨h1, h2⟩, h3⟩, h4⟩ := h'
      obtain ⟨i, rfl, i0, i1⟩ := within_int h1
      obtain ⟨cs, e, hc, hp⟩ := chL_items (lo := i + 1) (by omega) h4
      refine ⟨(i, b) :: cs, by rw [e]; rfl, fun c hc' => ?_, ?_⟩
      · rcases List.mem_cons.mp hc' with z | z
        · rw [z]; exact ⟨i0, by show i < _; omega, h2, h3⟩
        · have := hc c z; exact ⟨by omega, this.2⟩
      · rw [List.map_cons, List.pairwise_cons]
        exact ⟨fun x hx => by obtain ⟨c, hcm, rfl⟩ := List.mem_map.mp hx; have := (hc c hcm).1; show i < c.1; omega, hp⟩
theorem chF_items {s : Shp} {rds : List PyData} {d : PyData} (h : chF s rds d = true) : ∃ cs : List (Int × PyData), d = .tuple (cs.map pairD) ∧ cs.length ≤ s.k ∧ (∀ c ∈ cs, 0 ≤ c.1 ∧ c.1 < s.n ∧ rowD c.2 s.w s.p = true ∧ PyData.eqv c.2 (rds.getD c.1.toNat .none) = false) ∧ (cs.map (·.1)).Pairwise (· < ·) := by
  cases d with
  | tuple ds =>
    obtain ⟨h1, h2⟩ := Bool.and_eq_true_iff.mp h
    obtain ⟨cs, rfl, hc, hp⟩ := chL_items (Int.le_refl 0) h2
    exact ⟨cs, rfl, by simpa using h1, hc, hp⟩
  | _ => cases h
theorem risD_items : ∀ {ds : List PyData} {lo top : Int}, risD lo ds top = true → ∃ l : List Int, ds = l.map PyData.int ∧ (∀ x ∈ l, lo ≤ x ∧ x < top) ∧ l.Pairwise (· < ·)
  | [], _, _, _ => ⟨[], rfl, fun _ h => absurd h List.not_mem_nil, .nil⟩
  | d :: ds, lo, top, h => by
    cases d with
    | int i =>
      simp only [risD, Bool.and_eq_true, decide_eq_true_eq] at h
      obtain ⟨⟨h1, h2⟩, h3⟩ := h
      obtain ⟨l, e, hl, hp⟩ := risD_items h3
      refine ⟨i :: l, by rw [e]; rfl, fun x hx => ?_, ?_⟩
      · rcases List.mem_cons.mp hx with z | z
        · rw [z]; exact ⟨h1, by omega⟩
        · have := hl x z; exact ⟨by omega, this.2⟩
      · rw [List.pairwise_cons]
        exact ⟨fun x hx => by have := hl x hx; omega, hp⟩
    | _ => cases h
theorem risingD_items {d : PyData} {top : Int} (h : risingD d top = true) : ∃ l : List Int, d = intsD l ∧ (∀ x ∈ l, 0 ≤ x ∧ x < top) ∧ l.Pairwise (· < ·) := by
  cases d with
  | tuple ds =>
    obtain ⟨l, rfl, h1, h2⟩ := risD_items (show risD 0 ds top = true from h)
    exact ⟨l, rfl, h1, h2⟩
  | _ => cases h
theorem ris_of : ∀ {l : List Int} {lo top : Int}, (∀ x ∈ l, lo ≤ x ∧ x < top) → l.Pairwise (· < ·) → risD lo (l.map PyData.int) top = true
  | [], _, _, _, _ => rfl
  | i :: l, lo, top, h, hp => by
    have h0 := h i List.mem_cons_self
    rw [List.pairwise_cons] at hp
    simp only [List.map_cons, risD, Bool.and_eq_true, decide_eq_true_eq]
    exact ⟨⟨h0.1, by omega⟩, ris_of (fun x hx => ⟨by have := hp.1 x hx; omega, (h x (List.mem_cons_of_mem _ hx)).2⟩) hp.2⟩
def camL (s : Shp) (xs l : List Int) : Bool :=
  ((l.filter fun x => decide ((s.c : Int) ≤ x)).all fun x => decide (x ∈ xs.map fun y => (s.c : Int) + y)) &&
    (decide ((s.m : Int) = 0) || ((l.filter fun x => decide ((s.c : Int) ≤ x)).isEmpty || decide ((l.length : Int) - ((l.filter fun x => decide ((s.c : Int) ≤ x)).length : Int) = s.c)))
def camF (s : Shp) (xs : List Int) (d : PyData) : Bool := risingD d (s.c + s.n) && camL s xs ((tItems d).map numD)
theorem camF_ints {s : Shp} {xs l : List Int} : camF s xs (intsD l) = (risingD (intsD l) (s.c + s.n) && camL s xs l) := by
  have : (tItems (intsD l)).map numD = l := by
    show (l.map PyData.int).map numD = l
    rw [List.map_map]
    exact List.map_id' l
  unfold camF
  rw [this]
theorem gd_ints_of {K : PySem.W.Frag} {H : Hp} {k : Nat} {x : V} {l : List Int} (g : Gd K H k x (intsD l)) : ∃ a, x = .ref a ∧ SqT K H a (l.map V.int) ∧ l.length ≤ 20 := by
  obtain ⟨a, xs, j, rfl, rfl, hs, hl, h20, _, _, hx⟩ := g.tup
  have z : xs = l.map V.int := by
    apply List.ext_getElem?
    intro i
    by_cases c : i < xs.length
    · obtain ⟨d, hd, gd⟩ := hx i xs[i] (List.getElem?_eq_getElem c)
      rw [List.getElem?_map] at hd
      have hil : i < l.length := by rw [hl, List.length_map] at c; exact c
      rw [List.getElem?_eq_getElem hil] at hd
      injection hd with hd
      subst hd
      have := gd.dp
      rw [List.getElem?_eq_getElem c, List.getElem?_map, List.getElem?_eq_getElem hil]
      generalize xs[i] = w at this
      cases this
      rfl
    · rw [List.getElem?_eq_none (by omega), List.getElem?_eq_none (by rw [List.length_map]; rw [hl] at c; simpa using c)]
  subst z
  exact ⟨a, rfl, hs, by simpa using h20⟩
def xsD (d : PyData) : List Int := (tItems d).map fun e => numD ((tItems e).getD 0 .none)
theorem xsD_pairs {cs : List (Int × PyData)} : xsD (.tuple (cs.map pairD)) = cs.map (·.1) := by
  unfold xsD
  show (cs.map pairD).map _ = _
  rw [List.map_map]
  rfl
def stF3 (s : Shp) (r c m : PyData) : Option Int := if (rowF s r).isSome then some 0 else if chF s (tItems r) c = false then some 1 else if camF s (xsD c) m = false then some 2 else none
def stF (s : Shp) (d : PyData) : Option Int := if isLen d 3 then (match d with | .tuple [r, c, m] => stF3 s r c m | _ => none) else some (-1)
theorem rowF_none {s : Shp} {r : PyData} (h : (rowF s r).isSome = false) : ∃ rds, r = .tuple rds ∧ rds.length = s.n ∧ cellsF s.w s.p 0 rds = none := by
  unfold rowF at h
  by_cases c : isLen r s.n = true
  · obtain ⟨ds, rfl, hn⟩ := isLen_tuple c
    rw [if_pos c] at h
    exact ⟨ds, rfl, by omega, by simpa using h⟩
  · rw [if_neg c] at h; cases h
end
end My


set_option maxHeartbeats 1000000
namespace My
open PySem PySem.Spec PyProof.Rows L2 Own LamX
open Evl (Ex RetV)
section
variable {P : Program} {w : World} {K : PySem.W.Frag} {mg : Str → Option Value} {base : Heap}

open Evl
/-! ### sums, ends, what is left -/
def sp_weighted (T : Txt K mg) : Sp := fun vs H Q _ => ∃ sh s wa wt ra R, vs = [.ref sh, .ref wa, .ref ra] ∧ Sh K sh s H ∧ s.Ok ∧ SqT K H wa (wt.map V.int) ∧ wt.length = s.n ∧ (∀ x ∈ wt, 0 ≤ x ∧ x < s.p) ∧ MT K ra R H ∧ R.length = s.n ∧ WF s.p s.w R ∧
  ∀ t H', H t = none → Ex H H' → H' t = some (.tup ((wsum s wt R).map V.int)) → Q (.ref t) H'
theorem len_weighted (T : Txt K mg) {vs H Q E} (h : sp_weighted T vs H Q E) : vs.length = 3 := by obtain ⟨_, _, _, _, _, _, rfl, _⟩ := h; rfl
def t_weighted (T : Txt K mg) : TS := (tSeq (tAsg (tTup (tCons (tOp (rIxT K) (tVar 0) (tC (.int 0))) (tCons (tOp (rIxT K) (tVar 0) (tC (.int 1))) tNil))) (gTup K 2 (gCons (gName 3) (gCons (gName 4) gNil)))) (tSeq (tAsg (tOp rRep (tLst (tCons (tC (.int 0)) tNil)) (tVar 4)) (gName 5)) (tSeq (tFor (iZipB true true K (tCons (tVar 1) (tCons (tVar 2) tNil))) (gTup K 2 (gCons (gName 6) (gCons (gName 7) gNil))) (tAsg (tLc (iZipB false true K (tCons (tVar 5) (tCons (tVar 7) tNil))) (gTup K 2 (gCons (gName 8) (gCons (gName 9) gNil))) tYes (tOp rModI (tOp rAddI (tVar 8) (tOp rMulI (tVar 6) (tVar 9))) (tVar 3)) [8, 9]) (gName 5))) (tRet (tCB (rTupOf K) (tCons (tVar 5) tNil))))))

theorem pure_weighted (T : Txt K mg) {vs H Q} {E : XK} (h : sp_weighted T vs H Q E) : t_weighted T { nx := fun _ H' => Q .non H', rt := Q } (L2.start n_weighted vs) H := by
  obtain ⟨sh, s, wa, wt, ra, R, rfl, S, o, hw, hwl, hwb, mt, hR, wf, q⟩ := h
  have p0 := o.p.1
  have p1 := o.p.2.1
  have ow := o.w; have on := o.n
  refine q_tup2 (ea_2 (sh_p S (ev_var rfl)) (sh_w S (ev_var rfl))) fun H1 e1 => ?_
  refine q_asgL (xs := (List.replicate s.w (0 : Int)).map V.int) ?_ fun tl H2 htl e2 htx => ?_
  · have := el_rep (σ := [some (.ref sh), some (.ref wa), some (.ref ra), some (.int s.p), some (.int (s.w : Int)), none, none, none, none, none]) (H := H1) (v := .int 0) (te := tC (.int 0)) (tb := tVar 4) (k := (s.w : Int)) ev_c (ev_var rfl) (by omega) (by omega)
    rw [Int.toNat_natCast, rep_ints] at this
    exact this
  have E2 := e1.trans e2
  obtain ⟨refs, hr1, hr2, hr3⟩ := mt
  refine q_forZ (K := K) (b1 := true) (b2 := true) (ea_2 (ev_var rfl) (ev_var rfl)) (show SqB true K H2 wa (wt.map V.int) from ex_t E2 hw) (show SqB true K H2 ra (refs.map V.ref) from ex_t E2 hr1) (by simp [hwl, hr2, hR])
    (fun k σ' H' => ∃ (ta : Addr) (u6 u7 : Option V), σ' = [some (.ref sh), some (.ref wa), some (.ref ra), some (.int s.p), some (.int (s.w : Int)), some (.ref ta), u6, u7, none, none] ∧ Ex H H' ∧ H ta = none ∧ H' ta = some (.lst ((wsumT s.p s.w wt R k).map V.int)))
    (fun H3 e3 => ⟨tl, none, none, rfl, E2.trans e3, fresh_back e1 htl, by rw [e3 _ _ htx, wsumT_zero]⟩) (fun k σ' H' ⟨_, _, _, _, e, _⟩ => ⟨ex_t e hw, ex_t e hr1⟩) ?_ ?_
  · rintro k x y σ' H3 H4 hx hy ⟨ta, u6, u7, rfl, e3, hta, htv⟩ e4
    obtain ⟨b, hb, rfl⟩ := rf_at hy
    have hk : k < wt.length := by have := (List.getElem?_eq_some_iff.mp hx).1; simpa using this
    rw [ints_at hk] at hx
    injection hx with hx
    subst hx
    have hkR : k < R.length := by omega
    have hrow := hr3 k b hb
    have wr := wf_row wf hkR
    have wb : 0 ≤ nth wt k ∧ nth wt k < s.p := by
      unfold nth; rw [getD_lt hk]; exact hwb _ (List.getElem_mem hk)
    refine s_asgL (xs := (wsumT s.p s.w wt R (k + 1)).map V.int) ?_ fun na H5 hna e5 hnx => ⟨na, _, _, rfl, (e3.trans e4).trans e5, fresh_back (e3.trans e4) hna, hnx⟩
    have := el_lcZ (K := K) (σ := [some (.ref sh), some (.ref wa), some (.ref ra), some (.int s.p), some (.int (s.w : Int)), some (.ref ta), some (.int (nth wt k)), some (.ref b), none, none]) (H := H4) (t1 := false) (t2 := true) (i := 8) (j := 9) (vs := [8, 9]) (te := tOp rModI (tOp rAddI (tVar 8) (tOp rMulI (tVar 6) (tVar 9))) (tVar 3)) (fun i => .int ((nth (wsumT s.p s.w wt R k) i + nth wt k * ent R k i) % s.p))
      (ea_2 (ev_var (i := 5) rfl) (ev_var (i := 7) rfl)) (show SqB false K H4 ta _ from sq_of (e4 _ _ htv)) (show SqB true K H4 b _ from ex_t (e3.trans e4) hrow) (by rw [List.length_map, List.length_map, len_wsumT, wr.1]) (by rw [List.length_map, len_wsumT]; omega) (fun x y => rfl) (fun t a xs H' e h => ex_B e h)
      (fun m x y H7 e7 hx hy => by
        have h1 : m < (wsumT s.p s.w wt R k).length := by have := (List.getElem?_eq_some_iff.mp hx).1; simpa using this
        have h2 : m < (row R k).length := by rw [wr.1]; rw [len_wsumT] at h1; exact h1
        rw [ints_at h1] at hx
        rw [ints_at h2] at hy
        injection hx with hx
        injection hy with hy
        subst hx hy
        exact ev_modI (ev_addI (ev_var rfl) (ev_mulI (ev_var rfl) (ev_var rfl) (.inl ⟨by omega, by omega⟩))) (ev_var rfl) (by omega))
    rw [List.length_map, len_wsumT, row_range (r := wsumT s.p s.w wt R (k + 1)) len_wsumT (fun i hi => wsumT_step hi)] at this
    exact this
  · rintro σ' H3 ⟨ta, u6, u7, rfl, e3, hta, htv⟩
    rw [List.length_map, hwl] at htv
    exact eh_tup (K := K) (te := tVar 5) (ev_var rfl) (sq_of htv) H3 (.refl H3) _ fun t H4 ht e4 h4 => q t H4 (fresh_back e3 ht) (e3.trans e4) h4
theorem ok_weighted (T : Txt K mg) : FnOk P w K mg base CX0 1 T.f_weighted T.fd_weighted ["shape", "weights", "row"] (sp_weighted T) :=
  T.d_weighted.F.ok sc_weighted (fun vs H Q E h => len_weighted T h) fun cdv A outer s H vs Q E hr h => ⟨t_weighted T, by
    exact (pss_cons (ps_asg (pe_tup (pa_cons (pe_ix ix_tup (pv 0) pe_int (fun _ _ => rfl)) (pa_cons (pe_ix ix_tup (pv 0) pe_int (fun _ _ => rfl)) pa_nil))) (pg_tup rfl (pgs_cons (pg_name (i := 3) sc_weighted.nd rfl (Or.inr rfl)) (pgs_cons (pg_name (i := 4) sc_weighted.nd rfl (Or.inl rfl)) pgs_nil)))) (pss_cons (ps_set (i := 5) sc_weighted.nd rfl (Or.inl rfl) (pe_op op_rep (pe_lst (pa_cons pe_int pa_nil)) (pv 4))) (pss_cons (ps_for PassesOwn.never rfl (pi_zipB true true (by rfl) T.m_zip (pa_cons (pv 1) (pa_cons (pv 2) pa_nil))) (pg_tup rfl (pgs_cons (pg_name (i := 6) sc_weighted.nd rfl (Or.inr rfl)) (pgs_cons (pg_name (i := 7) sc_weighted.nd rfl (Or.inl rfl)) pgs_nil))) (pss_one (ps_setLc (i := 5) (own := [("so_far", 8), ("number", 9)]) (g := (gTup K 2 (gCons (gName 8) (gCons (gName 9) gNil)))) (tt := tYes) (te := (tOp rModI (tOp rAddI (tVar 8) (tOp rMulI (tVar 6) (tVar 9))) (tVar 3))) rfl sc_weighted.nd rfl rfl (sw_true rfl rfl rfl (by decide +kernel)) (pi_zipB false true (by rfl) T.m_zip (pa_cons (pv 5) (pa_cons (pv 7) pa_nil))) (blkOk_by (own := [("so_far", 8), ("number", 9)]) (N := n_weighted) (sc := defScope s_weighted) (by decide +kernel)) (fun _ _ _ _ _ => (pg_tup rfl (pgs_cons (pg_name (i := 8) sc_weighted.nd rfl (Or.inl rfl)) (pgs_cons (pg_name (i := 9) sc_weighted.nd rfl (Or.inl rfl)) pgs_nil)))) (fun _ _ _ _ _ => pts_nil) (fun _ _ _ _ _ => (pe_op op_mod (pe_op op_add (pv 8) (pe_op op_mul (pv 6) (pv 9))) (pv 3)))))) (pss_one (ps_ret (pe_callTy call_tuple_of (by rfl) T.m_tuple (by decide +kernel) (pa_cons (pv 5) pa_nil))))))), pure_weighted T h⟩

def sp_row_sums (T : Txt K mg) : Sp := fun vs H Q _ => ∃ sh s ra R, vs = [.ref sh, .ref ra] ∧ Sh K sh s H ∧ s.Ok ∧ MT K ra R H ∧ R.length = s.n ∧ WF s.p s.w R ∧ ∀ t H', H t = none → Ex H H' → MT K t (sumsM s R) H' → Q (.ref t) H'
theorem len_row_sums (T : Txt K mg) {vs H Q E} (h : sp_row_sums T vs H Q E) : vs.length = 2 := by obtain ⟨_, _, _, _, rfl, _⟩ := h; rfl
theorem v_row_sums (T : Txt K mg) {H : Hp} {sh ra : Addr} {s : Shp} {R : Mx} (S : Sh K sh s H) (o : s.Ok) (m : MT K ra R H) (h1 : R.length = s.n) (w : WF s.p s.w R) : SpN (sp_row_sums T) [.ref sh, .ref ra] H (fun t H' => MT K t (sumsM s R) H') := fun H1 e Q q E => ⟨sh, s, ra, R, rfl, S.ex e, o, m.ex e, h1, w, q⟩
def t_row_sums (T : Txt K mg) : TS := (tRet (tCB (rTupOf K) (tCons (tLc (iTup K (tOp (rIxT K) (tVar 0) (tC (.int 6)))) (gName 2) tYes (tCall (sp_weighted T) [] E0 (tCons (tVar 0) (tCons (tVar 2) (tCons (tVar 1) tNil)))) [2]) tNil)))

theorem pure_row_sums (T : Txt K mg) {vs H Q} {E : XK} (h : sp_row_sums T vs H Q E) : t_row_sums T { nx := fun _ H' => Q .non H', rt := Q } (L2.start n_row_sums vs) H := by
  obtain ⟨sh, s, ra, R, rfl, S, o, mt, hR, wf, q⟩ := h
  have oc := o.c
  obtain ⟨tb, ⟨refs, h1, h2, h3⟩, ev6⟩ := sh_t S
  refine s_retN (en_tup (M := sumsM s R) (n := (refs.map V.ref).length) (en_lcT (o := fun i => .tup ((row (sumsM s R) i).map V.int)) (ev6 _ _ _ (.refl H) (ev_var rfl)) h1 (by rw [List.length_map]; omega) (fun x => rfl) (fun i x H1 e hx hi => ?_)) (by rw [List.length_map, h2, len_sumsM]; rfl)) q
  obtain ⟨b, hb, rfl⟩ := rf_at hx
  have hi' : i < s.t.length := by rw [List.length_map] at hi; omega
  have wr := wf_row o.t hi'
  rw [row_sumsM hi']
  exact eh_call (ea_3 (ev_var rfl) (ev_var rfl) (ev_var rfl)) fun H2 e2 Q' q' E' => ⟨sh, s, b, row s.t i, ra, R, rfl, S.ex (e.trans e2), o, ex_t (e.trans e2) (h3 i b hb), wr.1, wr.2, mt.ex (e.trans e2), hR, wf, q'⟩
theorem ok_row_sums (T : Txt K mg) : FnOk P w K mg base CX0 2 T.f_row_sums T.fd_row_sums ["shape", "row"] (sp_row_sums T) :=
  T.d_row_sums.F.ok sc_row_sums (fun vs H Q E h => len_row_sums T h) fun cdv A outer s H vs Q E hr h => ⟨t_row_sums T, by
    exact (pss_one (ps_ret (pe_callTy call_tuple_of (by rfl) T.m_tuple (by decide +kernel) (pa_cons (pe_lc (own := [("weights", 2)]) (g := (gName 2)) (tt := tYes) (te := (tCall (sp_weighted T) [] E0 (tCons (tVar 0) (tCons (tVar 2) (tCons (tVar 1) tNil))))) rfl sc_row_sums.nd (pi_tup (pe_ix ix_tup (pv 0) pe_int (fun _ _ => rfl))) (blkOk_by (own := [("weights", 2)]) (N := n_row_sums) (sc := defScope s_row_sums) (by decide +kernel)) (fun _ _ _ _ _ => (pg_name (i := 2) sc_row_sums.nd rfl (Or.inl rfl))) (fun _ _ _ _ _ => pts_nil) (fun _ _ _ _ _ => (pe_call (ok_weighted T) (hr.mono (by decide)) (by rfl) T.d_weighted.g T.d_weighted.F.kp T.d_weighted.b .nil pass0 (pa_cons (pv 0) (pa_cons (pv 2) (pa_cons (pv 1) pa_nil)))))) pa_nil)))), pure_row_sums T h⟩

/-- the two ends of a story -/
def EndP (K : PySem.W.Frag) (r : Addr) (t : Sto) (v : Addr) (H : Hp) : Prop := ∃ b, SqT K H v [.ref r, .ref b] ∧ MT K b t.b H
/-- what a story leaves, shelf by shelf -/
def leftF (s : Shp) (t : Sto) (lost : List Nat) (i : Nat) : Option Ro := if i ∈ lost then none else some (if i ∈ t.cm then row (stripeM s t.b) i else row (stripeM s t.r) i)
theorem sto_b {s : Shp} {t : Sto} (k : t.Ok s) : WF s.p s.w t.b ∧ t.b.length = s.n := ⟨wf_setAll k.r fun c hc => let ⟨_, h2, h3, _⟩ := k.c c hc; ⟨h2, h3⟩, by unfold Sto.b; rw [len_setAll]; exact k.n⟩
/-- the sums and behind them the row, in a tuple -/
theorem en_stripe (T : Txt K mg) {σ : L2.St} {H : Hp} {sh ra : Addr} {s : Shp} {R : Mx} {i j : Nat} (S : Sh K sh s H) (o : s.Ok) (mt : MT K ra R H) (hR : R.length = s.n) (wf : WF s.p s.w R) (h1 : σ[i]? = some (some (.ref sh))) (h2 : σ[j]? = some (some (.ref ra))) :
    ∀ H1, Ex H H1 → ∀ Q : VK, (∀ v H2, Ex H1 H2 → MT K v (stripeM s R) H2 → Q (.ref v) H2) → (tOp (rCatA K) (tCall (sp_row_sums T) [] E0 (tCons (tVar i) (tCons (tVar j) tNil))) (tVar j)) σ H1 Q := fun H1 e Q q => by
  refine en_call (ea_2 (ev_var h1) (ev_var h2)) (v_row_sums T (S.ex e) o (mt.ex e) hR wf) H1 (.refl H1) _ fun sa H2 hsa e2 ms => ⟨_, h2, ?_⟩
  obtain ⟨sr, hs1, hs2, hs3⟩ := ms
  obtain ⟨rr, hr1, hr2, hr3⟩ := mt.ex (e.trans e2)
  have oc := o.c; have on := o.n
  have hsl : sr.length = s.c := by rw [hs2, len_sumsM]
  have hsc : s.c ≤ 8 := oc
  refine ⟨sa, ra, sr.map V.ref, rr.map V.ref, rfl, rfl, hs1, hr1, sz_of (by simp; omega), fun z => ?_, fun _ z => ?_, fun _ _ v nv => ?_⟩
  · have z0 : sr = [] := by simpa using z
    refine q ra H2 e2 ⟨rr, hr1, ?_, fun k b hb => ?_⟩
    · rw [len_stripeM]; have : s.c = 0 := by rw [← hsl, z0]; rfl
      omega
    · have : s.c = 0 := by rw [← hsl, z0]; rfl
      have e0 : sumsM s R = [] := List.eq_nil_of_length_eq_zero (by rw [len_sumsM]; exact this)
      have : stripeM s R = R := by unfold stripeM; rw [e0]; rfl
      rw [this]
      exact hr3 k b hb
  · have z0 : rr = [] := by simpa using z
    rw [z0] at hr2
    simp at hr2
    omega
  · refine q v _ (e2.trans (Ex.new nv)) ⟨sr ++ rr, by rw [List.map_append]; exact st_of upd_same, by rw [len_stripeM, List.length_append]; omega, fun k b hb => ?_⟩
    have key : SqT K H2 b ((row (stripeM s R) k).map V.int) := by
      by_cases c : k < sr.length
      · rw [List.getElem?_append_left c] at hb
        have : row (stripeM s R) k = row (sumsM s R) k := by
          unfold row stripeM
          rw [List.getD_eq_getElem?_getD, List.getD_eq_getElem?_getD, List.getElem?_append_left (by rw [len_sumsM]; omega)]
        rw [this]
        exact hs3 k b hb
      · rw [List.getElem?_append_right (by omega)] at hb
        have : row (stripeM s R) k = row R (k - sr.length) := by
          unfold row stripeM
          rw [List.getD_eq_getElem?_getD, List.getD_eq_getElem?_getD, List.getElem?_append_right (by rw [len_sumsM]; omega), len_sumsM, hsl]
        rw [this]
        exact hr3 _ b hb
    exact ex_t (Ex.new nv) key
end
end My


set_option maxHeartbeats 1000000
namespace My
open PySem PySem.Spec PyProof.Rows L2 Own LamX
open Evl (Ex RetV)
section
variable {P : Program} {w : World} {K : PySem.W.Frag} {mg : Str → Option Value} {base : Heap}

open Evl
/-! ### a right story has no fault -/
theorem eqv_all : ∀ a b : Ro, PyData.eqvAll (a.map PyData.int) (b.map PyData.int) = decide (a = b)
  | [], [] => by simp [PyData.eqvAll]
  | [], _ :: _ => by simp [PyData.eqvAll]
  | _ :: _, [] => by simp [PyData.eqvAll]
  | x :: a, y :: b => by
    simp only [List.map_cons, PyData.eqvAll, PyData.eqv, eqv_all a b]
    by_cases h : x = y <;> by_cases k : a = b <;> simp [h, k]
theorem eqv_ints (a b : Ro) : PyData.eqv (intsD a) (intsD b) = decide (a = b) := by
  unfold intsD
  simp only [PyData.eqv, eqv_all]
theorem rowD_ints {r : Ro} {w : Nat} {p : Int} (h : r.length = w) (hb : ∀ x ∈ r, 0 ≤ x ∧ x < p) : rowD (intsD r) w p = true := by
  simp only [intsD, rowD, Bool.and_eq_true, decide_eq_true_eq, List.length_map, List.all_eq_true]
  refine ⟨by rw [h], fun d hd => ?_⟩
  obtain ⟨x, hx, rfl⟩ := List.mem_map.mp hd
  have := hb x hx
  simp [within]
  omega
theorem cellsF_ok {w : Nat} {p : Int} : ∀ {R : Mx} {i : Nat}, WF p w R → cellsF w p i (R.map intsD) = none
  | [], _, _ => rfl
  | r :: R, i, h => by
    have hr := h r List.mem_cons_self
    show (if rowD (intsD r) w p then cellsF w p (i + 1) (R.map intsD) else some (i : Int)) = none
    rw [if_pos (rowD_ints hr.1 hr.2)]
    exact cellsF_ok fun x hx => h x (List.mem_cons_of_mem _ hx)
theorem rowF_ok {s : Shp} {R : Mx} (h : WF s.p s.w R) (hn : R.length = s.n) : rowF s (matD R) = none := by
  unfold rowF
  rw [if_pos (by simp [matD, isLen, hn])]
  exact cellsF_ok h
theorem mat_get {R : Mx} {i : Nat} (h : i < R.length) : (R.map intsD).getD i .none = intsD (row R i) := by
  rw [List.getD_eq_getElem?_getD, List.getElem?_map, row_at h]
  rfl
theorem chL_ok {s : Shp} {R : Mx} (hn : R.length = s.n) : ∀ {ch : List (Nat × Ro)} {lo : Int}, (∀ c ∈ ch, lo ≤ c.1 ∧ c.1 < s.n ∧ c.2.length = s.w ∧ (∀ x ∈ c.2, 0 ≤ x ∧ x < s.p) ∧ c.2 ≠ row R c.1) → (ch.map (·.1)).Pairwise (· < ·) →
    chL s (R.map intsD) lo (ch.map fun c => .tuple [.int c.1, intsD c.2]) = true
  | [], _, _, _ => rfl
  | c :: ch, lo, h, hp => by
    obtain ⟨h1, h2, h3, h4, h5⟩ := h c List.mem_cons_self
    rw [List.map_cons, List.pairwise_cons] at hp
    show (within (.int c.1) lo (s.n - 1) && rowD (intsD c.2) s.w s.p && !PyData.eqv (intsD c.2) ((R.map intsD).getD (c.1 : Int).toNat .none) && chL s (R.map intsD) (c.1 + 1) (ch.map fun c => .tuple [.int c.1, intsD c.2])) = true
    rw [chL_ok hn (fun d hd => ?_) hp.2, rowD_ints h3 h4, Int.toNat_natCast, mat_get (by omega), eqv_ints, decide_eq_false h5]
    · simp [within]; omega
    · obtain ⟨_, q2, q3⟩ := h d (List.mem_cons_of_mem _ hd)
      have := hp.1 d.1 (List.mem_map.mpr ⟨d, hd, rfl⟩)
      exact ⟨by omega, q2, q3⟩
theorem natI_pw {l : List Nat} (h : l.Pairwise (· < ·)) : (natI l).Pairwise (· < ·) := by
  unfold natI
  rw [List.pairwise_map]
  exact h.imp fun {a b} h => by omega
theorem mem_natI {l : List Nat} {x : Int} : x ∈ natI l ↔ ∃ i ∈ l, x = (i : Int) := by
  unfold natI
  rw [List.mem_map]
  exact ⟨fun ⟨i, h, e⟩ => ⟨i, h, e.symm⟩, fun ⟨i, h, e⟩ => ⟨i, h, e.symm⟩⟩
theorem ris_natI {l : List Nat} {top : Nat} (h : ∀ i ∈ l, i < top) (hp : l.Pairwise (· < ·)) : risingD (intsD (natI l)) (top : Int) = true :=
  ris_of (fun x hx => by obtain ⟨i, hi, rfl⟩ := mem_natI.mp hx; have := h i hi; omega) (natI_pw hp)
theorem xsD_ch {ch : List (Nat × Ro)} : xsD (chD ch) = ch.map fun c => (c.1 : Int) := by
  show (List.map _ _).map _ = _
  rw [List.map_map]
  rfl
theorem filter_two {α : Type} (f : α → Bool) : ∀ l : List α, l.length = (l.filter f).length + (l.filter fun x => !f x).length
  | [] => rfl
  | x :: l => by
    have := filter_two f l
    cases h : f x <;> simp [h] <;> omega
theorem camL_ok {s : Shp} {t : Sto} (k : t.Ok s) : camL s (t.ch.map fun c => (c.1 : Int)) (natI t.cm) = true := by
  unfold camL
  rw [Bool.and_eq_true]
  have mem : ∀ x ∈ (natI t.cm).filter (fun x => decide ((s.c : Int) ≤ x)), ∃ i ∈ t.cm, x = (i : Int) ∧ s.c ≤ i := fun x hx => by
    obtain ⟨h1, h2⟩ := List.mem_filter.mp hx
    obtain ⟨i, hi, rfl⟩ := mem_natI.mp h1
    exact ⟨i, hi, rfl, by have := of_decide_eq_true h2; omega⟩
  refine ⟨List.all_eq_true.mpr fun x hx => ?_, ?_⟩
  · obtain ⟨i, hi, rfl, hc⟩ := mem x hx
    obtain ⟨c, hcm, rfl⟩ := k.mc i hi hc
    refine decide_eq_true (List.mem_map.mpr ⟨(c.1 : Int), List.mem_map.mpr ⟨c, hcm, rfl⟩, by omega⟩)
  · rcases k.w with h | h | h
    · rw [h]; rfl
    · have : (natI t.cm).filter (fun x => decide ((s.c : Int) ≤ x)) = [] := by
        rw [List.filter_eq_nil_iff]
        intro x hx
        obtain ⟨i, hi, rfl⟩ := mem_natI.mp hx
        have := h i hi
        simp
        omega
      rw [this]
      simp
    · -- all sums came
      have hlen : ((natI t.cm).length : Int) - ((((natI t.cm).filter fun x => decide ((s.c : Int) ≤ x)).length : Nat) : Int) = s.c := by
        have e1 := filter_two (fun x : Int => decide ((s.c : Int) ≤ x)) (natI t.cm)
        have e2 : ((natI t.cm).filter fun x => !decide ((s.c : Int) ≤ x)).length = s.c := by
          have e3 : (natI t.cm).filter (fun x => !decide ((s.c : Int) ≤ x)) = natI (t.cm.filter fun i => decide (i < s.c)) := by
            unfold natI
            rw [List.filter_map]
            congr 1
            refine List.filter_congr fun i _ => ?_
            simp only [Function.comp]
            by_cases c : i < s.c
            · rw [decide_eq_true c, decide_eq_false (by omega)]; rfl
            · rw [decide_eq_false c, decide_eq_true (by omega)]; rfl
          rw [e3]
          have e4 : (t.cm.filter fun i => decide (i < s.c)) = List.range s.c := by
            refine pw_ext (k.ms.sublist List.filter_sublist) List.pairwise_lt_range fun i => ?_
            rw [List.mem_filter, List.mem_range]
            constructor
            · exact fun h => of_decide_eq_true h.2
            · exact fun hi => ⟨h i hi, decide_eq_true hi⟩
          rw [e4]
          simp [natI]
        omega
      rw [hlen]
      simp
theorem stF_ok {s : Shp} {t : Sto} (k : t.Ok s) : stF s (stD t) = none := by
  unfold stF stD
  rw [if_pos (by simp [isLen])]
  show stF3 s (matD t.r) (chD t.ch) (intsD (natI t.cm)) = none
  unfold stF3
  rw [rowF_ok k.r k.n]
  have h1 : chF s (tItems (matD t.r)) (chD t.ch) = true := by
    show (decide ((t.ch.map _).length ≤ s.k) && chL s (t.r.map intsD) 0 (t.ch.map fun c => .tuple [.int c.1, intsD c.2])) = true
    rw [chL_ok k.n (fun c hc => let ⟨a, b⟩ := k.c c hc; ⟨by omega, by omega, b⟩) k.cs, List.length_map, decide_eq_true k.k]
    rfl
  have h2 : camF s (xsD (chD t.ch)) (intsD (natI t.cm)) = true := by
    rw [camF_ints, xsD_ch, camL_ok k, Bool.and_true]
    exact ris_natI (top := s.c + s.n) k.m k.ms
  rw [h1, h2]
  rfl
theorem pw_len {l : List Nat} : ∀ {top : Nat}, (∀ i ∈ l, i < top) → l.Pairwise (· < ·) → l.length ≤ top := fun {top} h hp => by
  have : l = (List.range top).filter fun i => decide (i ∈ l) := by
    refine pw_ext hp (List.pairwise_lt_range.sublist List.filter_sublist) fun i => ?_
    rw [List.mem_filter, List.mem_range]
    exact ⟨fun hi => ⟨h i hi, decide_eq_true hi⟩, fun h => of_decide_eq_true h.2⟩
  rw [this]
  have := List.length_filter_le (fun i => decide (i ∈ l)) (List.range top)
  rwa [List.length_range] at this
theorem gd_st {K : PySem.W.Frag} {H : Hp} {a : Addr} {s : Shp} {t : Sto} (o : s.Ok) (k : t.Ok s) (h : St K a t H) : Gd K H 4 (.ref a) (stD t) := by
  obtain ⟨r, c, m, h1, h2, h3, h4⟩ := h
  have p1 := o.p.2.1
  have ow := o.w; have on := o.n; have ok := o.k; have oc : s.c ≤ 8 := o.c
  have kn := k.n; have kk := k.k
  have g1 : Gd K H 2 (.ref r) (matD t.r) := gd_mat h2 k.r p1 (by omega) (by omega)
  have g3 : Gd K H 1 (.ref m) (intsD (natI t.cm)) := by
    have hl := pw_len k.m k.ms
    refine gd_ints h4 (by simp [natI]; omega) fun x hx => ?_
    obtain ⟨i, hi, rfl⟩ := mem_natI.mp hx
    have := k.m i hi
    omega
  have g2 : Gd K H 3 (.ref c) (chD t.ch) := by
    obtain ⟨refs, q1, q2, q3⟩ := h3
    refine gd_tup q1 ?_ (by rw [List.length_map]; omega)
    have key : ∀ (ch : List (Nat × Ro)) (refs : List Addr), refs.length = ch.length → (∀ (i : Nat) (b : Addr) (x : Nat × Ro), refs[i]? = some b → ch[i]? = some x → Gd K H 2 (.ref b) (.tuple [.int x.1, intsD x.2])) → GdAll K H 2 (refs.map V.ref) (ch.map fun c => .tuple [.int c.1, intsD c.2]) := fun ch => by
      induction ch with
      | nil => intro refs hl _; rw [List.eq_nil_of_length_eq_zero hl]; exact .nil
      | cons x ch ih =>
        intro refs hl h
        cases refs with
        | nil => cases hl
        | cons b refs => exact .cons (h 0 b x rfl rfl) (ih refs (by simpa using hl) fun i b y hb hy => h (i + 1) b y (by simpa using hb) (by simpa using hy))
    refine key _ _ q2 fun i b x hb hx => ?_
    obtain ⟨cb, c1, c2⟩ := q3 i b x hb hx
    obtain ⟨w1, w2, w3, _⟩ := k.c x (List.mem_of_getElem? hx)
    exact gd_tup c1 (.cons ((gd_int (by omega)).up (by decide)) (.cons (gd_ints c2 (by omega) fun y hy => by have := w3 y hy; omega) .nil)) (by show 2 ≤ 20; decide)
  exact gd_tup h1 (.cons (g1.up (by decide)) (.cons g2 (.cons (g3.up (by decide)) .nil))) (by show 3 ≤ 20; decide)
end
end My


set_option maxHeartbeats 1000000
namespace My
open PySem PySem.Spec PyProof.Rows L2 Own LamX
open Evl (Ex RetV)
section
variable {P : Program} {w : World} {K : PySem.W.Frag} {mg : Str → Option Value} {base : Heap}

open Evl
/-! ### the draws -/
abbrev sp_law_take (T : Txt K mg) : Sp := spTake
abbrev sp_law_one (T : Txt K mg) : Sp := spOne K
abbrev sp_law_pool (T : Txt K mg) : Sp := spPool K
theorem len_law_take (T : Txt K mg) {vs H Q E} (h : sp_law_take T vs H Q E) : vs.length = 2 := by obtain ⟨_, _, rfl, _⟩ := h; rfl
theorem len_law_one (T : Txt K mg) {vs H Q E} (h : sp_law_one T vs H Q E) : vs.length = 2 := by obtain ⟨_, _, _, rfl, _⟩ := h; rfl
theorem len_law_pool (T : Txt K mg) {vs H Q E} (h : sp_law_pool T vs H Q E) : vs.length = 2 := by obtain ⟨_, _, _, rfl, _⟩ := h; rfl
def t_law_take (T : Txt K mg) : TS := (tSeq (tIfS (tTest (tOp rGtI (tOp (rIxL K) (tVar 0) (tC (.int 0))) (tC (.int 0)))) (tSeq (tAsg (tOp rModI (tCB rInt1 (tCons (tOp (rIxL K) (tVar 0) (tC (.int 0))) tNil)) (tVar 1)) (gName 2)) (tSeq (tAsg (tOp rDivI (tOp (rIxL K) (tVar 0) (tC (.int 0))) (tVar 1)) (gSub (tVar 0) (tC (.int 0)) rSetL)) (tRet (tVar 2)))) tNext) (tSeq (tAsg (tOp rModI (tCB rInt1 (tCons (tOp rAddI (tOp rMulI (tOp (rIxL K) (tVar 0) (tC (.int 1))) (tC (.int 39373))) (tC (.int 7))) tNil)) (tC (.int 2147483647))) (gSub (tVar 0) (tC (.int 1)) rSetL)) (tRet (tOp rModI (tCB rInt1 (tCons (tOp rDivI (tOp rModI (tCB rInt1 (tCons (tOp rMulI (tOp (rIxL K) (tVar 0) (tC (.int 1))) (tOp (rIxL K) (tVar 0) (tC (.int 1)))) tNil)) (tC (.int 2147483629))) (tC (.int 32))) tNil)) (tVar 1)))))

theorem up_set {a : Addr} {H H1 : Hp} {big mixed : Int} (e : Ex H H1) (h1 : 0 ≤ big) (h2 : 0 ≤ mixed) (h3 : mixed < 2147483647) : Up a H (upd H1 a (.lst [.int big, .int mixed])) :=
  ⟨fun b o nb hb => by rw [upd_ne nb]; exact e b o hb, big, mixed, upd_same, h1, h2, h3⟩
theorem pure_law_take (T : Txt K mg) {vs H Q} {E : XK} (h : sp_law_take T vs H Q E) : t_law_take T { nx := fun _ H' => Q .non H', rt := Q } (L2.start n_law_take vs) H := by
  obtain ⟨a, top, rfl, ⟨big, mixed, hs, hb, hm, hm2⟩, h0, h1, q⟩ := h
  have at0 : ∀ H1, Ex H H1 → ∀ (σ : L2.St), σ[0]? = some (some (.ref a)) → Ev (tOp (rIxL K) (tVar 0) (tC (.int 0))) σ H1 (.int big) := fun H1 e σ e0 => ev_ixL (ev_var e0) ev_c (sq_of (e a _ hs)) (atI_nat (j := 0) rfl)
  have at1 : ∀ H1, Ex H H1 → ∀ (σ : L2.St), σ[0]? = some (some (.ref a)) → Ev (tOp (rIxL K) (tVar 0) (tC (.int 1))) σ H1 (.int mixed) := fun H1 e σ e0 => ev_ixL (ev_var e0) ev_c (sq_of (e a _ hs)) (atI_nat (j := 1) rfl)
  refine q_when (ev_gtI (at0 H (Ex.refl H) _ rfl) ev_c) (fun c H1 e1 => ?_) (fun c H1 e1 => ?_)
  · refine q_asg (ev_modI (ev_int1 (at0 H1 e1 _ rfl)) (ev_var rfl) h0) fun H2 e2 => ?_
    have E2 := e1.trans e2
    refine q_setL (j := 0) (E2 a _ hs) (ev_divI (at0 H2 E2 _ rfl) (ev_var rfl) ⟨h0, h1⟩) (ev_var rfl) ev_c (by show 0 < 2; decide) fun H3 e3 => ?_
    refine s_ret (ev_var rfl) fun H4 e4 => ?_
    have m0 := Int.emod_nonneg big (show top ≠ 0 by omega)
    have m1 := Int.emod_lt_of_pos big h0
    have d0 : 0 ≤ big / top := Int.ediv_nonneg hb (by omega)
    have u := up_set (a := a) (E2.trans e3) d0 hm hm2
    exact q _ _ m0 m1 (u.trans (.ex e4 u.src))
  · have b0 : big = 0 := by have := of_decide_eq_false c; omega
    have r0 : 0 ≤ (mixed * 39373 + 7) % 2147483647 := Int.emod_nonneg _ (by decide)
    have r1 : (mixed * 39373 + 7) % 2147483647 < 2147483647 := Int.emod_lt_of_pos _ (by decide)
    refine q_setL (j := 1) (e1 a _ hs) (ev_modI (ev_int1 (ev_addI (ev_mulI (at1 H1 e1 _ rfl) ev_c (.inr ⟨by decide, by decide⟩)) ev_c)) ev_c (by decide)) (ev_var rfl) ev_c (by show 1 < 2; decide) fun H3 e3 => ?_
    have u := up_set (a := a) (e1.trans e3) hb r0 r1
    have a1 : ∀ (σ : L2.St), σ[0]? = some (some (.ref a)) → Ev (tOp (rIxL K) (tVar 0) (tC (.int 1))) σ (upd H3 a (.lst [.int big, .int ((mixed * 39373 + 7) % 2147483647)])) (.int ((mixed * 39373 + 7) % 2147483647)) :=
      fun σ e0 => ev_ixL (ev_var e0) ev_c (sq_of upd_same) (atI_nat (j := 1) rfl)
    refine s_ret (ev_modI (ev_int1 (ev_divI (ev_modI (ev_int1 (ev_mulI (a1 _ rfl) (a1 _ rfl) (.inl ⟨by omega, by omega⟩))) ev_c (by decide)) ev_c ⟨by decide, by decide⟩)) (ev_var rfl) h0) fun H4 e4 => ?_
    exact q _ _ (Int.emod_nonneg _ (by omega)) (Int.emod_lt_of_pos _ h0) (u.trans (.ex e4 u.src))
theorem ok_law_take (T : Txt K mg) : FnOk P w K mg base CX0 1 T.f_law_take T.fd_law_take ["_law_source", "_law_top"] (sp_law_take T) :=
  T.d_law_take.F.ok sc_law_take (fun vs H Q E h => len_law_take T h) fun cdv A outer s H vs Q E hr h => ⟨t_law_take T, by
    exact (pss_cons (ps_if (pt_cmpR op_gt (pe_ix ix_list (pv 0) pe_int (fun _ _ => rfl)) pe_int (nomark _)) (pss_cons (ps_set (i := 2) sc_law_take.nd rfl (Or.inl rfl) (pe_op op_mod (pe_callTy call_int1 (by rfl) T.m_int (by decide +kernel) (pa_cons (pe_ix ix_list (pv 0) pe_int (fun _ _ => rfl)) pa_nil)) (pv 1))) (pss_cons (ps_asg (pe_op op_fdiv (pe_ix ix_list (pv 0) pe_int (fun _ _ => rfl)) (pv 1)) (pg_sub (pv 0) pe_int set_list)) (pss_one (ps_ret (pv 2))))) pss_nil) (pss_cons (ps_asg (pe_op op_mod (pe_callTy call_int1 (by rfl) T.m_int (by decide +kernel) (pa_cons (pe_op op_add (pe_op op_mul (pe_ix ix_list (pv 0) pe_int (fun _ _ => rfl)) pe_int) pe_int) pa_nil)) pe_int) (pg_sub (pv 0) pe_int set_list)) (pss_one (ps_ret (pe_op op_mod (pe_callTy call_int1 (by rfl) T.m_int (by decide +kernel) (pa_cons (pe_op op_fdiv (pe_op op_mod (pe_callTy call_int1 (by rfl) T.m_int (by decide +kernel) (pa_cons (pe_op op_mul (pe_ix ix_list (pv 0) pe_int (fun _ _ => rfl)) (pe_ix ix_list (pv 0) pe_int (fun _ _ => rfl))) pa_nil)) pe_int) pe_int) pa_nil)) (pv 1)))))), pure_law_take T h⟩

def t_law_one (T : Txt K mg) : TS := (tRet (tOp (rIxL K) (tVar 1) (tCall (sp_law_take T) [] E0 (tCons (tVar 0) (tCons (tCB (rLenV K) (tCons (tVar 1) tNil)) tNil)))))

theorem pure_law_one (T : Txt K mg) {vs H Q} {E : XK} (h : sp_law_one T vs H Q E) : t_law_one T { nx := fun _ H' => Q .non H', rt := Q } (L2.start n_law_one vs) H := by
  obtain ⟨a, b, xs, rfl, nb, s, hx, ne, hl, q⟩ := h
  have h0 : 0 < xs.length := List.length_pos_iff.mpr ne
  refine ⟨_, rfl, _, rfl, _, rfl, _, _, rfl, .inl ⟨xs, hx, rfl⟩, ?_⟩
  refine ⟨a, xs.length, rfl, s, by omega, by omega, fun r H' r0 r1 u => ?_⟩
  have hr : r.toNat < xs.length := by omega
  have er : (r.toNat : Int) = r := by omega
  have hx' : SqL K H' b xs := by
    rcases hx with (z | ⟨o, z⟩) | z
    · exact .inl (.inl (u.keep b _ nb z))
    · exact .inl (.inr ⟨o, u.keep b _ nb z⟩)
    · exact .inr z
  refine ⟨b, xs, r, xs[r.toNat], rfl, rfl, hx', ?_, q _ (List.getElem_mem hr) H' u⟩
  exact at_of er.symm (List.getElem?_eq_getElem hr)
theorem ok_law_one (T : Txt K mg) : FnOk P w K mg base CX0 2 T.f_law_one T.fd_law_one ["_law_source", "_law_things"] (sp_law_one T) :=
  T.d_law_one.F.ok sc_law_one (fun vs H Q E h => len_law_one T h) fun cdv A outer s H vs Q E hr h => ⟨t_law_one T, by
    exact (pss_one (ps_ret (pe_ix ix_list (pv 1) (pe_call (ok_law_take T) (hr.mono (by decide)) (by rfl) T.d_law_take.g T.d_law_take.F.kp T.d_law_take.b .nil pass0 (pa_cons (pv 0) (pa_cons (pe_callB call_len (by rfl) T.m_len (by decide +kernel) (pa_cons (pv 1) pa_nil)) pa_nil))) (fun _ _ => rfl)))), pure_law_one T h⟩

def t_law_pool (T : Txt K mg) : TS := (tSeq (tAsg (tC (.int 0)) (gName 2)) (tSeq (tIfS (tTest (tOp rLtI (tVar 1) (tCB (rLenV K) (tCons (tVar 0) tNil)))) (tAsg (tOp (rIxL K) (tVar 0) (tVar 1)) (gName 2)) (tIfS (tTest (tOp (rNeD K) (tVar 0) (tLst tNil))) (tAsg (tOp (rIxL K) (tVar 0) (tC (.int 0))) (gName 2)) tNext)) (tSeq (tAsg (tCB Own.rMax2 (tCons (tCB rInt1 (tCons (tVar 2) tNil)) (tCons (tCB rInt1 (tCons (tOp rSubI (tUn rNegI (tC (.int 1))) (tVar 2)) tNil)) tNil))) (gName 3)) (tSeq (tAsg (tOp rModI (tCB rInt1 (tCons (tOp rMulI (tOp rAddI (tOp rAddI (tOp rAddI (tOp rModI (tCB rInt1 (tCons (tVar 3) tNil)) (tC (.int 2147483629))) (tOp rMulI (tOp rMulI (tC (.int 7919)) (tVar 1)) (tVar 1))) (tOp rMulI (tC (.int 31)) (tVar 1))) (tC (.int 17))) (tC (.int 48271))) tNil)) (tC (.int 2147483647))) (gName 4)) (tRet (tLst (tCons (tOp rMulI (tVar 3) (tCB rInt1 (tCons (tAndV (tOp rGeI (tVar 3) (tOp rPowI (tC (.int 10)) (tC (.int 18)))) (tOp rLtI (tVar 1) (tCB (rLenV K) (tCons (tVar 0) tNil)))) tNil))) (tCons (tVar 4) tNil))))))))

theorem pure_law_pool (T : Txt K mg) {vs H Q} {E : XK} (h : sp_law_pool T vs H Q E) : t_law_pool T { nx := fun _ H' => Q .non H', rt := Q } (L2.start n_law_pool vs) H := by
  obtain ⟨b, ns, k, rfl, hs, hl, k0, k1, q⟩ := h
  have len : ∀ H1, Ex H H1 → ∀ (σ : L2.St), σ[0]? = some (some (.ref b)) → Ev (tCB (rLenV K) (tCons (tVar 0) tNil)) σ H1 (.int (ns.length : Int)) := fun H1 e σ e0 => by
    have := ev_lenL (K := K) (ev_var e0) (ex_l e hs)
    rwa [List.length_map] at this
  refine q_asg ev_c fun H1 e1 => ?_
  refine q_split (fun σ' H' => ∃ c : Int, σ' = [some (.ref b), some (.int k), some (.int c), none, none] ∧ Ex H H') ?_ (fun R => ?_)
  · rintro σ' H2 ⟨c, rfl, e2⟩
    -- big
    refine q_asg (Own.ev_max2 (ev_int1 (ev_var rfl)) (ev_int1 (ev_subI (ev_negI ev_c) (ev_var rfl)))) fun H3 e3 => ?_
    generalize hbig : (if -1 - c > c then -1 - c else c) = big
    have b0 : 0 ≤ big := by rw [← hbig]; split <;> omega
    have m0 : 0 ≤ big % 2147483629 := Int.emod_nonneg _ (by decide)
    have m1 : big % 2147483629 < 2147483629 := Int.emod_lt_of_pos _ (by decide)
    -- mixed
    refine q_asg (ev_modI (ev_int1 (ev_mulI (ev_addI (ev_addI (ev_addI (ev_modI (ev_int1 (ev_var rfl)) ev_c (by decide)) (ev_mulI (ev_mulI ev_c (ev_var rfl) (.inl ⟨by decide, by decide⟩)) (ev_var rfl) (.inr ⟨by omega, by omega⟩)))
      (ev_mulI ev_c (ev_var rfl) (.inl ⟨by decide, by decide⟩))) ev_c) ev_c (.inr ⟨by decide, by decide⟩))) ev_c (by decide)) fun H4 e4 => ?_
    generalize hmix : ((big % 2147483629 + 7919 * k * k + 31 * k + 17) * 48271) % 2147483647 = mixed
    have x0 : 0 ≤ mixed := by rw [← hmix]; exact Int.emod_nonneg _ (by decide)
    have x1 : mixed < 2147483647 := by rw [← hmix]; exact Int.emod_lt_of_pos _ (by decide)
    have E4 := (e2.trans e3).trans e4
    refine s_retL (el_lst (ea_2 (ev_mulI (ev_var rfl) (ev_intB (ev_andV (ev_geV (ev_var rfl) (ev_powI ev_c ev_c ⟨by decide, by decide, by decide⟩)) fun _ => ev_ltV (ev_var rfl) (len H4 E4 _ rfl))) (.inr ?_)) (ev_var rfl)) (by show 2 ≤ 100000; decide)) fun p H5 hp e5 h5 => ?_
    · split <;> exact ⟨by decide, by decide⟩
    · refine q p H5 ?_ (E4.trans e5) ⟨_, mixed, h5, ?_, x0, x1⟩
      · exact fresh_back E4 hp
      · refine Int.mul_nonneg b0 ?_
        split <;> decide
  · refine s_if (ev_ltI (ev_var rfl) (len H1 e1 _ rfl)) ?_ ?_
    · intro c H2 e2
      have c := of_decide_eq_true c
      have hk : k.toNat < ns.length := by omega
      refine s_asg (v := .int ns[k.toNat]) (ev_ixL (ev_var rfl) (ev_var rfl) (ex_l (e1.trans e2) hs) ?_) fun H3 e3 => R _ _ ⟨_, rfl, (e1.trans e2).trans e3⟩
      refine at_of (j := k.toNat) (by omega) ?_
      rw [List.getElem?_map, List.getElem?_eq_getElem hk]
      rfl
    · intro c H2 e2
      refine s_when (et_neInts (ev_var rfl) (ex_l (e1.trans e2) hs)) (fun c H3 e3 => ?_) (fun c H3 e3 => R _ _ ⟨0, rfl, (e1.trans e2).trans e3⟩)
      cases hn : ns with
      | nil => rw [hn] at c; cases c
      | cons n r =>
        refine s_asg (v := .int n) (ev_ixL (ev_var rfl) ev_c (ex_l ((e1.trans e2).trans e3) hs) (atI_nat (j := 0) (by rw [hn]; rfl))) fun H4 e4 => R _ _ ⟨n, rfl, ((e1.trans e2).trans e3).trans e4⟩
theorem ok_law_pool (T : Txt K mg) : FnOk P w K mg base CX0 1 T.f_law_pool T.fd_law_pool ["_law_script", "_law_k"] (sp_law_pool T) :=
  T.d_law_pool.F.ok sc_law_pool (fun vs H Q E h => len_law_pool T h) fun cdv A outer s H vs Q E hr h => ⟨t_law_pool T, by
    exact (pss_cons (ps_set (i := 2) sc_law_pool.nd rfl (Or.inl rfl) pe_int) (pss_cons (ps_if (pt_cmpR op_lt (pv 1) (pe_callB call_len (by rfl) T.m_len (by decide +kernel) (pa_cons (pv 0) pa_nil)) (nomark _)) (pss_one (ps_set (i := 2) sc_law_pool.nd rfl (Or.inl rfl) (pe_ix ix_list (pv 0) (pv 1) (fun _ _ => rfl)))) (pss_one (ps_if (pt_cmpR (op_neD hr.units) (pv 0) (pe_lst pa_nil) (nomark _)) (pss_one (ps_set (i := 2) sc_law_pool.nd rfl (Or.inl rfl) (pe_ix ix_list (pv 0) pe_int (fun _ _ => rfl)))) pss_nil))) (pss_cons (ps_set (i := 3) sc_law_pool.nd rfl (Or.inl rfl) (pe_callB (call_max2 rfl) (by rfl) T.m_max (by decide +kernel) (pa_cons (pe_callTy call_int1 (by rfl) T.m_int (by decide +kernel) (pa_cons (pv 2) pa_nil)) (pa_cons (pe_callTy call_int1 (by rfl) T.m_int (by decide +kernel) (pa_cons (pe_op op_sub (pe_un un_neg pe_int) (pv 2)) pa_nil)) pa_nil)))) (pss_cons (ps_set (i := 4) sc_law_pool.nd rfl (Or.inl rfl) (pe_op op_mod (pe_callTy call_int1 (by rfl) T.m_int (by decide +kernel) (pa_cons (pe_op op_mul (pe_op op_add (pe_op op_add (pe_op op_add (pe_op op_mod (pe_callTy call_int1 (by rfl) T.m_int (by decide +kernel) (pa_cons (pv 3) pa_nil)) pe_int) (pe_op op_mul (pe_op op_mul pe_int (pv 1)) (pv 1))) (pe_op op_mul pe_int (pv 1))) pe_int) pe_int) pa_nil)) pe_int)) (pss_one (ps_ret (pe_lst (pa_cons (pe_op op_mul (pv 3) (pe_callTy call_int1 (by rfl) T.m_int (by decide +kernel) (pa_cons (pe_and (pe_cmpR op_ge (pv 3) (pe_op op_pow pe_int pe_int) (nomark _)) (pe_one (pe_cmpR op_lt (pv 1) (pe_callB call_len (by rfl) T.m_len (by decide +kernel) (pa_cons (pv 0) pa_nil)) (nomark _)))) pa_nil))) (pa_cons (pv 4) pa_nil))))))))), pure_law_pool T h⟩

end
end My


set_option maxHeartbeats 1000000
namespace My
open PySem PySem.Spec PyProof.Rows L2 Own LamX
open Evl (Ex RetV)
section
variable {P : Program} {w : World} {K : PySem.W.Frag} {mg : Str → Option Value} {base : Heap}

open Evl
/-! ### rows and what is left, as they are asked for -/
def sp_made_row (T : Txt K mg) : Sp := fun vs H Q E => ∃ sh s k x d, vs = [.ref sh, x] ∧ Sh K sh s H ∧ s.Ok ∧ Gd K H k x d ∧ (rowF s d = none → ∀ H', Ex H H' → Q x H') ∧
  ∀ f, rowF s d = some f → ∀ H' dd, Ex H H' → Wh H' dd (.int f) → E (.ref T.c_BadRow) (some dd) H'
theorem len_made_row (T : Txt K mg) {vs H Q E} (h : sp_made_row T vs H Q E) : vs.length = 2 := by obtain ⟨_, _, _, _, _, rfl, _⟩ := h; rfl
def t_made_row (T : Txt K mg) (E : XK) : TS := (tSeq (tDrop (tCall (sp_made_shape T) [] E (tCons (tVar 0) tNil))) (tSeq (tAsg (tCall (sp_row_fault T) [] E0 (tCons (tVar 0) (tCons (tVar 1) tNil))) (gName 2)) (tSeq (tIfS (tTest (tOp rNotN (tVar 2) (tC .non))) (tRaise E (tMkO T.c_BadRow (spInit K) [] (tCons (tVar 2) tNil))) tNext) (tRet (tVar 1)))))

theorem pure_made_row (T : Txt K mg) {vs H Q} {E : XK} (h : sp_made_row T vs H Q E) : t_made_row T E { nx := fun _ H' => Q .non H', rt := Q } (L2.start n_made_row vs) H := by
  obtain ⟨sh, s, k, x, d, rfl, S, o, g, qv, qe⟩ := h
  refine ⟨_, rfl, ⟨3, _, shD s, rfl, S.gd o, fun _ H1 e1 => ?_, fun f hf => by rw [fault_ok o] at hf; cases hf⟩⟩
  refine q_asg (ev_call (ea_2 (ev_var rfl) (ev_var rfl)) (v_row_fault T (S.ex e1) (g.ex e1))) fun H2 e2 => ?_
  have t := et_test (ev_notN (ev_var (i := 2) (σ := [some (.ref sh), some x, some (optV (rowF s d))]) (H := H2) rfl))
  rw [optV_non] at t
  refine q_when t (fun c H3 e3 => ?_) (fun c H3 e3 => ?_)
  · cases hf : rowF s d with
    | none => rw [hf] at c; cases c
    | some f => exact s_raise1 (ev_var (v := .int f) rfl) T.o_BadRow T.n_BadRow_what fun dd H4 e4 ed => qe f hf H4 dd (((e1.trans e2).trans e3).trans e4) ed
  · have hf : rowF s d = none := by cases h : rowF s d with
      | none => rfl
      | some f => rw [h] at c; cases c
    exact s_ret (ev_var rfl) fun H4 e4 => qv hf H4 (((e1.trans e2).trans e3).trans e4)
theorem ok_made_row (T : Txt K mg) : FnOk P w K mg base (L2.CX P w) 6 T.f_made_row T.fd_made_row ["shape", "thing"] (sp_made_row T) :=
  T.d_made_row.F.okX sc_made_row (fun vs H Q E h => len_made_row T h) fun cdv A outer s H vs Q E hr h => ⟨t_made_row T E, by
    exact (pss_cons (ps_expr (pe_call (ok_made_shape T) (hr.mono (by decide)) (by rfl) T.d_made_shape.g T.d_made_shape.F.kp T.d_made_shape.b .nil (passes_call (takes_of rfl rfl rfl rfl) fun _ _ _ _ h => h) (pa_cons (pv 0) pa_nil))) (pss_cons (ps_set (i := 2) sc_made_row.nd rfl (Or.inl rfl) (pe_call (ok_row_fault T) (hr.mono (by decide)) (by rfl) T.d_row_fault.g T.d_row_fault.F.kp T.d_row_fault.b .nil pass0 (pa_cons (pv 0) (pa_cons (pv 1) pa_nil)))) (pss_cons (ps_if (pt_cmpR op_notN (pv 2) pe_non (nomark _)) (pss_one (ps_raise rfl (takes_of rfl rfl rfl rfl) (pmk_oex T.o_BadRow T.i_BadRow T.ti (ok_init T) (hr.mono (by decide)) T.b_init .nil pass0 (by rfl) T.g_BadRow (pa_cons (pv 2) pa_nil)))) pss_nil) (pss_one (ps_ret (pv 1)))))), pure_made_row T h⟩

/-- a right row's sums, its stripe; the fault of a wrong one -/
def spOfRow (M : Shp → Mx → Mx) (C : Addr) (K : PySem.W.Frag) : Sp := fun vs H Q E => ∃ sh s k x d, vs = [.ref sh, x] ∧ Sh K sh s H ∧ s.Ok ∧ Gd K H k x d ∧
  (rowF s d = none → ∃ ra R, x = .ref ra ∧ MT K ra R H ∧ R.length = s.n ∧ WF s.p s.w R ∧ ∀ t H', Ex H H' → MT K t (M s R) H' → Q (.ref t) H') ∧
  ∀ f, rowF s d = some f → ∀ H' dd, Ex H H' → Wh H' dd (.int f) → E (.ref C) (some dd) H'
theorem len_ofRow {M : Shp → Mx → Mx} {C : Addr} {vs H Q E} (h : spOfRow M C K vs H Q E) : vs.length = 2 := by obtain ⟨_, _, _, _, _, rfl, _⟩ := h; rfl
abbrev sp_sums (T : Txt K mg) : Sp := spOfRow sumsM T.c_BadRow K
theorem len_sums (T : Txt K mg) {vs H Q E} (h : sp_sums T vs H Q E) : vs.length = 2 := len_ofRow h
def t_sums (T : Txt K mg) (E : XK) : TS := (tSeq (tDrop (tCall (sp_made_row T) [] E (tCons (tVar 0) (tCons (tVar 1) tNil)))) (tRet (tCall (sp_row_sums T) [] E0 (tCons (tVar 0) (tCons (tVar 1) tNil)))))

theorem pure_sums (T : Txt K mg) {vs H Q} {E : XK} (h : sp_sums T vs H Q E) : t_sums T E { nx := fun _ H' => Q .non H', rt := Q } (L2.start n_sums vs) H := by
  obtain ⟨sh, s, k, x, d, rfl, S, o, g, qv, qe⟩ := h
  refine ⟨_, rfl, _, rfl, ⟨sh, s, k, x, d, rfl, S, o, g, fun hf H1 e1 => ?_, qe⟩⟩
  obtain ⟨ra, R, rfl, mt, hR, wf, q⟩ := qv hf
  exact s_retN (D := { nx := fun _ H' => Q .non H', rt := Q }) (en_call (ea_2 (ev_var rfl) (ev_var rfl)) (v_row_sums T (S.ex e1) o (mt.ex e1) hR wf)) fun t H2 _ e2 m => q t H2 (e1.trans e2) m
theorem ok_sums (T : Txt K mg) : FnOk P w K mg base (L2.CX P w) 7 T.f_sums T.fd_sums ["shape", "row"] (sp_sums T) :=
  T.d_sums.F.okX sc_sums (fun vs H Q E h => len_sums T h) fun cdv A outer s H vs Q E hr h => ⟨t_sums T E, by
    exact (pss_cons (ps_expr (pe_call (ok_made_row T) (hr.mono (by decide)) (by rfl) T.d_made_row.g T.d_made_row.F.kp T.d_made_row.b .nil (passes_call (takes_of rfl rfl rfl rfl) fun _ _ _ _ h => h) (pa_cons (pv 0) (pa_cons (pv 1) pa_nil)))) (pss_one (ps_ret (pe_call (ok_row_sums T) (hr.mono (by decide)) (by rfl) T.d_row_sums.g T.d_row_sums.F.kp T.d_row_sums.b .nil pass0 (pa_cons (pv 0) (pa_cons (pv 1) pa_nil)))))), pure_sums T h⟩

abbrev sp_stripe (T : Txt K mg) : Sp := spOfRow stripeM T.c_BadRow K
theorem len_stripe (T : Txt K mg) {vs H Q E} (h : sp_stripe T vs H Q E) : vs.length = 2 := len_ofRow h
def t_stripe (T : Txt K mg) (E : XK) : TS := (tSeq (tDrop (tCall (sp_made_row T) [] E (tCons (tVar 0) (tCons (tVar 1) tNil)))) (tRet (tOp (rCatA K) (tCall (sp_row_sums T) [] E0 (tCons (tVar 0) (tCons (tVar 1) tNil))) (tVar 1))))

theorem pure_stripe (T : Txt K mg) {vs H Q} {E : XK} (h : sp_stripe T vs H Q E) : t_stripe T E { nx := fun _ H' => Q .non H', rt := Q } (L2.start n_stripe vs) H := by
  obtain ⟨sh, s, k, x, d, rfl, S, o, g, qv, qe⟩ := h
  refine ⟨_, rfl, _, rfl, ⟨sh, s, k, x, d, rfl, S, o, g, fun hf H1 e1 => ?_, qe⟩⟩
  obtain ⟨ra, R, rfl, mt, hR, wf, q⟩ := qv hf
  exact en_stripe T (σ := L2.start n_stripe [.ref sh, .ref ra]) (i := 0) (j := 1) (S.ex e1) o (mt.ex e1) hR wf rfl rfl H1 (.refl H1) Q fun v H2 e2 m => q v H2 (e1.trans e2) m
theorem ok_stripe (T : Txt K mg) : FnOk P w K mg base (L2.CX P w) 7 T.f_stripe T.fd_stripe ["shape", "row"] (sp_stripe T) :=
  T.d_stripe.F.okX sc_stripe (fun vs H Q E h => len_stripe T h) fun cdv A outer s H vs Q E hr h => ⟨t_stripe T E, by
    exact (pss_cons (ps_expr (pe_call (ok_made_row T) (hr.mono (by decide)) (by rfl) T.d_made_row.g T.d_made_row.F.kp T.d_made_row.b .nil (passes_call (takes_of rfl rfl rfl rfl) fun _ _ _ _ h => h) (pa_cons (pv 0) (pa_cons (pv 1) pa_nil)))) (pss_one (ps_ret (pe_op op_catA (pe_call (ok_row_sums T) (hr.mono (by decide)) (by rfl) T.d_row_sums.g T.d_row_sums.F.kp T.d_row_sums.b .nil pass0 (pa_cons (pv 0) (pa_cons (pv 1) pa_nil))) (pv 1))))), pure_stripe T h⟩

theorem el_lcE {b : Bool} {ta : TA} {a : Addr} {xs : List V} {i j : Nat} {vs : List Nat} {t : TT} {te : TE} {σ : L2.St} {H : Hp} (f : Nat → Bool) (v : Nat → V) (h : EvA ta σ H [.ref a]) (hx : SqB b K H a xs) (hn : xs.length ≤ 40000)
    (hw : ∀ x y, wipe (((wipe σ vs).set i (some x)).set j (some y)) vs = wipe σ vs)
    (ht : ∀ (m : Nat) x H1, Ex H H1 → xs[m]? = some x → EvT t (((wipe σ vs).set i (some (.int (m : Int)))).set j (some x)) H1 (f m)) (he : ∀ (m : Nat) x H1, Ex H H1 → xs[m]? = some x → f m = true → Ev te (((wipe σ vs).set i (some (.int (m : Int)))).set j (some x)) H1 (v m)) :
    EvL (tLc (iEnumB b K ta) (gTup K 2 (gCons (gName i) (gCons (gName j) gNil))) t te vs) σ H (given xs.length f v) := fun H0 e Q q => h H0 e _ fun H1 e1 => ⟨a, xs, rfl, ex_B (e.trans e1) hx, fun Dl hD =>
  lc_it walk_enumB (Cw H1 f v Dl) ⟨hD, Ex.new hD, upd_same⟩ (fun i H' _ p => ex_B ((e.trans e1).trans p.2.1) hx)
    (fun m z H2 H3 hm => by
      rintro p ⟨T, x, y, rfl, hT, rfl, h1, h2⟩
      injection h1 with h1
      subst h1
      have nT : Dl ≠ T := fun z => by have := p.2.2; rw [z, hT] at this; cases this
      have p' : Cw H1 f v Dl m (upd H2 T (.tup [.int (m : Int), y])) := ⟨p.1, p.2.1.trans (Ex.new hT), by rw [upd_ne nT]; exact p.2.2⟩
      exact ⟨T, _, rfl, st_of upd_same, rfl, _, _, rfl, y, _, rfl, rfl, hw _ y, cw_turn p' (by omega) (ht m y H1 (e.trans e1) h2) (fun hf => he m y H1 (e.trans e1) h2 hf)⟩)
    (fun H' p => q Dl H' (fresh_back e1 p.1) (e1.trans p.2.1) p.2.2)⟩
/-- the first that is neither a cell nor None -/
def isNon : PyData → Bool
  | .none => true
  | _ => false
def cellsN (w p : Int) : Nat → List PyData → Option Int
  | _, [] => none
  | i, d :: ds => if isNon d || rowD d w p then cellsN w p (i + 1) ds else some (i : Int)
def lefF (s : Shp) (d : PyData) : Option Int := if isLen d (s.c + s.n) then (match d with | .tuple ds => cellsN s.w s.p 0 ds | _ => none) else some (-1)
theorem non_v {H : Hp} {k : Nat} {x : V} {d : PyData} (g : Gd K H k x d) : decide (x = .non) = isNon d := by
  have h := g.dp
  cases h <;> simp [isNon]
def sp_left_fault (T : Txt K mg) : Sp := fun vs H Q _ => ∃ sh s k x d, vs = [.ref sh, x] ∧ Sh K sh s H ∧ Gd K H k x d ∧ RetV (optV (lefF s d)) H Q
theorem len_left_fault (T : Txt K mg) {vs H Q E} (h : sp_left_fault T vs H Q E) : vs.length = 2 := by obtain ⟨_, _, _, _, _, rfl, _⟩ := h; rfl
theorem v_left_fault (T : Txt K mg) {H : Hp} {sh : Addr} {s : Shp} {k : Nat} {x : V} {d : PyData} (S : Sh K sh s H) (g : Gd K H k x d) : SpV (sp_left_fault T) [.ref sh, x] H (optV (lefF s d)) := spv fun H1 e Q q E => ⟨sh, s, k, x, d, rfl, S.ex e, g.ex e, q⟩
def t_left_fault (T : Txt K mg) : TS := (tSeq (tIfS (tNot (tB (tCall (sp_tuple_of T) [] E0 (tCons (tVar 1) (tCons (tCall (sp_shelves_of T) [] E0 (tCons (tVar 0) tNil)) tNil))))) (tRet (tUn rNegI (tC (.int 1)))) tNext) (tSeq (tFor (iEnumB true K (tCons (tVar 1) tNil)) (gTup K 2 (gCons (gName 2) (gCons (gName 3) gNil))) (tIfS (tAnd (tTest (tOp rNotN (tVar 3) (tC .non))) (tNot (tB (tCall (sp_cell_fits T) [] E0 (tCons (tVar 0) (tCons (tVar 3) tNil)))))) (tRet (tVar 2)) tNext)) (tRet (tC .non))))

theorem pure_left_fault (T : Txt K mg) {vs H Q} {E : XK} (h : sp_left_fault T vs H Q E) : t_left_fault T { nx := fun _ H' => Q .non H', rt := Q } (L2.start n_left_fault vs) H := by
  obtain ⟨sh, s, k, x, d, rfl, S, g, q⟩ := h
  refine q_when (et_not (et_B (ev_call (ea_2 (ev_var rfl) (ev_call (ea_1 (ev_var rfl)) (v_shelves_of T S))) (v_tuple_of T g)))) (fun c H1 e1 => ?_) (fun c H1 e1 => ?_)
  · refine s_ret ev_neg1 fun H2 e2 => ?_
    have z : lefF s d = some (-1) := by unfold lefF; rw [if_neg (by simpa using c)]
    rw [z] at q
    exact q H2 (e1.trans e2)
  · have c' : isLen d (s.c + s.n) = true := by simpa using c
    obtain ⟨ds, rfl, hn⟩ := isLen_tuple c'
    have z : lefF s (.tuple ds) = cellsN s.w s.p 0 ds := by unfold lefF; rw [if_pos c']
    rw [z] at q
    obtain ⟨a, xs, j, rfl, rfl, hs, hl, h20, _, _, hx⟩ := g.tup
    refine q_forE (K := K) (b := true) (ea_1 (ev_var rfl)) (show SqB true K H1 a xs from ex_t e1 hs) (fun i σ' H' => ∃ u v, σ' = [some (.ref sh), some (.ref a), u, v] ∧ cellsN s.w s.p i (ds.drop i) = cellsN s.w s.p 0 ds ∧ Ex H H') (fun H2 e2 => ⟨none, none, rfl, rfl, e1.trans e2⟩) (fun i σ' H' ⟨_, _, _, _, e⟩ => ex_t e hs) ?_ ?_
    · rintro i y σ' H2 H3 hy ⟨u, v, rfl, hr, e2⟩ e3
      obtain ⟨d, hd, gd⟩ := hx i y hy
      rw [drop_at hd] at hr
      have t1 := et_test (ev_notN (ev_var (i := 3) (σ := [some (.ref sh), some (.ref a), some (.int (i : Int)), some y]) (H := H3) rfl))
      rw [non_v gd] at t1
      refine s_when (et_and t1 fun _ => et_not (et_B (ev_call (ea_2 (ev_var rfl) (ev_var rfl)) (v_cell_fits T (S.ex (e2.trans e3)) (gd.ex (e2.trans e3)))))) (fun c H4 e4 => ?_) (fun c H4 e4 => ?_)
      · refine s_ret (ev_var rfl) fun H5 e5 => ?_
        have z : cellsN s.w s.p i (d :: ds.drop (i + 1)) = some (i : Int) := by unfold cellsN; rw [if_neg (by simpa using c)]
        rw [← hr, z] at q
        exact q H5 (((e2.trans e3).trans e4).trans e5)
      · refine ⟨_, _, rfl, ?_, (e2.trans e3).trans e4⟩
        rw [← hr]
        show _ = cellsN s.w s.p i (d :: ds.drop (i + 1))
        rw [cellsN, if_pos (by cases h1 : isNon d <;> cases h2 : rowD d s.w s.p <;> simp [h1, h2] at c ⊢)]
    · rintro σ' H2 ⟨u, v, rfl, hr, e2⟩
      refine s_ret ev_c fun H3 e3 => ?_
      rw [hl, List.drop_length] at hr
      rw [← hr] at q
      exact q H3 (e2.trans e3)
theorem ok_left_fault (T : Txt K mg) : FnOk P w K mg base CX0 4 T.f_left_fault T.fd_left_fault ["shape", "thing"] (sp_left_fault T) :=
  T.d_left_fault.F.ok sc_left_fault (fun vs H Q E h => len_left_fault T h) fun cdv A outer s H vs Q E hr h => ⟨t_left_fault T, by
    exact (pss_cons (ps_if (pt_not (pt_val (pe_call (ok_tuple_of T) (hr.mono (by decide)) (by rfl) T.d_tuple_of.g T.d_tuple_of.F.kp T.d_tuple_of.b .nil pass0 (pa_cons (pv 1) (pa_cons (pe_call (ok_shelves_of T) (hr.mono (by decide)) (by rfl) T.d_shelves_of.g T.d_shelves_of.F.kp T.d_shelves_of.b .nil pass0 (pa_cons (pv 0) pa_nil)) pa_nil))))) (pss_one (ps_ret (pe_un un_neg pe_int))) pss_nil) (pss_cons (ps_for PassesOwn.never rfl (pi_enumB true (by rfl) T.m_enumerate (pa_cons (pv 1) pa_nil)) (pg_tup rfl (pgs_cons (pg_name (i := 2) sc_left_fault.nd rfl (Or.inl rfl)) (pgs_cons (pg_name (i := 3) sc_left_fault.nd rfl (Or.inl rfl)) pgs_nil))) (pss_one (ps_if (PW.pt (pw_and (pt_cmpR op_notN (pv 3) pe_non (nomark _)) (pw_and1 (pt_not (pt_val (pe_call (ok_cell_fits T) (hr.mono (by decide)) (by rfl) T.d_cell_fits.g T.d_cell_fits.F.kp T.d_cell_fits.b .nil pass0 (pa_cons (pv 0) (pa_cons (pv 3) pa_nil)))))))) (pss_one (ps_ret (pv 2))) pss_nil))) (pss_one (ps_ret pe_non)))), pure_left_fault T h⟩

def sp_made_left (T : Txt K mg) : Sp := fun vs H Q E => ∃ sh s k x d, vs = [.ref sh, x] ∧ Sh K sh s H ∧ s.Ok ∧ Gd K H k x d ∧ (lefF s d = none → ∀ H', Ex H H' → Q x H') ∧
  ∀ f, lefF s d = some f → ∀ H' dd, Ex H H' → Wh H' dd (.int f) → E (.ref T.c_BadLeft) (some dd) H'
theorem len_made_left (T : Txt K mg) {vs H Q E} (h : sp_made_left T vs H Q E) : vs.length = 2 := by obtain ⟨_, _, _, _, _, rfl, _⟩ := h; rfl
def t_made_left (T : Txt K mg) (E : XK) : TS := (tSeq (tDrop (tCall (sp_made_shape T) [] E (tCons (tVar 0) tNil))) (tSeq (tAsg (tCall (sp_left_fault T) [] E0 (tCons (tVar 0) (tCons (tVar 1) tNil))) (gName 2)) (tSeq (tIfS (tTest (tOp rNotN (tVar 2) (tC .non))) (tRaise E (tMkO T.c_BadLeft (spInit K) [] (tCons (tVar 2) tNil))) tNext) (tRet (tVar 1)))))

theorem pure_made_left (T : Txt K mg) {vs H Q} {E : XK} (h : sp_made_left T vs H Q E) : t_made_left T E { nx := fun _ H' => Q .non H', rt := Q } (L2.start n_made_left vs) H := by
  obtain ⟨sh, s, k, x, d, rfl, S, o, g, qv, qe⟩ := h
  refine ⟨_, rfl, ⟨3, _, shD s, rfl, S.gd o, fun _ H1 e1 => ?_, fun f hf => by rw [fault_ok o] at hf; cases hf⟩⟩
  refine q_asg (ev_call (ea_2 (ev_var rfl) (ev_var rfl)) (v_left_fault T (S.ex e1) (g.ex e1))) fun H2 e2 => ?_
  have t := et_test (ev_notN (ev_var (i := 2) (σ := [some (.ref sh), some x, some (optV (lefF s d))]) (H := H2) rfl))
  rw [optV_non] at t
  refine q_when t (fun c H3 e3 => ?_) (fun c H3 e3 => ?_)
  · cases hf : lefF s d with
    | none => rw [hf] at c; cases c
    | some f => exact s_raise1 (ev_var (v := .int f) rfl) T.o_BadLeft T.n_BadLeft_what fun dd H4 e4 ed => qe f hf H4 dd (((e1.trans e2).trans e3).trans e4) ed
  · have hf : lefF s d = none := by cases h : lefF s d with
      | none => rfl
      | some f => rw [h] at c; cases c
    exact s_ret (ev_var rfl) fun H4 e4 => qv hf H4 (((e1.trans e2).trans e3).trans e4)
theorem ok_made_left (T : Txt K mg) : FnOk P w K mg base (L2.CX P w) 6 T.f_made_left T.fd_made_left ["shape", "thing"] (sp_made_left T) :=
  T.d_made_left.F.okX sc_made_left (fun vs H Q E h => len_made_left T h) fun cdv A outer s H vs Q E hr h => ⟨t_made_left T E, by
    exact (pss_cons (ps_expr (pe_call (ok_made_shape T) (hr.mono (by decide)) (by rfl) T.d_made_shape.g T.d_made_shape.F.kp T.d_made_shape.b .nil (passes_call (takes_of rfl rfl rfl rfl) fun _ _ _ _ h => h) (pa_cons (pv 0) pa_nil))) (pss_cons (ps_set (i := 2) sc_made_left.nd rfl (Or.inl rfl) (pe_call (ok_left_fault T) (hr.mono (by decide)) (by rfl) T.d_left_fault.g T.d_left_fault.F.kp T.d_left_fault.b .nil pass0 (pa_cons (pv 0) (pa_cons (pv 1) pa_nil)))) (pss_cons (ps_if (pt_cmpR op_notN (pv 2) pe_non (nomark _)) (pss_one (ps_raise rfl (takes_of rfl rfl rfl rfl) (pmk_oex T.o_BadLeft T.i_BadLeft T.ti (ok_init T) (hr.mono (by decide)) T.b_init .nil pass0 (by rfl) T.g_BadLeft (pa_cons (pv 2) pa_nil)))) pss_nil) (pss_one (ps_ret (pv 1)))))), pure_made_left T h⟩

/-- the places of None -/
def nonsOf (vs : List V) : List Int := natI ((List.range vs.length).filter fun i => decide (vs.getD i (.int 0) = V.non))
def sp_lost_of (T : Txt K mg) : Sp := fun vs H Q _ => ∃ a xs, vs = [.ref a] ∧ SqT K H a xs ∧ xs.length ≤ 1000 ∧ ∀ t H', H t = none → Ex H H' → H' t = some (.tup ((nonsOf xs).map V.int)) → Q (.ref t) H'
theorem len_lost_of (T : Txt K mg) {vs H Q E} (h : sp_lost_of T vs H Q E) : vs.length = 1 := by obtain ⟨_, _, rfl, _⟩ := h; rfl
def t_lost_of (T : Txt K mg) : TS := (tRet (tCB (rTupOf K) (tCons (tLc (iEnumB true K (tCons (tVar 0) tNil)) (gTup K 2 (gCons (gName 1) (gCons (gName 2) gNil))) (tTest (tOp rIsN (tVar 2) (tC .non))) (tVar 1) [1, 2]) tNil)))

theorem pure_lost_of (T : Txt K mg) {vs H Q} {E : XK} (h : sp_lost_of T vs H Q E) : t_lost_of T { nx := fun _ H' => Q .non H', rt := Q } (L2.start n_lost_of vs) H := by
  obtain ⟨a, xs, rfl, hs, hl, q⟩ := h
  have lc := el_lcE (K := K) (b := true) (σ := [some (.ref a), none, none]) (H := H) (a := a) (xs := xs) (i := 1) (j := 2) (vs := [1, 2]) (ta := tCons (tVar 0) tNil) (t := tTest (tOp rIsN (tVar 2) (tC .non))) (te := tVar 1) (fun i => decide (xs.getD i (.int 0) = V.non)) (fun i => .int (i : Int)) (ea_1 (ev_var rfl)) hs (by omega) (fun x y => rfl)
    (fun m x H1 e hx => by
      have : xs.getD m (.int 0) = x := by rw [List.getD_eq_getElem?_getD, hx]; rfl
      rw [this]
      exact et_test (ev_isN (ev_var rfl))) (fun m x H1 e hx _ => ev_var rfl)
  have eg : given xs.length (fun i => decide (xs.getD i (.int 0) = V.non)) (fun i => .int (i : Int)) = (nonsOf xs).map V.int := by
    unfold given nonsOf natI
    rw [List.map_map]
    rfl
  rw [eg] at lc
  exact eh_tupN lc H (.refl H) _ fun t H1 ht e1 h1 => q t H1 ht e1 h1
theorem ok_lost_of (T : Txt K mg) : FnOk P w K mg base CX0 1 T.f_lost_of T.fd_lost_of ["left"] (sp_lost_of T) :=
  T.d_lost_of.F.ok sc_lost_of (fun vs H Q E h => len_lost_of T h) fun cdv A outer s H vs Q E hr h => ⟨t_lost_of T, by
    exact (pss_one (ps_ret (pe_callTy call_tuple_of (by rfl) T.m_tuple (by decide +kernel) (pa_cons (pe_lc (own := [("shelf", 1), ("cell", 2)]) (g := (gTup K 2 (gCons (gName 1) (gCons (gName 2) gNil)))) (tt := (tTest (tOp rIsN (tVar 2) (tC .non)))) (te := (tVar 1)) rfl sc_lost_of.nd (pi_enumB true (by rfl) T.m_enumerate (pa_cons (pv 0) pa_nil)) (blkOk_by (own := [("shelf", 1), ("cell", 2)]) (N := n_lost_of) (sc := defScope s_lost_of) (by decide +kernel)) (fun _ _ _ _ _ => (pg_tup rfl (pgs_cons (pg_name (i := 1) sc_lost_of.nd rfl (Or.inl rfl)) (pgs_cons (pg_name (i := 2) sc_lost_of.nd rfl (Or.inl rfl)) pgs_nil)))) (fun _ _ _ _ _ => pts_one (pt_cmpR op_isN (pv 2) pe_non (nomark _))) (fun _ _ _ _ _ => (pv 1))) pa_nil)))), pure_lost_of T h⟩

end
end My


set_option maxHeartbeats 1000000
namespace My
open PySem PySem.Spec PyProof.Rows L2 Own LamX
open Evl (Ex RetV)
section
variable {P : Program} {w : World} {K : PySem.W.Frag} {mg : Str → Option Value} {base : Heap}

open Evl
/-! ### the law's draws and its own sums -/
theorem ex_cutX {xs : List V} {te : TE} {tl th : L2.TO} {σ : L2.St} {H : Hp} {lo hi : Option Int} (h : EvX te σ H (PSq K xs)) (hl : ∀ H1, Ex H H1 → ∀ Q : Option Int → Hp → Prop, (∀ H2, Ex H1 H2 → Q lo H2) → tl σ H1 Q)
    (hh : ∀ H1, Ex H H1 → ∀ Q : Option Int → Hp → Prop, (∀ H2, Ex H1 H2 → Q hi H2) → th σ H1 Q) : EvX (tSl (rSlA K) te tl th) σ H (PSq K (cutV xs lo hi)) := fun H1 u Q q =>
  h H1 u _ fun x H2 u2 px => hl H2 (u.trans u2) _ fun H3 u3 => hh H3 ((u.trans u2).trans u3) _ fun H4 u4 => by
    obtain ⟨b, ex, hx⟩ := px
    have hx4 : SqT K H4 b xs := ex_t (u3.trans u4) hx
    exact ⟨b, xs, ex, hx4, fun ⟨h1, h2⟩ => q _ H4 ((u2.trans u3).trans u4) ⟨b, rfl, by rw [cut_whole h1 h2]; exact hx4⟩, fun _ p np => q _ _ (((u2.trans u3).trans u4).trans (Ex.new np)) ⟨p, rfl, st_of upd_same⟩⟩
theorem ex_catX {xs ys : List V} {ta tb : TE} {σ : L2.St} {H : Hp} (ha : EvX ta σ H (PSq K xs)) (hb : EvX tb σ H (PSq K ys)) (hz : xs.length + ys.length ≤ 1000) : EvX (tOp (rCatA K) ta tb) σ H (PSq K (xs ++ ys)) := fun H1 u Q q =>
  ha H1 u _ fun x H2 u2 ⟨b, ex, hx⟩ => hb H2 (u.trans u2) _ fun y H3 u3 ⟨c, ey, hy⟩ => by
    have hx3 : SqT K H3 b xs := ex_t u3 hx
    have U := u2.trans u3
    exact ⟨b, c, xs, ys, ex, ey, hx3, hy, sz_of (by omega), fun z => q _ H3 U ⟨c, rfl, by rw [z]; exact hy⟩, fun _ z => q _ H3 U ⟨b, rfl, by rw [z, List.append_nil]; exact hx3⟩, fun _ _ p np => q _ _ (U.trans (Ex.new np)) ⟨p, rfl, st_of upd_same⟩⟩
theorem xp_none {σ : L2.St} {H : Hp} : ∀ H1, Ex H H1 → ∀ Q : Option Int → Hp → Prop, (∀ H2, Ex H1 H2 → Q none H2) → tNoPart σ H1 Q := fun H1 u Q q => q H1 (.refl H1)
theorem xp_some {σ : L2.St} {H : Hp} {te : TE} {i : Int} (h : Ev te σ H (.int i)) : ∀ H1, Ex H H1 → ∀ Q : Option Int → Hp → Prop, (∀ H2, Ex H1 H2 → Q (some i) H2) → tPart te σ H1 Q := fun H1 u Q q => h H1 u _ fun H2 u2 => ⟨i, rfl, q H2 u2⟩
theorem ex_vX {σ : L2.St} {H : Hp} {i : Nat} {b : Addr} {xs : List V} (e : σ[i]? = some (some (.ref b))) (h : SqT K H b xs) : EvX (tVar i) σ H (PSq K xs) := fun H1 u Q q => ⟨_, e, q _ H1 (.refl H1) ⟨b, rfl, ex_t u h⟩⟩
theorem ex_1X {σ : L2.St} {H : Hp} {te : TE} {v : V} (h : Ev te σ H v) : EvX (tTup (tCons te tNil)) σ H (PSq K [v]) := fun H1 u Q q => h H1 u _ fun H2 u2 => ⟨by show 1 ≤ sizeLine; decide, fun p np => q _ _ (u2.trans (Ex.new np)) ⟨p, rfl, st_of upd_same⟩⟩
def sp_law_with (T : Txt K mg) : Sp := fun vs H Q _ => ∃ (b : Addr) (xs : List V) (i : Nat) (x : V), vs = [.ref b, .int (i : Int), x] ∧ SqT K H b xs ∧ i < xs.length ∧ xs.length ≤ 900 ∧ ∀ c H', Ex H H' → SqT K H' c (xs.set i x) → Q (.ref c) H'
theorem len_law_with (T : Txt K mg) {vs H Q E} (h : sp_law_with T vs H Q E) : vs.length = 3 := by obtain ⟨_, _, _, _, rfl, _⟩ := h; rfl
def t_law_with (T : Txt K mg) : TS := (tRet (tOp (rCatA K) (tOp (rCatA K) (tSl (rSlA K) (tVar 0) tNoPart (tPart (tVar 1))) (tTup (tCons (tVar 2) tNil))) (tSl (rSlA K) (tVar 0) (tPart (tOp rAddI (tVar 1) (tC (.int 1)))) tNoPart)))

theorem pure_law_with (T : Txt K mg) {vs H Q} {E : XK} (h : sp_law_with T vs H Q E) : t_law_with T { nx := fun _ H' => Q .non H', rt := Q } (L2.start n_law_with vs) H := by
  obtain ⟨b, xs, i, x, rfl, hs, hi, hl, q⟩ := h
  have c1 := ex_cutX (K := K) (σ := [some (.ref b), some (.int (i : Int)), some x]) (H := H) (te := tVar 0) (ex_vX rfl hs) xp_none (xp_some (te := tVar 1) (i := (i : Int)) (ev_var rfl))
  rw [cut_lo (by omega)] at c1
  have c3 := ex_cutX (K := K) (σ := [some (.ref b), some (.int (i : Int)), some x]) (H := H) (te := tVar 0) (ex_vX rfl hs) (xp_some (te := tOp rAddI (tVar 1) (tC (.int 1))) (i := ((i + 1 : Nat) : Int)) (ev_is (ev_addI (ev_var (i := 1) rfl) (ev_c (v := .int 1))) (by rw [Int.natCast_add]; rfl))) xp_none
  rw [cut_hi (by omega)] at c3
  refine ex_catX (ex_catX c1 (ex_1X (ev_var (i := 2) (v := x) rfl)) (by simp; omega)) c3 (by simp; omega) H (.refl H) _ fun v H1 e1 ⟨c, ev, hc⟩ => ?_
  subst ev
  refine q c H1 e1 ?_
  have e : xs.set i x = (xs.take i ++ [x]) ++ xs.drop (i + 1) := by
    rw [List.set_eq_take_append_cons_drop, if_pos hi, List.append_assoc]
    rfl
  rw [e]
  exact hc
theorem ok_law_with (T : Txt K mg) : FnOk P w K mg base CX0 1 T.f_law_with T.fd_law_with ["_law_row", "_law_at", "_law_thing"] (sp_law_with T) :=
  T.d_law_with.F.ok sc_law_with (fun vs H Q E h => len_law_with T h) fun cdv A outer s H vs Q E hr h => ⟨t_law_with T, by
    exact (pss_one (ps_ret (pe_op op_catA (pe_op op_catA (pe_slice sl_tupA (pv 0) po_none (po_some (pv 1))) (pe_tup (pa_cons (pv 2) pa_nil))) (pe_slice sl_tupA (pv 0) (po_some (pe_op op_add (pv 1) pe_int)) po_none)))), pure_law_with T h⟩

def sp_law_any_cell (T : Txt K mg) : Sp := fun vs H Q _ => ∃ a sh s, vs = [.ref a, .ref sh] ∧ Src H a ∧ Sh K sh s H ∧ s.Ok ∧ ∀ v H', Up a H H' → Rig K s.p s.w v H' → Q v H'
theorem len_law_any_cell (T : Txt K mg) {vs H Q E} (h : sp_law_any_cell T vs H Q E) : vs.length = 2 := by obtain ⟨_, _, _, rfl, _⟩ := h; rfl
def t_law_any_cell (T : Txt K mg) : TS := (tRet (tCB (rTupOf K) (tCons (tLc (iRng1 (tCons (tOp (rIxT K) (tVar 1) (tC (.int 1))) tNil)) (gName 2) tYes (tCall (sp_law_one T) [] E0 (tCons (tVar 0) (tCons (tLst (tCons (tC (.int 0)) (tCons (tOp rSubI (tOp (rIxT K) (tVar 1) (tC (.int 0))) (tC (.int 1))) (tCons (tCall (sp_law_take T) [] E0 (tCons (tVar 0) (tCons (tOp (rIxT K) (tVar 1) (tC (.int 0))) tNil))) tNil)))) tNil))) [2]) tNil)))

theorem pure_law_any_cell (T : Txt K mg) {vs H Q} {E : XK} (h : sp_law_any_cell T vs H Q E) : t_law_any_cell T { nx := fun _ H' => Q .non H', rt := Q } (L2.start n_law_any_cell vs) H := by
  obtain ⟨a, sh, s, rfl, src, S, o, q⟩ := h
  have p0 := o.p.1; have p1 := o.p.2.1
  have ow := o.w
  have m : Mono a (PInt 0 (s.p - 1)) := mono_int
  refine ss_ret src (es_imp (es_tupX (es_lcE (P := fun _ => PInt 0 (s.p - 1)) (n := s.w) (fun H1 u => sh_w (S.kp (u.kp src)) (ev_var rfl)) (by omega) (fun x => rfl) (fun i H1 u hi => es_one (P := PInt 0 (s.p - 1)) (n := 3) rfl (es_lst (n := 3)
    (ea_consS (es_int (by omega) (by omega)) (ea_consS (es_ev (v := .int (s.p - 1)) (fun H2 u2 => ev_subI (sh_p (S.kp ((u.trans u2).kp src)) (ev_var rfl)) ev_c) fun _ _ => ⟨_, rfl, by omega, by omega⟩)
      (ea_consS (es_take (lo := s.p) (hi := s.p) rfl (es_ev (v := .int s.p) (fun H2 u2 => sh_p (S.kp ((u.trans u2).kp src)) (ev_var rfl)) fun _ _ => ⟨_, rfl, by omega, by omega⟩) (by omega) (by omega)) ea_nilS m) m) m) (by decide) m) (by decide) (by decide) m) fun i => monoK_int) fun i => monoK_int) fun v H1 h => rig_of h) fun v H1 u r => q v H1 u r
theorem ok_law_any_cell (T : Txt K mg) : FnOk P w K mg base CX0 3 T.f_law_any_cell T.fd_law_any_cell ["_law_source", "_law_shape"] (sp_law_any_cell T) :=
  T.d_law_any_cell.F.ok sc_law_any_cell (fun vs H Q E h => len_law_any_cell T h) fun cdv A outer s H vs Q E hr h => ⟨t_law_any_cell T, by
    exact (pss_one (ps_ret (pe_callTy call_tuple_of (by rfl) T.m_tuple (by decide +kernel) (pa_cons (pe_lc (own := [("_law_k", 2)]) (g := (gName 2)) (tt := tYes) (te := (tCall (sp_law_one T) [] E0 (tCons (tVar 0) (tCons (tLst (tCons (tC (.int 0)) (tCons (tOp rSubI (tOp (rIxT K) (tVar 1) (tC (.int 0))) (tC (.int 1))) (tCons (tCall (sp_law_take T) [] E0 (tCons (tVar 0) (tCons (tOp (rIxT K) (tVar 1) (tC (.int 0))) tNil))) tNil)))) tNil)))) rfl sc_law_any_cell.nd (pi_range1 (by rfl) T.m_range (pa_cons (pe_ix ix_tup (pv 1) pe_int (fun _ _ => rfl)) pa_nil)) (blkOk_by (own := [("_law_k", 2)]) (N := n_law_any_cell) (sc := defScope s_law_any_cell) (by decide +kernel)) (fun _ _ _ _ _ => (pg_name (i := 2) sc_law_any_cell.nd rfl (Or.inl rfl))) (fun _ _ _ _ _ => pts_nil) (fun _ _ _ _ _ => (pe_call (ok_law_one T) (hr.mono (by decide)) (by rfl) T.d_law_one.g T.d_law_one.F.kp T.d_law_one.b .nil pass0 (pa_cons (pv 0) (pa_cons (pe_lst (pa_cons pe_int (pa_cons (pe_op op_sub (pe_ix ix_tup (pv 1) pe_int (fun _ _ => rfl)) pe_int) (pa_cons (pe_call (ok_law_take T) (hr.mono (by decide)) (by rfl) T.d_law_take.g T.d_law_take.F.kp T.d_law_take.b .nil pass0 (pa_cons (pv 0) (pa_cons (pe_ix ix_tup (pv 1) pe_int (fun _ _ => rfl)) pa_nil))) pa_nil)))) pa_nil))))) pa_nil)))), pure_law_any_cell T h⟩

def sp_law_sums_by (T : Txt K mg) : Sp := fun vs H Q _ => ∃ sh s ra R, vs = [.ref sh, .ref ra] ∧ Sh K sh s H ∧ s.Ok ∧ MT K ra R H ∧ R.length = s.n ∧ WF s.p s.w R ∧ ∀ t H', H t = none → Ex H H' → MT K t (sumsM s R) H' → Q (.ref t) H'
theorem len_law_sums_by (T : Txt K mg) {vs H Q E} (h : sp_law_sums_by T vs H Q E) : vs.length = 2 := by obtain ⟨_, _, _, _, rfl, _⟩ := h; rfl
theorem v_law_sums_by (T : Txt K mg) {H : Hp} {sh ra : Addr} {s : Shp} {R : Mx} (S : Sh K sh s H) (o : s.Ok) (m : MT K ra R H) (h1 : R.length = s.n) (w : WF s.p s.w R) : SpN (sp_law_sums_by T) [.ref sh, .ref ra] H (fun t H' => MT K t (sumsM s R) H') := fun H1 e Q q E => ⟨sh, s, ra, R, rfl, S.ex e, o, m.ex e, h1, w, q⟩
def t_law_sums_by (T : Txt K mg) : TS := (tSeq (tAsg (tLst tNil) (gName 2)) (tSeq (tFor (iTup K (tOp (rIxT K) (tVar 0) (tC (.int 6)))) (gName 3) (tSeq (tAsg (tLst tNil) (gName 4)) (tSeq (tFor (iRng1 (tCons (tOp (rIxT K) (tVar 0) (tC (.int 1))) tNil)) (gName 5) (tDrop (tBM K "list" rAppend (tVar 4) (tCons (tOp rModI (tCB rInt1 (tCons (tCB (rSum K) (tCons (tLc (iRng1 (tCons (tOp (rIxT K) (tVar 0) (tC (.int 2))) tNil)) (gName 6) tYes (tOp rMulI (tOp (rIxT K) (tVar 3) (tVar 6)) (tOp (rIxT K) (tOp (rIxT K) (tVar 1) (tVar 6)) (tVar 5))) [6]) tNil)) tNil)) (tOp (rIxT K) (tVar 0) (tC (.int 0)))) tNil)))) (tDrop (tBM K "list" rAppend (tVar 2) (tCons (tCB (rTupOf K) (tCons (tVar 4) tNil)) tNil)))))) (tRet (tCB (rTupOf K) (tCons (tVar 2) tNil)))))

theorem MTl.ex {l : Addr} {M : Mx} {H H' : Hp} (e : Ex H H') (h : MTl K l M H) : MTl K l M H' := let ⟨r, h1, h2, h3⟩ := h; ⟨r, e _ _ h1, h2, fun i b hb => ex_t e (h3 i b hb)⟩
theorem pure_law_sums_by (T : Txt K mg) {vs H Q} {E : XK} (h : sp_law_sums_by T vs H Q E) : t_law_sums_by T { nx := fun _ H' => Q .non H', rt := Q } (L2.start n_law_sums_by vs) H := by
  obtain ⟨sh, s, ra, R, rfl, S, o, mt, hR, wf, q⟩ := h
  have p0 := o.p.1; have p1 := o.p.2.1
  have ow := o.w; have on := o.n; have oc : s.t.length ≤ 8 := o.c
  obtain ⟨tb, ⟨trefs, t1, t2, t3⟩, ev6⟩ := sh_t S
  obtain ⟨rrefs, r1, r2, r3⟩ := id mt
  refine q_asgL (xs := []) (el_lst ea_nil (Nat.zero_le _)) fun f H1 hf e1 hfx => ?_
  refine q_forT (ev6 _ _ _ e1 (ev_var rfl)) (ex_t e1 t1) (fun i σ' H' => ∃ (u3 u4 u5 : Option V), σ' = [some (.ref sh), some (.ref ra), some (.ref f), u3, u4, u5, none] ∧ Ex H H' ∧ MTl K f ((sumsM s R).take i) H')
    (fun H2 e2 => ⟨none, none, none, rfl, e1.trans e2, [], e2 _ _ hfx, rfl, fun i b hb => by simp at hb⟩) (fun i σ' H' _ ⟨_, _, _, _, e, _⟩ => ex_t e t1) ?_ ?_
  · rintro i x σ' H2 hx ⟨u3, u4, u5, rfl, e2, ml⟩
    obtain ⟨wb, hwb, rfl⟩ := rf_at hx
    have hi : i < s.t.length := by have := (List.getElem?_eq_some_iff.mp hwb).1; omega
    have wr := wf_row o.t hi
    have hwt := t3 i wb hwb
    have wb0 : ∀ k, 0 ≤ nth (row s.t i) k ∧ nth (row s.t i) k < s.p := fun k => wf_nth o.t (by omega) i k
    have wl : (wsum s (row s.t i) R).length = s.w := len_wsumT
    -- places
    refine q_asgL (xs := []) (el_lst ea_nil (Nat.zero_le _)) fun l H3 hl e3 hlx => ?_
    refine q_forR1 (ea_1 (sh_w (S.ex (e2.trans e3)) (ev_var rfl))) (by omega) (fun k σ' H' => ∃ (u5 : Option V), σ' = [some (.ref sh), some (.ref ra), some (.ref f), some (.ref wb), some (.ref l), u5, none] ∧ Ex H2 H' ∧ H' l = some (.lst (((wsum s (row s.t i) R).take k).map V.int)))
      (fun H4 e4 => ⟨u5, rfl, e3.trans e4, by rw [e4 _ _ hlx]; rfl⟩) ?_ ?_
    · rintro j σ' H4 hj ⟨u5, rfl, e4, hl4⟩
      have hj' : j < s.w := by omega
      have E4 := e2.trans e4
      have inner := el_lcR1 (σ := [some (.ref sh), some (.ref ra), some (.ref f), some (.ref wb), some (.ref l), some (.int (j : Int)), none]) (H := H4) (j := 6) (vs := [6]) (t := tYes) (te := tOp rMulI (tOp (rIxT K) (tVar 3) (tVar 6)) (tOp (rIxT K) (tOp (rIxT K) (tVar 1) (tVar 6)) (tVar 5))) (fun _ => true) (fun x => .int (nth (row s.t i) x * ent R x j)) (ea_1 (sh_n (S.ex E4) (ev_var (i := 0) rfl))) (by omega) (fun x => rfl)
        (fun k H5 e5 hk => et_yes) (fun k H5 e5 hk _ => by
          have hkr : k < rrefs.length := by omega
          have wk := wf_row wf (i := k) (by omega)
          exact ev_mulI (ev_ixT (ev_var rfl) (ev_var rfl) (ex_t (E4.trans e5) hwt) (ints_atI (by omega))) (ev_ixT (ev_ixT (ev_var rfl) (ev_var rfl) (ex_t (E4.trans e5) r1) (atI_nat (refs_at (List.getElem?_eq_getElem hkr)))) (ev_var rfl) (ex_t (E4.trans e5) (r3 k _ (List.getElem?_eq_getElem hkr))) (ints_atI (by omega))) (.inl (by have := wb0 k; exact ⟨by omega, by omega⟩)))
      rw [given_true, Int.toNat_natCast, show (List.range s.n).map (fun k => V.int (nth (row s.t i) k * ent R k j)) = ((List.range s.n).map fun k => nth (row s.t i) k * ent R k j).map V.int by rw [List.map_map]; rfl] at inner
      have sm := ev_sumN (K := K) inner
      rw [sum_range] at sm
      refine s_app hl4 (ev_var rfl) (ev_modI (ev_int1 sm) (sh_p (S.ex E4) (ev_var rfl)) (by omega)) (by rw [List.length_map, List.length_take]; omega) fun H5 e5 => ⟨_, rfl, Ex.mut (e4.trans e5) hl, ?_⟩
      rw [upd_same, List.take_succ_eq_append_getElem (show j < (wsum s (row s.t i) R).length by omega), List.map_append]
      have : (wsum s (row s.t i) R)[j]'(by omega) = sumTo (fun x => nth (row s.t i) x * ent R x j) s.n % s.p := by
        have h1 := nth_wsumT (p := s.p) (w := s.w) (wt := row s.t i) (R := R) (k := s.n) hj'
        unfold nth at h1
        rw [getD_lt (by rw [len_wsumT]; exact hj')] at h1
        exact h1
      rw [this]
      rfl
    · rintro σ' H4 ⟨u5, rfl, e4, hl4⟩
      rw [Int.toNat_natCast, List.take_of_length_le (by omega)] at hl4
      obtain ⟨fr, hf1, hf2, hf3⟩ := MTl.ex e4 ml
      refine s_appH (o := .tup ((wsum s (row s.t i) R).map V.int)) hf1 (ev_var rfl) (eh_tup (ev_var rfl) (sq_of hl4)) (by rw [List.length_map, hf2, List.length_take]; omega) fun np H5 hnp e5 hnpx => ?_
      have npf : np ≠ f := fun z => by rw [z, hf1] at hnp; cases hnp
      have hsl : (sumsM s R).length = s.t.length := len_sumsM
      have kp : Kp H4 (upd H5 f (.lst (fr.map V.ref ++ [.ref np]))) := (Kp.ex e5).trans (.lst (e5 _ _ hf1))
      refine ⟨_, _, _, rfl, Ex.mut ((e2.trans e4).trans e5) hf, fr ++ [np], by rw [upd_same, List.map_append]; rfl, by rw [List.length_append, hf2, List.length_take, List.length_take]; show _ + 1 = _; omega, fun j c hc => ?_⟩
      have ltk : ((sumsM s R).take i).length = i := by rw [List.length_take]; omega
      rcases snoc_at hc with ⟨hj, h⟩ | ⟨hj, h⟩
      · have : row ((sumsM s R).take (i + 1)) j = row ((sumsM s R).take i) j := by rw [row_take (by omega), row_take (by omega)]
        rw [this]
        exact kp.sqT (hf3 j c h)
      · subst h
        rw [hj, hf2, ltk, row_take (Nat.lt_succ_self i), row_sumsM hi]
        exact st_of (by rw [upd_ne npf]; exact hnpx)
  · rintro σ' H2 ⟨u3, u4, u5, rfl, e2, fr, hf1, hf2, hf3⟩
    have tk : (sumsM s R).take (trefs.map V.ref).length = sumsM s R := List.take_of_length_le (by rw [len_sumsM, List.length_map, t2]; exact Nat.le_refl _)
    rw [tk] at hf2 hf3
    exact eh_tup (K := K) (te := tVar 2) (ev_var rfl) (sq_of hf1) H2 (.refl H2) _ fun t H3 ht e3 h3 => q t H3 (fresh_back e2 ht) (e2.trans e3) ⟨fr, st_of h3, hf2, fun i b hb => ex_t e3 (hf3 i b hb)⟩
theorem ok_law_sums_by (T : Txt K mg) : FnOk P w K mg base CX0 1 T.f_law_sums_by T.fd_law_sums_by ["_law_shape", "_law_row"] (sp_law_sums_by T) :=
  T.d_law_sums_by.F.ok sc_law_sums_by (fun vs H Q E h => len_law_sums_by T h) fun cdv A outer s H vs Q E hr h => ⟨t_law_sums_by T, by
    exact (pss_cons (ps_set (i := 2) sc_law_sums_by.nd rfl (Or.inl rfl) (pe_lst pa_nil)) (pss_cons (ps_for PassesOwn.never rfl (pi_tup (pe_ix ix_tup (pv 0) pe_int (fun _ _ => rfl))) (pg_name (i := 3) sc_law_sums_by.nd rfl (Or.inr rfl)) (pss_cons (ps_set (i := 4) sc_law_sums_by.nd rfl (Or.inl rfl) (pe_lst pa_nil)) (pss_cons (ps_for PassesOwn.never rfl (pi_range1 (by rfl) T.m_range (pa_cons (pe_ix ix_tup (pv 0) pe_int (fun _ _ => rfl)) pa_nil)) (pg_name (i := 5) sc_law_sums_by.nd rfl (Or.inr rfl)) (pss_one (ps_expr (pe_bm PySem.F.plainAttrs_list PySem.F.slot_list_append PySem.F.type_list_append mt_append (pv 4) (pa_cons (pe_op op_mod (pe_callTy call_int1 (by rfl) T.m_int (by decide +kernel) (pa_cons (pe_callB (cr_sum rfl) (by rfl) T.m_sum (by decide +kernel) (pa_cons (pe_lc (own := [("_law_x", 6)]) (g := (gName 6)) (tt := tYes) (te := (tOp rMulI (tOp (rIxT K) (tVar 3) (tVar 6)) (tOp (rIxT K) (tOp (rIxT K) (tVar 1) (tVar 6)) (tVar 5)))) rfl sc_law_sums_by.nd (pi_range1 (by rfl) T.m_range (pa_cons (pe_ix ix_tup (pv 0) pe_int (fun _ _ => rfl)) pa_nil)) (blkOk_by (own := [("_law_x", 6)]) (N := n_law_sums_by) (sc := defScope s_law_sums_by) (by decide +kernel)) (fun _ _ _ _ _ => (pg_name (i := 6) sc_law_sums_by.nd rfl (Or.inl rfl))) (fun _ _ _ _ _ => pts_nil) (fun _ _ _ _ _ => (pe_op op_mul (pe_ix ix_tup (pv 3) (pv 6) (fun _ _ => rfl)) (pe_ix ix_tup (pe_ix ix_tup (pv 1) (pv 6) (fun _ _ => rfl)) (pv 5) (fun _ _ => rfl))))) pa_nil)) pa_nil)) (pe_ix ix_tup (pv 0) pe_int (fun _ _ => rfl))) pa_nil))))) (pss_one (ps_expr (pe_bm PySem.F.plainAttrs_list PySem.F.slot_list_append PySem.F.type_list_append mt_append (pv 2) (pa_cons (pe_callTy call_tuple_of (by rfl) T.m_tuple (by decide +kernel) (pa_cons (pv 4) pa_nil)) pa_nil))))))) (pss_one (ps_ret (pe_callTy call_tuple_of (by rfl) T.m_tuple (by decide +kernel) (pa_cons (pv 2) pa_nil)))))), pure_law_sums_by T h⟩

end
end My


set_option maxHeartbeats 1000000
namespace My
open PySem PySem.Spec PyProof.Rows L2 Own LamX
open Evl (Ex RetV)
section
variable {P : Program} {w : World} {K : PySem.W.Frag} {mg : Str → Option Value} {base : Heap}

open Evl
theorem rowD_len {r : List PyData} {w : Nat} {p : Int} (h : r.length ≠ w) : rowD (.tuple r) w p = false := by
  have : decide ((r.length : Int) = (w : Int)) = false := decide_eq_false fun z => h (by omega)
  simp only [rowD, this, Bool.false_and]
theorem rowD_mem {r : List PyData} {w : Nat} {p : Int} (h : ∃ d ∈ r, within d 0 (p - 1) = false) : rowD (.tuple r) w p = false := by
  obtain ⟨d, hd, hb⟩ := h
  have : (r.all fun x => within x 0 (p - 1)) = false := by
    rw [List.all_eq_false]
    exact ⟨d, hd, by rw [hb]; simp⟩
  simp only [rowD, this, Bool.and_false]
theorem cut_rest {n : Nat} {xs : List V} (m : Nat) (h : m ≤ xs.length) (hn : xs.length = n) : cutV xs (some (m : Int)) none = (xs.drop m).take n := by
  rw [cut_hi h, List.take_of_length_le (by rw [List.length_drop]; omega)]
theorem es_restG {a : Addr} {σ : L2.St} {H : Hp} {te th : TE} {k : Nat} {ds : List PyData} (m : Nat) (h : EvS a te σ H (PG K (k + 1) (.tuple ds))) (hi : EvS a th σ H (PInt m m)) (hm : m ≤ ds.length) : EvS a (tSl (rSlA K) te (tPart th) tNoPart) σ H (PG K (k + 1) (.tuple (ds.drop m))) :=
  es_cutG h (cp_some hi) cp_none (ds.drop m) fun xs hx => ⟨m, ds.length, cut_rest m (by omega) hx, by rw [List.take_of_length_le (by rw [List.length_drop]; omega)]⟩
theorem es_firstG {a : Addr} {σ : L2.St} {H : Hp} {te th : TE} {k : Nat} {ds : List PyData} (m : Nat) (h : EvS a te σ H (PG K (k + 1) (.tuple ds))) (hi : EvS a th σ H (PInt m m)) (hm : m ≤ ds.length) : EvS a (tSl (rSlA K) te tNoPart (tPart th)) σ H (PG K (k + 1) (.tuple (ds.take m))) :=
  es_cutG h cp_none (cp_some hi) (ds.take m) fun xs hx => ⟨0, m, by rw [cut_lo (by omega)]; rfl, rfl⟩
theorem es_i {a : Addr} {σ : L2.St} {H : Hp} {i : Nat} : EvS a (tC (.int (i : Int))) σ H (PInt i i) := es_int (Int.le_refl _) (Int.le_refl _)
theorem es_vi {a : Addr} {σ : L2.St} {H : Hp} {j i : Nat} (e : σ[j]? = some (some (.int (i : Int)))) : EvS a (tVar j) σ H (PInt i i) := es_vint e (Int.le_refl _) (Int.le_refl _)
theorem es_gtB {a : Addr} {σ : L2.St} {H : Hp} {te : TE} {lo hi : Int} (h : EvS a te σ H (PInt lo hi)) : EvS a (tCB rInt1 (tCons (tOp rGtI te (tC (.int 0))) tNil)) σ H (PInt 0 1) := fun H1 u Q q => h H1 u _ fun v H2 u2 ⟨i, e, _⟩ => by
  subst e
  exact ⟨i, 0, rfl, rfl, .inr ⟨_, rfl, q _ H2 u2 ⟨_, rfl, by split <;> decide, by split <;> decide⟩⟩⟩
theorem es_eqB {a : Addr} {σ : L2.St} {H : Hp} {te : TE} {lo hi : Int} (h : EvS a te σ H (PInt lo hi)) : EvS a (tCB rInt1 (tCons (tOp rEq te (tC (.int 0))) tNil)) σ H (PInt 0 1) := fun H1 u Q q => h H1 u _ fun v H2 u2 ⟨i, e, _⟩ => by
  subst e
  exact ⟨rfl, .inr ⟨_, rfl, q _ H2 u2 ⟨_, rfl, by split <;> decide, by split <;> decide⟩⟩⟩
/-! ### drawn shapes -/
def sp_law_any_shape (T : Txt K mg) : Sp := fun vs H Q _ => ∃ a, vs = [.ref a] ∧ Src H a ∧ ∀ sh s H', Up a H H' → Sh K sh s H' → s.Ok → Q (.ref sh) H'
theorem len_law_any_shape (T : Txt K mg) {vs H Q E} (h : sp_law_any_shape T vs H Q E) : vs.length = 1 := by obtain ⟨_, rfl, _⟩ := h; rfl
def t_law_any_shape (T : Txt K mg) : TS := (tSeq (tAsg (tTup (tCons (tCall (sp_law_one T) [] E0 (tCons (tVar 0) (tCons (tLst (tCons (tC (.int 5)) (tCons (tC (.int 7)) (tCons (tC (.int 11)) (tCons (tC (.int 31)) (tCons (tC (.int 257)) (tCons (tC (.int 10007)) (tCons (tC (.int 1000003)) tNil)))))))) tNil))) (tCons (tOp rAddI (tC (.int 1)) (tCall (sp_law_take T) [] E0 (tCons (tVar 0) (tCons (tC (.int 8)) tNil)))) tNil))) (gTup K 2 (gCons (gName 1) (gCons (gName 2) gNil)))) (tSeq (tPar3 3 4 5 (tCons (tCall (sp_law_one T) [] E0 (tCons (tVar 0) (tCons (tLst (tCons (tC (.int 1)) (tCons (tC (.int 2)) (tCons (tC (.int 3)) (tCons (tC (.int 16)) (tCons (tOp rAddI (tC (.int 1)) (tCall (sp_law_take T) [] E0 (tCons (tVar 0) (tCons (tC (.int 16)) tNil)))) tNil)))))) tNil))) (tCons (tCall (sp_law_take T) [] E0 (tCons (tVar 0) (tCons (tC (.int 9)) tNil))) (tCons (tLst tNil) tNil)))) (tSeq (tFor (iRng1 (tCons (tVar 4) tNil)) (gName 6) (tDrop (tBM K "list" rAppend (tVar 5) (tCons (tCB (rTupOf K) (tCons (tLc (iRng1 (tCons (tVar 2) tNil)) (gName 9) tYes (tOp rMulI (tCall (sp_law_take T) [] E0 (tCons (tVar 0) (tCons (tVar 1) tNil))) (tCB rInt1 (tCons (tOp rGtI (tCall (sp_law_take T) [] E0 (tCons (tVar 0) (tCons (tC (.int 4)) tNil))) (tC (.int 0))) tNil))) [9]) tNil)) tNil)))) (tSeq (tAsg (tCB rInt1 (tCons (tOp rEq (tCall (sp_law_take T) [] E0 (tCons (tVar 0) (tCons (tC (.int 3)) tNil))) (tC (.int 0))) tNil)) (gName 7)) (tSeq (tAsg (tIf (tTest (tOp rEq (tVar 7) (tC (.int 1)))) (tC (.int 0)) (tCall (sp_law_take T) [] E0 (tCons (tVar 0) (tCons (tC (.int 3)) tNil)))) (gName 8)) (tRet (tTup (tCons (tVar 1) (tCons (tVar 3) (tCons (tVar 2) (tCons (tOp rAddI (tC (.int 1)) (tCall (sp_law_take T) [] E0 (tCons (tVar 0) (tCons (tCB rMin2 (tCons (tVar 2) (tCons (tC (.int 3)) tNil))) tNil)))) (tCons (tVar 8) (tCons (tVar 7) (tCons (tCB (rTupOf K) (tCons (tVar 5) tNil)) tNil))))))))))))))

theorem pure_law_any_shape (T : Txt K mg) {vs H Q} {E : XK} (h : sp_law_any_shape T vs H Q E) : t_law_any_shape T { nx := fun _ H' => Q .non H', rt := Q } (L2.start n_law_any_shape vs) H := by
  obtain ⟨a, rfl, src, q⟩ := h
  have c : ∀ {i : Int} {σ : L2.St} {H : Hp}, Prm i → EvS a (tC (.int i)) σ H PPrm := fun h => es_c fun _ => ⟨_, rfl, h⟩
  refine ss_tupPQ (D := { nx := _, rt := _, bk := _, ct := _ }) src (es_one (P := PPrm) rfl (es_lst (n := 7) (ea_consS (c ⟨by decide, by decide, by decide +kernel⟩) (ea_consS (c ⟨by decide, by decide, by decide +kernel⟩) (ea_consS (c ⟨by decide, by decide, by decide +kernel⟩) (ea_consS (c ⟨by decide, by decide, by decide +kernel⟩) (ea_consS (c ⟨by decide, by decide, by decide +kernel⟩) (ea_consS (c ⟨by decide, by decide, by decide +kernel⟩) (ea_consS (c ⟨by decide, by decide, by decide +kernel⟩) ea_nilS mono_prm) mono_prm) mono_prm) mono_prm) mono_prm) mono_prm) mono_prm) (by decide) mono_prm) (by decide) (by decide) mono_prm)
    (es_add (es_int (lo := 1) (hi := 1) (by decide) (by decide)) (es_take (lo := 8) (hi := 8) rfl (es_int (by decide) (by decide)) (by decide) (by decide))) mono_prm fun x y H1 H2 u1 e1 ⟨p, ex, P⟩ ⟨ni, ey, n0, n1⟩ => ?_
  subst ex ey
  obtain ⟨n, rfl⟩ : ∃ n : Nat, ni = (n : Int) := ⟨ni.toNat, by omega⟩
  have p0 := P.1
  have p1 := P.2.1
  have U2 : Up a H H2 := u1.trans (.ex e1 u1.src)
  have m16 : Mono a (PInt 1 16) := mono_int
  -- wide, many, table
  refine es_one (P := PInt 1 16) (s0 := 0) rfl (es_lst (n := 5) (ea_consS (es_int (by decide) (by decide)) (ea_consS (es_int (by decide) (by decide)) (ea_consS (es_int (by decide) (by decide)) (ea_consS (es_int (by decide) (by decide)) (ea_consS (es_add (es_int (lo := 1) (hi := 1) (by decide) (by decide)) (es_take (lo := 16) (hi := 16) rfl (es_int (by decide) (by decide)) (by decide) (by decide))) ea_nilS m16) m16) m16) m16) m16) (by decide) m16) (by decide) (by decide) m16 H2 (.refl U2.src) _ fun x H3 u3 ⟨wi, ex, w0, w1⟩ => ?_
  subst ex
  obtain ⟨w, rfl⟩ : ∃ n : Nat, wi = (n : Int) := ⟨wi.toNat, by omega⟩
  have U3 := U2.trans u3
  refine es_take (s0 := 0) (a := a) (lo := 9) (hi := 9) rfl (es_int (by decide) (by decide)) (by decide) (by decide) H3 (.refl U3.src) _ fun y H4 u4 ⟨ci, ey, c0, c1⟩ => ?_
  subst ey
  obtain ⟨cn, rfl⟩ : ∃ n : Nat, ci = (n : Int) := ⟨ci.toNat, by omega⟩
  have U4 := U3.trans u4
  refine ⟨Nat.zero_le _, fun l nl => ⟨_, _, _, rfl, ?_⟩⟩
  have e5 : Ex H4 (upd H4 l (.lst [])) := Ex.new nl
  have nl0 : H l = none := up_back U4 (U4.src.new nl) nl
  have la : l ≠ a := U4.src.new nl
  have U5 : Up a H (upd H4 l (.lst [])) := U4.trans (.ex e5 U4.src)
  -- the table's rows
  refine q_forR1 (ea_1 (ev_var rfl)) (by omega) (fun j σ' H' => ∃ (u6 : Option V) (xs : List V), σ' = [some (.ref a), some (.int p), some (.int (n : Int)), some (.int (w : Int)), some (.int (cn : Int)), some (.ref l), u6, none, none, none] ∧ Up a H H' ∧ H' l = some (.lst xs) ∧ xs.length = j ∧ ∀ x ∈ xs, Rig K p n x H')
    (fun H6 e6 => ⟨none, [], rfl, U5.trans (.ex e6 U5.src), by rw [e6 _ _ upd_same], rfl, fun x hx => absurd hx List.not_mem_nil⟩) ?_ ?_
  · rintro j σ' H6 hj ⟨u6, xs, rfl, U6, hl6, hxl, hxr⟩
    refine ss_app (P := Rig K p n) U6.src la hl6 rfl (es_imp (es_tupX (es_lcE (P := fun _ => PInt 0 (p - 1)) (n := n) (fun H7 u7 => ev_var rfl) (by omega) (fun x => rfl) (fun i H7 u7 hi => es_wide (es_mulN (es_take (lo := p) (hi := p) rfl (es_vint rfl (by omega) (by omega)) (by omega) (by omega)) (es_gtB (es_take (lo := 4) (hi := 4) rfl (es_int (by decide) (by decide)) (by decide) (by decide))) (by omega) (by omega)) (Int.le_refl _) (by omega)) fun i => monoK_int) fun i => monoK_int) fun v H7 h => rig_of h) (by omega) fun y H7 u7 ry => ?_
    have hl7 := u7.keep l _ la hl6
    have kl : Kp H7 (upd H7 l (.lst (xs ++ [y]))) := .lst hl7
    refine ⟨_, _, rfl, up_mut (U6.trans u7) la nl0, upd_same, by rw [List.length_append, hxl]; rfl, fun x hx => ?_⟩
    rcases List.mem_append.mp hx with z | z
    · exact monoK_rig x _ _ ((u7.kp U6.src).trans kl) (hxr x z)
    · rw [List.mem_singleton.mp z]; exact monoK_rig y _ _ kl ry
  · rintro σ' H6 ⟨u6, xs, rfl, U6, hl6, hxl, hxr⟩
    have hxl : xs.length = cn := by rw [hxl]; rfl
    -- manner
    refine ss_asg U6.src (es_eqB (es_take (lo := 3) (hi := 3) rfl (es_int (by decide) (by decide)) (by decide) (by decide))) fun v H7 u7 ⟨mi, ev, m0, m1⟩ => ?_
    subst ev
    obtain ⟨m, rfl⟩ : ∃ n : Nat, mi = (n : Int) := ⟨mi.toNat, by omega⟩
    have U7 := U6.trans u7
    -- losses
    have he : EvS a (tIf (tTest (tOp rEq (tVar 7) (tC (.int 1)))) (tC (.int 0)) (tCall (sp_law_take T) [] E0 (tCons (tVar 0) (tCons (tC (.int 3)) tNil)))) [some (.ref a), some (.int p), some (.int (n : Int)), some (.int (w : Int)), some (.int (cn : Int)), some (.ref l), u6, some (.int (m : Int)), none, none] H7 (fun v _ => ∃ e : Nat, v = .int (e : Int) ∧ e ≤ 2 ∧ (m = 1 → e = 0)) := by
      intro H8 u8 Q' q'
      refine et_eqI (ev_var (i := 7) rfl) ev_c H8 (.refl H8) _ fun H9 e9 => ?_
      by_cases z : (m : Int) = 1
      · rw [decide_eq_true z]
        exact q' (.int 0) H9 (.ex e9 u8.src) ⟨0, rfl, by decide, fun _ => rfl⟩
      · rw [decide_eq_false z]
        exact es_take (s0 := 0) (a := a) (lo := 3) (hi := 3) rfl (es_int (by decide) (by decide)) (by decide) (by decide) H9 (.refl (u8.src.ex e9)) Q' fun v H10 u10 ⟨i, ei, i0, i1⟩ => q' v H10 ((Up.ex e9 u8.src).trans u10) ⟨i.toNat, by rw [ei]; congr 1; omega, by omega, fun h => absurd (by omega) z⟩
    refine ss_asg U7.src he fun v H8 u8 ⟨e, ev, e0, em⟩ => ?_
    subst ev
    have U8 := U7.trans u8
    have esK : EvS a (tOp rAddI (tC (.int 1)) (tCall (sp_law_take T) [] E0 (tCons (tVar 0) (tCons (tCB rMin2 (tCons (tVar 2) (tCons (tC (.int 3)) tNil))) tNil)))) [some (.ref a), some (.int p), some (.int (n : Int)), some (.int (w : Int)), some (.int (cn : Int)), some (.ref l), u6, some (.int (m : Int)), some (.int (e : Int)), none] H8 (PInt 1 (min (n : Int) 3)) :=
      es_wide (es_add (es_int (lo := 1) (hi := 1) (by decide) (by decide)) (es_take (s0 := 0) (lo := min (n : Int) 3) (hi := min (n : Int) 3) rfl (es_min (es_vint (lo := (n : Int)) (hi := (n : Int)) rfl (Int.le_refl _) (Int.le_refl _)) (es_int (lo := 3) (hi := 3) (by decide) (by decide))) (by omega) (by omega))) (by omega) (by omega)
    refine ⟨_, rfl, _, rfl, _, rfl, esK H8 (.refl U8.src) _ fun v H9 u9 ⟨ki, ek, k0, k1⟩ => ?_⟩
    subst ek
    obtain ⟨k, rfl⟩ : ∃ n : Nat, ki = (n : Int) := ⟨ki.toNat, by omega⟩
    have U9 := U8.trans u9
    have u69 := (u7.trans u8).trans u9
    have hl9 := u69.keep l _ la hl6
    refine ⟨_, rfl, _, rfl, _, rfl, l, _, rfl, .inl ⟨sq_of hl9, fun tb ntb => ⟨by show 7 ≤ sizeLine; decide, fun sh nsh => ?_⟩⟩⟩
    have kp : Kp H6 (upd H9 tb (.tup xs)) := (u69.kp U6.src).trans (.new ntb)
    obtain ⟨t, M, ev, mt, wf, hM⟩ := mat_of (K := K) (p := p) (w := n) (n := cn) (v := .ref tb) (H := upd H9 tb (.tup xs)) ⟨tb, xs, rfl, st_of upd_same, hxl, fun i x hx => monoK_rig x _ _ kp (hxr x (List.mem_of_getElem? hx))⟩
    injection ev with ev
    subst ev
    refine q sh ⟨p, w, n, k, e, m, M⟩ _ (U9.trans (.ex ((Ex.new ntb).trans (Ex.new nsh)) U9.src)) ⟨tb, st_of ?_, mt.ex (Ex.new nsh)⟩ ⟨P, ⟨by show 1 ≤ w; omega, by show w ≤ 16; omega⟩, ⟨by show 1 ≤ n; omega, by show n ≤ 8; omega⟩, ⟨by show 1 ≤ k; omega, by show k ≤ 3; omega, by show k ≤ n; omega⟩, e0, ⟨by show m ≤ 1; omega, em⟩, by show M.length ≤ 8; omega, wf⟩
    rw [upd_same]
theorem ok_law_any_shape (T : Txt K mg) : FnOk P w K mg base CX0 3 T.f_law_any_shape T.fd_law_any_shape ["_law_source"] (sp_law_any_shape T) :=
  T.d_law_any_shape.F.ok sc_law_any_shape (fun vs H Q E h => len_law_any_shape T h) fun cdv A outer s H vs Q E hr h => ⟨t_law_any_shape T, by
    exact (pss_cons (ps_asg (pe_tup (pa_cons (pe_call (ok_law_one T) (hr.mono (by decide)) (by rfl) T.d_law_one.g T.d_law_one.F.kp T.d_law_one.b .nil pass0 (pa_cons (pv 0) (pa_cons (pe_lst (pa_cons pe_int (pa_cons pe_int (pa_cons pe_int (pa_cons pe_int (pa_cons pe_int (pa_cons pe_int (pa_cons pe_int pa_nil)))))))) pa_nil))) (pa_cons (pe_op op_add pe_int (pe_call (ok_law_take T) (hr.mono (by decide)) (by rfl) T.d_law_take.g T.d_law_take.F.kp T.d_law_take.b .nil pass0 (pa_cons (pv 0) (pa_cons pe_int pa_nil)))) pa_nil))) (pg_tup rfl (pgs_cons (pg_name (i := 1) sc_law_any_shape.nd rfl (Or.inr rfl)) (pgs_cons (pg_name (i := 2) sc_law_any_shape.nd rfl (Or.inl rfl)) pgs_nil)))) (pss_cons (ps_par3 (i := 3) (j := 4) (l := 5) rfl sc_law_any_shape.nd rfl rfl rfl (by decide) (by decide) (by decide) rfl rfl rfl (pa_cons (pe_call (ok_law_one T) (hr.mono (by decide)) (by rfl) T.d_law_one.g T.d_law_one.F.kp T.d_law_one.b .nil pass0 (pa_cons (pv 0) (pa_cons (pe_lst (pa_cons pe_int (pa_cons pe_int (pa_cons pe_int (pa_cons pe_int (pa_cons (pe_op op_add pe_int (pe_call (ok_law_take T) (hr.mono (by decide)) (by rfl) T.d_law_take.g T.d_law_take.F.kp T.d_law_take.b .nil pass0 (pa_cons (pv 0) (pa_cons pe_int pa_nil)))) pa_nil)))))) pa_nil))) (pa_cons (pe_call (ok_law_take T) (hr.mono (by decide)) (by rfl) T.d_law_take.g T.d_law_take.F.kp T.d_law_take.b .nil pass0 (pa_cons (pv 0) (pa_cons pe_int pa_nil))) (pa_cons (pe_lst pa_nil) pa_nil))) (by rfl)) (pss_cons (ps_for PassesOwn.never rfl (pi_range1 (by rfl) T.m_range (pa_cons (pv 4) pa_nil)) (pg_name (i := 6) sc_law_any_shape.nd rfl (Or.inl rfl)) (pss_one (ps_expr (pe_bm PySem.F.plainAttrs_list PySem.F.slot_list_append PySem.F.type_list_append mt_append (pv 5) (pa_cons (pe_callTy call_tuple_of (by rfl) T.m_tuple (by decide +kernel) (pa_cons (pe_lc (own := [("_law_x", 9)]) (g := (gName 9)) (tt := tYes) (te := (tOp rMulI (tCall (sp_law_take T) [] E0 (tCons (tVar 0) (tCons (tVar 1) tNil))) (tCB rInt1 (tCons (tOp rGtI (tCall (sp_law_take T) [] E0 (tCons (tVar 0) (tCons (tC (.int 4)) tNil))) (tC (.int 0))) tNil)))) rfl sc_law_any_shape.nd (pi_range1 (by rfl) T.m_range (pa_cons (pv 2) pa_nil)) (blkOk_by (own := [("_law_x", 9)]) (N := n_law_any_shape) (sc := defScope s_law_any_shape) (by decide +kernel)) (fun _ _ _ _ _ => (pg_name (i := 9) sc_law_any_shape.nd rfl (Or.inl rfl))) (fun _ _ _ _ _ => pts_nil) (fun _ _ _ _ _ => (pe_op op_mul (pe_call (ok_law_take T) (hr.mono (by decide)) (by rfl) T.d_law_take.g T.d_law_take.F.kp T.d_law_take.b .nil pass0 (pa_cons (pv 0) (pa_cons (pv 1) pa_nil))) (pe_callTy call_int1 (by rfl) T.m_int (by decide +kernel) (pa_cons (pe_cmpR op_gt (pe_call (ok_law_take T) (hr.mono (by decide)) (by rfl) T.d_law_take.g T.d_law_take.F.kp T.d_law_take.b .nil pass0 (pa_cons (pv 0) (pa_cons pe_int pa_nil))) pe_int (nomark _)) pa_nil))))) pa_nil)) pa_nil))))) (pss_cons (ps_set (i := 7) sc_law_any_shape.nd rfl (Or.inl rfl) (pe_callTy call_int1 (by rfl) T.m_int (by decide +kernel) (pa_cons (pe_cmpR op_eq (pe_call (ok_law_take T) (hr.mono (by decide)) (by rfl) T.d_law_take.g T.d_law_take.F.kp T.d_law_take.b .nil pass0 (pa_cons (pv 0) (pa_cons pe_int pa_nil))) pe_int (nomark _)) pa_nil))) (pss_cons (ps_set (i := 8) sc_law_any_shape.nd rfl (Or.inl rfl) (pe_ifExp (pt_cmpR op_eq (pv 7) pe_int (nomark _)) pe_int (pe_call (ok_law_take T) (hr.mono (by decide)) (by rfl) T.d_law_take.g T.d_law_take.F.kp T.d_law_take.b .nil pass0 (pa_cons (pv 0) (pa_cons pe_int pa_nil))))) (pss_one (ps_ret (pe_tup (pa_cons (pv 1) (pa_cons (pv 3) (pa_cons (pv 2) (pa_cons (pe_op op_add pe_int (pe_call (ok_law_take T) (hr.mono (by decide)) (by rfl) T.d_law_take.g T.d_law_take.F.kp T.d_law_take.b .nil pass0 (pa_cons (pv 0) (pa_cons (pe_callB (call_min2 rfl) (by rfl) T.m_min (by decide +kernel) (pa_cons (pv 2) (pa_cons pe_int pa_nil))) pa_nil)))) (pa_cons (pv 8) (pa_cons (pv 7) (pa_cons (pe_callTy call_tuple_of (by rfl) T.m_tuple (by decide +kernel) (pa_cons (pv 5) pa_nil)) pa_nil))))))))))))))), pure_law_any_shape T h⟩

/-! ### what is no cell -/
def NC (s : Shp) (d : PyData) : Prop := rowD d s.w s.p = false ∧ isNon d = false
def sp_law_no_cell (T : Txt K mg) : Sp := fun vs H Q _ => ∃ a sh s c, vs = [.ref a, .ref sh, .ref c] ∧ Src H a ∧ Sh K sh s H ∧ s.Ok ∧ SqT K H c ((List.replicate s.w (0 : Int)).map V.int) ∧ ∀ v H', Up a H H' → PBad K 2 (NC s) v H' → Q v H'
theorem len_law_no_cell (T : Txt K mg) {vs H Q E} (h : sp_law_no_cell T vs H Q E) : vs.length = 3 := by obtain ⟨_, _, _, _, rfl, _⟩ := h; rfl
def t_law_no_cell (T : Txt K mg) : TS := (tSeq (tAsg (tLst (tCons (tC (.int 0)) (tCons (tC (.str "cell")) (tCons (tTup tNil) (tCons (tSl (rSlA K) (tVar 2) (tPart (tC (.int 1))) tNoPart) (tCons (tOp (rCatA K) (tVar 2) (tTup (tCons (tC (.int 0)) tNil))) (tCons (tOp (rCatA K) (tTup (tCons (tOp (rIxT K) (tVar 1) (tC (.int 0))) tNil)) (tSl (rSlA K) (tVar 2) (tPart (tC (.int 1))) tNoPart)) (tCons (tOp (rCatA K) (tSl (rSlA K) (tVar 2) (tPart (tC (.int 1))) tNoPart) (tTup (tCons (tUn rNegI (tC (.int 1))) tNil))) (tCons (tOp (rCatA K) (tTup (tCons (tC .non) tNil)) (tSl (rSlA K) (tVar 2) (tPart (tC (.int 1))) tNoPart)) tNil))))))))) (gName 3)) (tRet (tCall (sp_law_one T) [] E0 (tCons (tVar 0) (tCons (tOp rCat (tVar 3) (tLst (tCons (tOp (rCatA K) (tTup (tCons (tTup (tCons (tC (.int 0)) tNil)) tNil)) (tSl (rSlA K) (tVar 2) (tPart (tC (.int 1))) tNoPart)) (tCons (tOp (rCatA K) (tSl (rSlA K) (tVar 2) (tPart (tC (.int 1))) tNoPart) (tTup (tCons (tC (.str "0")) tNil))) tNil)))) tNil)))))

theorem pure_law_no_cell (T : Txt K mg) {vs H Q} {E : XK} (h : sp_law_no_cell T vs H Q E) : t_law_no_cell T { nx := fun _ H' => Q .non H', rt := Q } (L2.start n_law_no_cell vs) H := by
  obtain ⟨a, sh, s, c, rfl, src, S, o, hc, q⟩ := h
  have p0 := o.p.1; have p1 := o.p.2.1
  have ow := o.w
  generalize hz : List.replicate s.w (0 : Int) = zs at hc
  have zl : zs.length = s.w := by rw [← hz]; simp
  have gz : ∀ {H' : Hp}, Up a H H' → Gd K H' 1 (.ref c) (.tuple (zs.map PyData.int)) := fun u => gd_ints (u.sqT src hc) (by omega) fun x hx => by rw [← hz] at hx; rw [(List.mem_replicate.mp hx).2]; decide
  have dl : (zs.map PyData.int).length = s.w := by rw [List.length_map, zl]
  have vC : ∀ {σ : L2.St} {H' : Hp}, σ[2]? = some (some (.ref c)) → Up a H H' → EvS a (tVar 2) σ H' (PG K 1 (.tuple (zs.map PyData.int))) := fun e u => es_varG e (gz u) u.src
  have vR : ∀ {σ : L2.St} {H' : Hp}, σ[2]? = some (some (.ref c)) → Up a H H' → EvS a (tSl (rSlA K) (tVar 2) (tPart (tC (.int 1))) tNoPart) σ H' (PG K 1 (.tuple ((zs.map PyData.int).drop 1))) := fun e u => es_restG 1 (vC e u) es_i (by omega)
  have bd : ∀ {k : Nat} {d : PyData} {te : TE} {σ : L2.St} {H' : Hp}, EvS a te σ H' (PG K k d) → k ≤ 2 → rowD d s.w s.p = false → isNon d = false → EvS a te σ H' (PBad K 2 (NC s)) := fun h hk h1 h2 => es_bad (es_upG h hk) ⟨h1, h2⟩
  have lr : ((zs.map PyData.int).drop 1).length = s.w - 1 := by rw [List.length_drop, dl]
  have mk : MonoK (PBad K 2 (NC s)) := monoK_bad
  have neg : ∀ {σ : L2.St} {H' : Hp}, EvS a (tUn rNegI (tC (.int 1))) σ H' (PG K 0 (.int (-1))) := es_evG (v := .int (-1)) (fun H1 u => ev_neg1) fun H1 u => gd_int (by decide)
  have one : ∀ {σ : L2.St} {H' : Hp}, σ[1]? = some (some (.ref sh)) → Up a H H' → EvS a (tOp (rIxT K) (tVar 1) (tC (.int 0))) σ H' (PG K 0 (.int s.p)) := fun e u => es_evG (v := .int s.p) (fun H1 u1 => sh_p (S.kp ((u.trans u1).kp src)) (ev_var e)) fun H1 u1 => gd_int (by omega)
  have U0 : Up a H H := .refl src
  refine ss_asg src (es_lst (n := 8) (P := PBad K 2 (NC s))
    (ea_consS (bd (es_intG (by decide)) (by decide) rfl rfl)
    (ea_consS (bd (es_strG (by decide +kernel)) (by decide) rfl rfl)
    (ea_consS (bd es_tup0G (by decide) (rowD_len (by simp; omega)) rfl)
    (ea_consS (bd (vR rfl U0) (by decide) (rowD_len (by omega)) rfl)
    (ea_consS (bd (es_catG (vC rfl U0) (es_tup1G (es_intG (by decide))) (by rw [dl]; show s.w + 1 ≤ 20; omega)) (by decide) (rowD_len (by rw [List.length_append, dl]; show s.w + 1 ≠ s.w; omega)) rfl)
    (ea_consS (bd (es_catG (es_tup1G (one rfl U0)) (vR rfl U0) (by rw [lr]; show 1 + _ ≤ 20; omega)) (by decide) (rowD_mem ⟨.int s.p, List.mem_append.mpr (.inl List.mem_cons_self), by simp [within]; omega⟩) rfl)
    (ea_consS (bd (es_catG (vR rfl U0) (es_tup1G neg) (by rw [lr]; show _ + 1 ≤ 20; omega)) (by decide) (rowD_mem ⟨.int (-1), List.mem_append.mpr (.inr List.mem_cons_self), by simp [within]⟩) rfl)
    (ea_consS (bd (es_catG (es_tup1G es_nonG) (vR rfl U0) (by rw [lr]; show 1 + _ ≤ 20; omega)) (by decide) (rowD_mem ⟨.none, List.mem_append.mpr (.inl List.mem_cons_self), rfl⟩) rfl)
    ea_nilS mk.up) mk.up) mk.up) mk.up) mk.up) mk.up) mk.up) mk.up) (by decide) mk.up) fun v H1 u1 ⟨sl, xs, ev, na, hx, hl, hp⟩ => ?_
  subst ev
  refine ss_ret u1.src (es_one (P := PBad K 2 (NC s)) (n := 8 + 2) rfl (es_catL (n := 8) (k := 2) (es_var rfl fun H2 u2 => ⟨sl, xs, rfl, na, u2.keep sl _ na hx, hl, fun x hx' => mk x _ _ (u2.kp u1.src) (hp x hx')⟩) (es_lst (n := 2)
    (ea_consS (bd (es_catG (k := 1) (es_tup1G (es_tup1G (es_intG (by decide)))) (es_upG (vR rfl u1) (by decide)) (by rw [lr]; show 1 + _ ≤ 20; omega)) (by decide) (rowD_mem ⟨.tuple [.int 0], List.mem_append.mpr (.inl List.mem_cons_self), rfl⟩) rfl)
    (ea_consS (bd (es_catG (vR rfl u1) (es_tup1G (es_strG (x := "0") (by decide +kernel))) (by rw [lr]; show _ + 1 ≤ 20; omega)) (by decide) (rowD_mem ⟨.str "0", List.mem_append.mpr (.inr List.mem_cons_self), rfl⟩) rfl)
    ea_nilS mk.up) mk.up) (by decide) mk.up) mk (by decide)) (by decide) (by decide) mk.up) fun v H2 u2 p => q v H2 (u1.trans u2) p
theorem ok_law_no_cell (T : Txt K mg) : FnOk P w K mg base CX0 3 T.f_law_no_cell T.fd_law_no_cell ["_law_source", "_law_shape", "_law_cell"] (sp_law_no_cell T) :=
  T.d_law_no_cell.F.ok sc_law_no_cell (fun vs H Q E h => len_law_no_cell T h) fun cdv A outer s H vs Q E hr h => ⟨t_law_no_cell T, by
    exact (pss_cons (ps_set (i := 3) sc_law_no_cell.nd rfl (Or.inl rfl) (pe_lst (pa_cons pe_int (pa_cons pe_str (pa_cons (pe_tup pa_nil) (pa_cons (pe_slice sl_tupA (pv 2) (po_some pe_int) po_none) (pa_cons (pe_op op_catA (pv 2) (pe_tup (pa_cons pe_int pa_nil))) (pa_cons (pe_op op_catA (pe_tup (pa_cons (pe_ix ix_tup (pv 1) pe_int (fun _ _ => rfl)) pa_nil)) (pe_slice sl_tupA (pv 2) (po_some pe_int) po_none)) (pa_cons (pe_op op_catA (pe_slice sl_tupA (pv 2) (po_some pe_int) po_none) (pe_tup (pa_cons (pe_un un_neg pe_int) pa_nil))) (pa_cons (pe_op op_catA (pe_tup (pa_cons pe_non pa_nil)) (pe_slice sl_tupA (pv 2) (po_some pe_int) po_none)) pa_nil)))))))))) (pss_one (ps_ret (pe_call (ok_law_one T) (hr.mono (by decide)) (by rfl) T.d_law_one.g T.d_law_one.F.kp T.d_law_one.b .nil pass0 (pa_cons (pv 0) (pa_cons (pe_op op_cat (pv 3) (pe_lst (pa_cons (pe_op op_catA (pe_tup (pa_cons (pe_tup (pa_cons pe_int pa_nil)) pa_nil)) (pe_slice sl_tupA (pv 2) (po_some pe_int) po_none)) (pa_cons (pe_op op_catA (pe_slice sl_tupA (pv 2) (po_some pe_int) po_none) (pe_tup (pa_cons pe_str pa_nil))) pa_nil)))) pa_nil)))))), pure_law_no_cell T h⟩

end
end My


set_option maxHeartbeats 1000000
namespace My
open PySem PySem.Spec PyProof.Rows L2 Own LamX
open Evl (Ex RetV)
section
variable {P : Program} {w : World} {K : PySem.W.Frag} {mg : Str → Option Value} {base : Heap}

open Evl
/-! ### spoilt rows, spoilt left stripes -/
/-- b: whether None may stand there -/
def okB (b : Bool) (s : Shp) (d : PyData) : Bool := (b && isNon d) || rowD d s.w s.p
def fstB (g : PyData → Bool) : Nat → List PyData → Option Int
  | _, [] => none
  | i, d :: ds => if g d then fstB g (i + 1) ds else some (i : Int)
def fltB (b : Bool) (s : Shp) (n : Nat) (d : PyData) : Option Int := if isLen d n then (match d with | .tuple ds => fstB (okB b s) 0 ds | _ => none) else some (-1)
theorem fstB_cells {s : Shp} : ∀ (ds : List PyData) (i : Nat), cellsF s.w s.p i ds = fstB (okB false s) i ds
  | [], _ => rfl
  | d :: ds, i => by
    unfold cellsF fstB
    rw [fstB_cells ds (i + 1)]
    simp [okB]
theorem fstB_left {s : Shp} : ∀ (ds : List PyData) (i : Nat), cellsN s.w s.p i ds = fstB (okB true s) i ds
  | [], _ => rfl
  | d :: ds, i => by
    unfold cellsN fstB
    rw [fstB_left ds (i + 1)]
    simp [okB]
theorem rowF_flt {s : Shp} {d : PyData} : rowF s d = fltB false s s.n d := by
  unfold rowF fltB
  split
  · cases d <;> first | rfl | exact fstB_cells _ _
  · rfl
theorem lefF_flt {s : Shp} {d : PyData} : lefF s d = fltB true s (s.c + s.n) d := by
  unfold lefF fltB
  rw [Int.natCast_add]
  split
  · cases d <;> first | rfl | exact fstB_left _ _
  · rfl
theorem fstB_at {g : PyData → Bool} : ∀ {es : List PyData} {i k : Nat} {d : PyData}, (∀ j, j < i → ∀ e, es[j]? = some e → g e = true) → es[i]? = some d → g d = false → fstB g k es = some ((k + i : Nat) : Int)
  | [], _, _, _, _, h, _ => by simp at h
  | e :: es, 0, k, d, _, h, hd => by
    simp at h
    subst h
    unfold fstB
    rw [if_neg (by rw [hd]; simp)]
    rfl
  | e :: es, i + 1, k, d, hj, h, hd => by
    unfold fstB
    rw [if_pos (hj 0 (by omega) e rfl), fstB_at (es := es) (i := i) (k := k + 1) (fun j hlt x hx => hj (j + 1) (by omega) x (by simpa using hx)) (by simpa using h) hd]
    congr 2
    omega
theorem flt_len {b : Bool} {s : Shp} {n : Nat} {d : PyData} (h : isLen d n = false) : fltB b s n d = some (-1) := by unfold fltB; rw [h]; rfl
theorem gdAll_set {H : Hp} {k i : Nat} {x : V} {d : PyData} : ∀ {vs : List V} {ds : List PyData}, GdAll K H k vs ds → Gd K H k x d → GdAll K H k (vs.set i x) (ds.set i d) := by
  induction i with
  | zero => intro vs ds h g; cases h with
    | nil => exact .nil
    | cons _ t => exact .cons g t
  | succ i ih => intro vs ds h g; cases h with
    | nil => exact .nil
    | cons h t => exact .cons h (ih t g)
theorem gdAll_rep {H : Hp} {k : Nat} {x : V} {d : PyData} (g : Gd K H k x d) : ∀ n, GdAll K H k (List.replicate n x) (List.replicate n d)
  | 0 => .nil
  | n + 1 => .cons g (gdAll_rep g n)
theorem es_tup2P {a : Addr} {σ : L2.St} {H : Hp} {te tb : TE} {P1 P2 : VP} (m1 : MonoK P1) (m2 : MonoK P2) (h : EvS a te σ H P1) (h2 : EvS a tb σ H P2) : EvS a (tTup (tCons te (tCons tb tNil))) σ H (fun v H' => ∃ b x y, v = .ref b ∧ SqT K H' b [x, y] ∧ P1 x H' ∧ P2 y H') := fun H1 u Q q =>
  h H1 u _ fun v H2 u2 g => h2 H2 (u.trans u2) _ fun w H3 u3 g2 => ⟨by show 2 ≤ sizeLine; decide, fun p np => q _ _ ((u2.trans u3).trans (.ex (Ex.new np) u3.src)) ⟨p, v, w, rfl, st_of upd_same, m1 _ _ _ (.new np) (m1 _ _ _ (u3.kp u2.src) g), m2 _ _ _ (.new np) g2⟩⟩
theorem es_ofHU {a : Addr} {P : VP} {o : HO} {te : TE} {σ : L2.St} {H : Hp} (h : ∀ H1, Up a H H1 → EvH te σ H1 o) (i : ∀ p H1, Up a H H1 → H1 p = some o → P (.ref p) H1) : EvS a te σ H P := fun H1 u Q q => h H1 u H1 (.refl H1) _ fun p H2 _ e2 hp => q _ H2 (.ex e2 u.src) (i p H2 (u.trans (.ex e2 u.src)) hp)
/-- the spoilt thing, as far as it is: right ahead of i, wrong there -/
structure Bent (K : PySem.W.Frag) (b : Bool) (s : Shp) (n i : Nat) (c : Addr) (H : Hp) : Prop where
  ex : ∃ ys es, SqT K H c ys ∧ GdAll K H 2 ys es ∧ ys.length = n ∧ es.length = n ∧ (∀ j, j < i → ∀ e, es[j]? = some e → okB b s e = true) ∧ ∃ d, es[i]? = some d ∧ okB b s d = false
theorem Bent.kp {b : Bool} {s : Shp} {n i : Nat} {c : Addr} {H H' : Hp} (e : Kp H H') (h : Bent K b s n i c H) : Bent K b s n i c H' := let ⟨ys, es, h1, h2, h3⟩ := h.ex; ⟨ys, es, e.sqT h1, h2.kp e, h3⟩
theorem bent_set {b : Bool} {s : Shp} {n i : Nat} {c : Addr} {H : Hp} {xs : List V} {ds : List PyData} {x : V} {d : PyData} (hc : SqT K H c (xs.set i x)) (g : GdAll K H 2 xs ds) (gx : Gd K H 2 x d) (hx : xs.length = n) (hd : ds.length = n) (hi : i < n) (hok : ∀ d ∈ ds, okB b s d = true) (hb : okB b s d = false) : Bent K b s n i c H :=
  ⟨_, _, hc, gdAll_set g gx, by rw [List.length_set, hx], by rw [List.length_set, hd], fun j hj e he => by
    rw [List.getElem?_set, if_neg (by omega)] at he
    exact hok e (List.mem_of_getElem? he), d, by rw [List.getElem?_set, if_pos rfl, if_pos (by omega)], hb⟩
def sp_law_spoilt (T : Txt K mg) : Sp := fun vs H Q _ => ∃ a sh s ra ds b, vs = [.ref a, .ref sh, .ref ra, .bl b] ∧ Src H a ∧ Sh K sh s H ∧ s.Ok ∧ Gd K H 2 (.ref ra) (.tuple ds) ∧ 0 < ds.length ∧ ds.length ≤ 16 ∧ (∀ d ∈ ds, okB b s d = true) ∧
  ∀ t x f d H', Up a H H' → SqT K H' t [x, .int f] → Gd K H' 3 x d → fltB b s ds.length d = some f → Q (.ref t) H'
theorem len_law_spoilt (T : Txt K mg) {vs H Q E} (h : sp_law_spoilt T vs H Q E) : vs.length = 4 := by obtain ⟨_, _, _, _, _, _, rfl, _⟩ := h; rfl
def t_law_spoilt (T : Txt K mg) : TS := (tSeq (tPar 4 5 (tCons (tCall (sp_law_take T) [] E0 (tCons (tVar 0) (tCons (tC (.int 6)) tNil))) (tCons (tCB (rLenV K) (tCons (tVar 2) tNil)) tNil))) (tSeq (tIfS (tTest (tOp rEq (tVar 4) (tC (.int 0)))) (tRet (tTup (tCons (tCall (sp_law_one T) [] E0 (tCons (tVar 0) (tCons (tLst (tCons (tC .non) (tCons (tC (.int 5)) (tCons (tC (.str "row")) (tCons (tSl (rSlA K) (tVar 2) (tPart (tC (.int 1))) tNoPart) (tCons (tOp (rCatA K) (tVar 2) (tTup (tCons (tOp (rIxT K) (tVar 2) (tC (.int 0))) tNil))) (tCons (tOp (rTimes0 K) (tTup (tCons (tVar 2) tNil)) (tOp rAddI (tVar 5) (tC (.int 1)))) (tCons (tTup tNil) tNil)))))))) tNil))) (tCons (tUn rNegI (tC (.int 1))) tNil)))) tNext) (tSeq (tPar 6 7 (tCons (tCall (sp_law_take T) [] E0 (tCons (tVar 0) (tCons (tVar 5) tNil))) (tCons (tCall (sp_law_take T) [] E0 (tCons (tVar 0) (tCons (tVar 5) tNil))) tNil))) (tSeq (tAsg (tCB (rTupOf K) (tCons (tLc (iRng1 (tCons (tOp (rIxT K) (tVar 1) (tC (.int 1))) tNil)) (gName 10) tYes (tC (.int 0)) [10]) tNil)) (gName 8)) (tSeq (tAsg (tCall (sp_law_with T) [] E0 (tCons (tVar 2) (tCons (tVar 6) (tCons (tCall (sp_law_no_cell T) [] E0 (tCons (tVar 0) (tCons (tVar 1) (tCons (tVar 8) tNil)))) tNil)))) (gName 9)) (tSeq (tIfS (tAnd (tNot (tB (tVar 3))) (tTest (tOp rEq (tVar 4) (tC (.int 1))))) (tAsg (tCall (sp_law_with T) [] E0 (tCons (tVar 2) (tCons (tVar 6) (tCons (tC .non) tNil)))) (gName 9)) tNext) (tSeq (tIfS (tTest (tOp rGtI (tVar 7) (tVar 6))) (tAsg (tCall (sp_law_with T) [] E0 (tCons (tVar 9) (tCons (tVar 7) (tCons (tCall (sp_law_no_cell T) [] E0 (tCons (tVar 0) (tCons (tVar 1) (tCons (tVar 8) tNil)))) tNil)))) (gName 9)) tNext) (tRet (tTup (tCons (tVar 9) (tCons (tVar 6) tNil)))))))))))

theorem pure_law_spoilt (T : Txt K mg) {vs H Q} {E : XK} (h : sp_law_spoilt T vs H Q E) : t_law_spoilt T { nx := fun _ H' => Q .non H', rt := Q } (L2.start n_law_spoilt vs) H := by
  obtain ⟨a, sh, s, ra, ds, b, rfl, src, S, o, g, l0, l16, hok, q⟩ := h
  have ow := o.w
  obtain ⟨ra', xs, j, er, ej, hs, hl, _, ga, fx, hx⟩ := id g.tup
  injection er with er
  subst er
  obtain rfl : j = 1 := by omega
  have G1 : GdAll K H 1 xs ds := gdAll_dp ga fx
  have S' : ∀ {H' : Hp}, Up a H H' → Sh K sh s H' := fun u => S.kp (u.kp src)
  have hs' : ∀ {H' : Hp}, Up a H H' → SqT K H' ra xs := fun u => u.sqT src hs
  have g' : ∀ {H' : Hp}, Up a H H' → Gd K H' 2 (.ref ra) (.tuple ds) := fun u => g.kp (u.kp src)
  refine ss_parPQ (D := { nx := _, rt := _, bk := _, ct := _ }) src (es_take (lo := 6) (hi := 6) rfl (es_int (by decide) (by decide)) (by decide) (by decide)) (es_ev (P := PInt ds.length ds.length) (v := .int (xs.length : Int)) (fun H1 u => ev_lenT (ev_var rfl) (hs' u)) fun _ _ => ⟨_, rfl, by omega, by omega⟩) mono_int fun x y H1 u1 ⟨wi, ex, w0, w1⟩ ⟨mi, ey, m0, m1⟩ => ?_
  subst ex ey
  obtain rfl : mi = (ds.length : Int) := by omega
  refine q_when (et_eqI (ev_var rfl) ev_c) (fun c H2 e2 => ?_) (fun c H2 e2 => ?_)
  · -- what has another length, or is no tuple
    have U2 := u1.trans (.ex e2 u1.src)
    have bd : ∀ {k : Nat} {d : PyData} {te : TE} {σ : L2.St} {H' : Hp}, EvS a te σ H' (PG K k d) → k ≤ 3 → isLen d ds.length = false → EvS a te σ H' (PBad K 3 fun d => fltB b s ds.length d = some (-1)) := fun h hk hl => es_bad (es_upG h hk) (flt_len hl)
    have vR : EvS a (tVar 2) [some (.ref a), some (.ref sh), some (.ref ra), some (.bl b), some (.int wi), some (.int (ds.length : Int)), none, none, none, none, none] H2 (PG K 2 (.tuple ds)) := es_varG rfl (g' U2) U2.src
    obtain ⟨d0, hd0, g0⟩ := hx 0 xs[0] (List.getElem?_eq_getElem (by omega))
    have mk : MonoK (PBad K 3 fun d => fltB b s ds.length d = some (-1)) := monoK_bad
    refine ss_ret U2.src (es_tup2P (K := K) monoK_bad (monoK_g (K := K) (k := 0) (d := .int (-1))) (es_one (P := PBad K 3 fun d => fltB b s ds.length d = some (-1)) (n := 7) rfl (es_lst (n := 7)
      (ea_consS (bd es_nonG (by decide) rfl) (ea_consS (bd (es_intG (by decide)) (by decide) rfl) (ea_consS (bd (es_strG (by decide +kernel)) (by decide) rfl)
      (ea_consS (bd (es_restG 1 vR es_i (by omega)) (by decide) (by simp [isLen]; omega))
      (ea_consS (bd (es_catG vR (es_tup1G (es_evG (v := xs[0]) (fun H3 u3 => ev_ixT (ev_var rfl) ev_c (hs' (U2.trans u3)) (atI_nat (j := 0) (List.getElem?_eq_getElem (by omega)))) fun H3 u3 => g0.kp ((U2.trans u3).kp src))) (by show ds.length + 1 ≤ 20; omega)) (by decide) (by simp [isLen]; omega))
      (ea_consS (bd (k := 3) (d := .tuple (List.replicate (ds.length + 1) (.tuple ds))) (es_ofHU (o := .tup (List.replicate (ds.length + 1) (.ref ra))) (fun H3 u3 => eh_rep0 (ev_var rfl) (ev_is (ev_addI (ev_var (i := 5) rfl) (ev_c (v := .int 1))) (by rw [Int.natCast_add]; rfl)) (by omega)) fun p H3 u3 hp => gd_tup (st_of hp) (gdAll_rep (g' (U2.trans u3)) _) (by rw [List.length_replicate]; omega)) (by decide) (by simp [isLen]; omega))
      (ea_consS (bd es_tup0G (by decide) (by simp [isLen]; omega)) ea_nilS mk.up) mk.up) mk.up) mk.up) mk.up) mk.up) mk.up) (by decide) mk.up) (by decide) (by decide) mk.up) (es_evG (v := .int (-1)) (fun H1 u => ev_neg1) fun H1 u => gd_int (by decide))) fun v H3 u3 ⟨t, x, y, ev, ht, ⟨d, gd, hf⟩, gy⟩ => ?_
    subst ev
    obtain rfl : y = .int (-1) := by cases gy.dp; rfl
    exact q t x (-1) d H3 (U2.trans u3) ht gd hf
  · have U2 := u1.trans (.ex e2 u1.src)
    refine ss_parPQ (D := { nx := _, rt := _, bk := _, ct := _ }) U2.src (es_take (lo := (ds.length : Int)) (hi := (ds.length : Int)) rfl (es_vint rfl (Int.le_refl _) (Int.le_refl _)) (by omega) (by omega)) (es_take (lo := (ds.length : Int)) (hi := (ds.length : Int)) rfl (es_vint rfl (Int.le_refl _) (Int.le_refl _)) (by omega) (by omega)) mono_int fun x y H3 u3 ⟨fi, ex, f0, f1⟩ ⟨li, ey, i0, i1⟩ => ?_
    subst ex ey
    obtain ⟨i, rfl⟩ : ∃ n : Nat, fi = (n : Int) := ⟨fi.toNat, by omega⟩
    obtain ⟨j, rfl⟩ : ∃ n : Nat, li = (n : Int) := ⟨li.toNat, by omega⟩
    have U3 := U2.trans u3
    -- the cell of noughts
    have lc := el_lcR1 (σ := [some (.ref a), some (.ref sh), some (.ref ra), some (.bl b), some (.int wi), some (.int (ds.length : Int)), some (.int (i : Int)), some (.int (j : Int)), none, none, none]) (H := H3) (j := 10) (vs := [10]) (t := tYes) (te := tC (.int 0)) (fun _ => true) (fun _ => .int 0) (ea_1 (sh_w (S' U3) (ev_var (i := 1) rfl))) (by omega) (fun x => rfl) (fun k H2 e2 hk => et_yes) (fun k H2 e2 hk _ => ev_c)
    rw [given_true, Int.toNat_natCast, show (List.range s.w).map (fun _ => V.int 0) = (List.replicate s.w (0 : Int)).map V.int by rw [List.map_replicate]; exact List.eq_replicate_iff.mpr ⟨by simp, fun x hx => by obtain ⟨_, _, rfl⟩ := List.mem_map.mp hx; rfl⟩] at lc
    refine eh_tupN lc H3 (.refl H3) _ fun ce H4 hce e4 hcx => ?_
    have U4 := U3.trans (.ex e4 U3.src)
    have hc' : ∀ {H' : Hp}, Up a H4 H' → SqT K H' ce ((List.replicate s.w (0 : Int)).map V.int) := fun u => u.sqT U4.src (st_of hcx)
    have hi : i < ds.length := by omega
    have hj : j < ds.length := by omega
    -- bad = with(row, first, ..)
    refine ⟨_, rfl, _, rfl, ⟨_, rfl, _, rfl, _, rfl, a, sh, s, ce, rfl, U4.src, S' U4, o, hc' (.refl U4.src), fun v H5 u5 ⟨d1, g1, n1, n2⟩ => ⟨ra, xs, i, v, rfl, hs' (U4.trans u5), by omega, by omega, fun c9 H6 e6 h9 => ?_⟩⟩⟩
    have U5 := U4.trans u5
    have U6 := U5.trans (.ex e6 U5.src)
    have B6 : Bent K b s ds.length i c9 H6 := bent_set h9 ((G1.kp (U6.kp src)).up (by decide)) (g1.ex e6) hl rfl hi hok (by unfold okB; rw [n1, n2, Bool.and_false]; rfl)
    dsimp only
    refine q_split (fun σ' H' => ∃ c9, σ' = [some (.ref a), some (.ref sh), some (.ref ra), some (.bl b), some (.int wi), some (.int (ds.length : Int)), some (.int (i : Int)), some (.int (j : Int)), some (.ref ce), some (.ref c9), none] ∧ Up a H4 H' ∧ Bent K b s ds.length i c9 H') ?_ (fun KK => ?_)
    · rintro σ' H7 ⟨c9, rfl, u7, B7⟩
      have U7 := U4.trans u7
      refine q_split (fun σ' H' => ∃ c9, σ' = [some (.ref a), some (.ref sh), some (.ref ra), some (.bl b), some (.int wi), some (.int (ds.length : Int)), some (.int (i : Int)), some (.int (j : Int)), some (.ref ce), some (.ref c9), none] ∧ Up a H4 H' ∧ Bent K b s ds.length i c9 H') ?_ (fun KK => ?_)
      · rintro σ' H8 ⟨c9, rfl, u8, B8⟩
        have U8 := U4.trans u8
        obtain ⟨ys, es, h1, h2, h3, h4, h5, d, h6, h7⟩ := B8.ex
        refine ⟨_, rfl, _, rfl, by show 2 ≤ sizeLine; decide, fun t nt => ?_⟩
        refine q t (.ref c9) i (.tuple es) _ (U8.trans (.ex (Ex.new nt) U8.src)) (st_of upd_same) (gd_tup (ex_t (Ex.new nt) h1) (h2.kp (.new nt)) (by omega)) ?_
        unfold fltB
        rw [if_pos (by simp [isLen, h4])]
        have := fstB_at (k := 0) h5 h6 h7
        rw [Nat.zero_add] at this
        exact this
      · refine s_when (ev_gtI (ev_var rfl) (ev_var rfl)) (fun c H8 e8 => ?_) (fun c H8 e8 => KK _ _ ⟨c9, rfl, u7.trans (.ex e8 u7.src), B7.kp (.ex e8)⟩)
        have hji : (i : Int) < j := of_decide_eq_true c
        have u8 := u7.trans (.ex e8 u7.src)
        have U8 := U4.trans u8
        refine ⟨_, rfl, _, rfl, ⟨_, rfl, _, rfl, _, rfl, a, sh, s, ce, rfl, U8.src, S' U8, o, hc' u8, fun v H9 u9 ⟨d2, g2, n1, n2⟩ => ?_⟩⟩
        obtain ⟨ys, es, h1, h2, h3, h4, h5, d, h6, h7⟩ := (B7.kp (.ex e8)).ex
        refine ⟨c9, ys, j, v, rfl, u9.sqT U8.src h1, by omega, by omega, fun c10 H10 e10 h10 => KK _ _ ⟨c10, rfl, (u8.trans u9).trans (.ex e10 u9.src), ⟨_, _, h10, gdAll_set (h2.kp ((u9.kp U8.src).trans (.ex e10))) (g2.ex e10), by rw [List.length_set, h3], by rw [List.length_set, h4], fun k hk e he => ?_, d, ?_, h7⟩⟩⟩
        · rw [List.getElem?_set, if_neg (by omega)] at he
          exact h5 k hk e he
        · rw [List.getElem?_set, if_neg (by omega)]
          exact h6
    · have u6 := u5.trans (.ex e6 u5.src)
      refine s_when (et_and (et_not (et_B (ev_var rfl))) fun _ => et_eqI (ev_var rfl) ev_c) (fun c H7 e7 => ?_) (fun c H7 e7 => KK _ _ ⟨c9, rfl, u6.trans (.ex e7 u6.src), B6.kp (.ex e7)⟩)
      have hb : b = false := by cases b with
        | false => rfl
        | true => cases c
      subst hb
      have U7 := U6.trans (.ex e7 U6.src)
      refine ⟨_, rfl, _, rfl, ⟨ra, xs, i, .non, rfl, hs' U7, by omega, by omega, fun c10 H8 e8 h10 => KK _ _ ⟨c10, rfl, (u6.trans (.ex e7 u6.src)).trans (.ex e8 (u6.src.ex e7)), bent_set h10 ((G1.kp ((U7.kp src).trans (.ex e8))).up (by decide)) (gd_non.up (by decide)) hl rfl hi hok rfl⟩⟩⟩
theorem ok_law_spoilt (T : Txt K mg) : FnOk P w K mg base CX0 4 T.f_law_spoilt T.fd_law_spoilt ["_law_source", "_law_shape", "_law_row", "_law_nones"] (sp_law_spoilt T) :=
  T.d_law_spoilt.F.ok sc_law_spoilt (fun vs H Q E h => len_law_spoilt T h) fun cdv A outer s H vs Q E hr h => ⟨t_law_spoilt T, by
    exact (pss_cons (ps_par (i := 4) (j := 5) rfl sc_law_spoilt.nd rfl rfl (by decide) rfl rfl (pa_cons (pe_call (ok_law_take T) (hr.mono (by decide)) (by rfl) T.d_law_take.g T.d_law_take.F.kp T.d_law_take.b .nil pass0 (pa_cons (pv 0) (pa_cons pe_int pa_nil))) (pa_cons (pe_callB call_len (by rfl) T.m_len (by decide +kernel) (pa_cons (pv 2) pa_nil)) pa_nil)) (by rfl)) (pss_cons (ps_if (pt_cmpR op_eq (pv 4) pe_int (nomark _)) (pss_one (ps_ret (pe_tup (pa_cons (pe_call (ok_law_one T) (hr.mono (by decide)) (by rfl) T.d_law_one.g T.d_law_one.F.kp T.d_law_one.b .nil pass0 (pa_cons (pv 0) (pa_cons (pe_lst (pa_cons pe_non (pa_cons pe_int (pa_cons pe_str (pa_cons (pe_slice sl_tupA (pv 2) (po_some pe_int) po_none) (pa_cons (pe_op op_catA (pv 2) (pe_tup (pa_cons (pe_ix ix_tup (pv 2) pe_int (fun _ _ => rfl)) pa_nil))) (pa_cons (pe_op op_times0 (pe_tup (pa_cons (pv 2) pa_nil)) (pe_op op_add (pv 5) pe_int)) (pa_cons (pe_tup pa_nil) pa_nil)))))))) pa_nil))) (pa_cons (pe_un un_neg pe_int) pa_nil))))) pss_nil) (pss_cons (ps_par (i := 6) (j := 7) rfl sc_law_spoilt.nd rfl rfl (by decide) rfl rfl (pa_cons (pe_call (ok_law_take T) (hr.mono (by decide)) (by rfl) T.d_law_take.g T.d_law_take.F.kp T.d_law_take.b .nil pass0 (pa_cons (pv 0) (pa_cons (pv 5) pa_nil))) (pa_cons (pe_call (ok_law_take T) (hr.mono (by decide)) (by rfl) T.d_law_take.g T.d_law_take.F.kp T.d_law_take.b .nil pass0 (pa_cons (pv 0) (pa_cons (pv 5) pa_nil))) pa_nil)) (by rfl)) (pss_cons (ps_set (i := 8) sc_law_spoilt.nd rfl (Or.inl rfl) (pe_callTy call_tuple_of (by rfl) T.m_tuple (by decide +kernel) (pa_cons (pe_lc (own := [("_law_k", 10)]) (g := (gName 10)) (tt := tYes) (te := (tC (.int 0))) rfl sc_law_spoilt.nd (pi_range1 (by rfl) T.m_range (pa_cons (pe_ix ix_tup (pv 1) pe_int (fun _ _ => rfl)) pa_nil)) (blkOk_by (own := [("_law_k", 10)]) (N := n_law_spoilt) (sc := defScope s_law_spoilt) (by decide +kernel)) (fun _ _ _ _ _ => (pg_name (i := 10) sc_law_spoilt.nd rfl (Or.inl rfl))) (fun _ _ _ _ _ => pts_nil) (fun _ _ _ _ _ => pe_int)) pa_nil))) (pss_cons (ps_set (i := 9) sc_law_spoilt.nd rfl (Or.inl rfl) (pe_call (ok_law_with T) (hr.mono (by decide)) (by rfl) T.d_law_with.g T.d_law_with.F.kp T.d_law_with.b .nil pass0 (pa_cons (pv 2) (pa_cons (pv 6) (pa_cons (pe_call (ok_law_no_cell T) (hr.mono (by decide)) (by rfl) T.d_law_no_cell.g T.d_law_no_cell.F.kp T.d_law_no_cell.b .nil pass0 (pa_cons (pv 0) (pa_cons (pv 1) (pa_cons (pv 8) pa_nil)))) pa_nil))))) (pss_cons (ps_if (PW.pt (pw_and (pt_not (pt_val (pv 3))) (pw_and1 (pt_cmpR op_eq (pv 4) pe_int (nomark _))))) (pss_one (ps_set (i := 9) sc_law_spoilt.nd rfl (Or.inl rfl) (pe_call (ok_law_with T) (hr.mono (by decide)) (by rfl) T.d_law_with.g T.d_law_with.F.kp T.d_law_with.b .nil pass0 (pa_cons (pv 2) (pa_cons (pv 6) (pa_cons pe_non pa_nil)))))) pss_nil) (pss_cons (ps_if (pt_cmpR op_gt (pv 7) (pv 6) (nomark _)) (pss_one (ps_set (i := 9) sc_law_spoilt.nd rfl (Or.inl rfl) (pe_call (ok_law_with T) (hr.mono (by decide)) (by rfl) T.d_law_with.g T.d_law_with.F.kp T.d_law_with.b .nil pass0 (pa_cons (pv 9) (pa_cons (pv 7) (pa_cons (pe_call (ok_law_no_cell T) (hr.mono (by decide)) (by rfl) T.d_law_no_cell.g T.d_law_no_cell.F.kp T.d_law_no_cell.b .nil pass0 (pa_cons (pv 0) (pa_cons (pv 1) (pa_cons (pv 8) pa_nil)))) pa_nil)))))) pss_nil) (pss_one (ps_ret (pe_tup (pa_cons (pv 9) (pa_cons (pv 6) pa_nil)))))))))))), pure_law_spoilt T h⟩

end
end My


set_option maxHeartbeats 1000000
namespace My
open PySem PySem.Spec PyProof.Rows L2 Own LamX
open Evl (Ex RetV)
section
variable {P : Program} {w : World} {K : PySem.W.Frag} {mg : Str → Option Value} {base : Heap}

open Evl
/-! ### what a call's refusal is heard as -/
/-- what the wish is of an error that leaves the lambda -/
def EHeard (T : Txt K mg) (Q : VK) : XK := fun cls dd H' => ∃ (isRow : Bool) (d0 : Addr) (f : Int), cls = .ref (if isRow then T.c_BadRow else T.c_BadLeft) ∧ dd = some d0 ∧ Wh H' d0 (.int f) ∧
  ∀ l H'', H' l = none → Ex H' H'' → H'' l = some (.lst [.str "refused", .bl isRow, .bl (!isRow), .int f]) → Q (.ref l) H''
def THeard (T : Txt K mg) : (XK → Hp → VK → Prop) → Hp → VK → Prop := fun tl H Q => tl (EHeard T Q) H Q
theorem takes_len {X : Cx} {W : WX} (tk : Takes X W) : Takes X (fun cls d σ H => σ.length = X.N.length → W cls d σ H) :=
  fun u s' ⟨a, B, sI, pins, σ, H, cls, d, e, I, nb, up, sky, na, os, ag, w⟩ => tk u s' ⟨a, B, sI, pins, σ, H, cls, d, e, I, nb, up, sky, na, os, ag, w I.len⟩
theorem two_st {σ : L2.St} (h : σ.length = 2) : ∃ x y, σ = [x, y] := by
  match σ, h with
  | [x, y], _ => exact ⟨x, y, rfl⟩
def suite0 (T : Txt K mg) (a : Addr) (cls : Value) (d : Option Addr) : TS := (tRet (tLst (tCons (tC (.str "refused")) (tCons (tCB (rIsD K T.c_BadRow a cls d) (tCons (tVar 1) (tCons (tC (.ref T.c_BadRow)) tNil))) (tCons (tCB (rIsD K T.c_BadRow a cls d) (tCons (tVar 1) (tCons (tC (.ref T.c_BadLeft)) tNil))) (tCons (tXf a cls d T.c_BadRow "what" (tVar 1)) tNil))))))
def suite1 (T : Txt K mg) (a : Addr) (cls : Value) (d : Option Addr) : TS := (tRet (tLst (tCons (tC (.str "refused")) (tCons (tCB (rIsD K T.c_BadLeft a cls d) (tCons (tVar 1) (tCons (tC (.ref T.c_BadRow)) tNil))) (tCons (tCB (rIsD K T.c_BadLeft a cls d) (tCons (tVar 1) (tCons (tC (.ref T.c_BadLeft)) tNil))) (tCons (tXf a cls d T.c_BadLeft "what" (tVar 1)) tNil))))))
theorem suite_heard (T : Txt K mg) {Q : VK} {cls : Value} {dd : Option Addr} {H : Hp} {b : Addr} {u : Option V} {D : Ends} (h : EHeard T Q cls dd H) (hD : D.rt = Q) : suite0 T b cls dd D [u, some (.ref b)] H ∨ suite1 T b cls dd D [u, some (.ref b)] H := by
  obtain ⟨isRow, d0, f, rfl, rfl, hd, q⟩ := h
  subst hD
  cases isRow with
  | true =>
    refine .inl ?_
    have t1 : Ev (tCB (rIsD K T.c_BadRow b (.ref T.c_BadRow) (some d0)) (tCons (tVar 1) (tCons (tC (.ref T.c_BadRow)) tNil))) [u, some (.ref b)] H (.bl true) := fun H5 e5 Qv qv => ⟨_, rfl, rfl, .ref T.c_BadRow, .ref T.c_BadRow, true, d0, _, rfl, .own _, T.ki_BadRow_BadRow, rfl, e5 d0 _ hd.choose_spec, qv H5 (Ex.refl H5)⟩
    have t2 : Ev (tCB (rIsD K T.c_BadRow b (.ref T.c_BadRow) (some d0)) (tCons (tVar 1) (tCons (tC (.ref T.c_BadLeft)) tNil))) [u, some (.ref b)] H (.bl false) := fun H5 e5 Qv qv => ⟨_, rfl, rfl, .ref T.c_BadLeft, .ref T.c_BadLeft, false, d0, _, rfl, .own _, T.ki_BadRow_BadLeft, rfl, e5 d0 _ hd.choose_spec, qv H5 (Ex.refl H5)⟩
    have t3 : Ev (tXf b (.ref T.c_BadRow) (some d0) T.c_BadRow "what" (tVar 1)) [u, some (.ref b)] H (.int f) := fun H5 e5 Qv qv => ⟨_, rfl, rfl, rfl, d0, _, .int f, rfl, e5 d0 _ hd.choose_spec, by rfl, qv H5 (Ex.refl H5)⟩
    exact s_retL (el_lst (ea_4 (ev_c (v := .str "refused")) t1 t2 t3) (by show 4 ≤ 100000; decide)) fun p H1 hp e1 h1 => q p H1 hp e1 h1
  | false =>
    refine .inr ?_
    have t1 : Ev (tCB (rIsD K T.c_BadLeft b (.ref T.c_BadLeft) (some d0)) (tCons (tVar 1) (tCons (tC (.ref T.c_BadRow)) tNil))) [u, some (.ref b)] H (.bl false) := fun H5 e5 Qv qv => ⟨_, rfl, rfl, .ref T.c_BadRow, .ref T.c_BadRow, false, d0, _, rfl, .own _, T.ki_BadLeft_BadRow, rfl, e5 d0 _ hd.choose_spec, qv H5 (Ex.refl H5)⟩
    have t2 : Ev (tCB (rIsD K T.c_BadLeft b (.ref T.c_BadLeft) (some d0)) (tCons (tVar 1) (tCons (tC (.ref T.c_BadLeft)) tNil))) [u, some (.ref b)] H (.bl true) := fun H5 e5 Qv qv => ⟨_, rfl, rfl, .ref T.c_BadLeft, .ref T.c_BadLeft, true, d0, _, rfl, .own _, T.ki_BadLeft_BadLeft, rfl, e5 d0 _ hd.choose_spec, qv H5 (Ex.refl H5)⟩
    have t3 : Ev (tXf b (.ref T.c_BadLeft) (some d0) T.c_BadLeft "what" (tVar 1)) [u, some (.ref b)] H (.int f) := fun H5 e5 Qv qv => ⟨_, rfl, rfl, rfl, d0, _, .int f, rfl, e5 d0 _ hd.choose_spec, by rfl, qv H5 (Ex.refl H5)⟩
    exact s_retL (el_lst (ea_4 (ev_c (v := .str "refused")) t1 t2 t3) (by show 4 ≤ 100000; decide)) fun p H1 hp e1 h1 => q p H1 hp e1 h1
theorem gives_law_heard {X : Cx} (T : Txt X.K X.mg) (cdg : Value) (q : Str) : GivesTo X n_law_heard "_law_heard" (defScope s_law_heard) T.f_law_heard cdg (defBody s_law_heard) "_law_call" q (THeard T) := by
  intro f c' s H Q tl act hc h
  refine ⟨_, pss_one (ps_try_named (X := (cxOf C8.CX0 X.prog X.w X.K X.mg X.base n_law_heard "_law_heard" (defScope s_law_heard) T.f_law_heard cdg X.A X.stack s H C8.E0).nox) (n := "error") (i := 1)
    (tb := fun W D σ H => ∃ Ech : XK, (∀ cls d σ' H', Ech cls d H' → σ'.length = 2 → W cls d σ' H') ∧ σ[0]? = some (some (.ref f)) ∧ H c' = some (CodeO c' q) ∧ tl Ech H D.rt) (out := fun _ _ _ _ => False)
    (cs := [(.ref T.c_Refused, fun a cls d D σ H => suite0 T a cls d D σ H ∨ suite1 T a cls d D σ H)]) rfl rfl sc_law_heard.nd rfl rfl L2.takes0 (fun W pn xe tk xp => ?_)
    (.cons ⟨by rfl, by decide, Or.inl T.g_Refused⟩ (fun a oe cls d pn hz hf => pss_alt (t := suite0 T a cls d) (u := suite1 T a cls d) (pss_one (ps_ret (pe_lst (pa_cons pe_str (pa_cons (pe_callB (call_isD T.e_BadRow hz hf) (by rfl) T.m_isinstance (by decide +kernel) (pa_cons (pv 1) (pa_cons (pe_glob (v := .ref T.c_BadRow) (by rfl) T.g_BadRow rfl) pa_nil))) (pa_cons (pe_callB (call_isD T.e_BadRow hz hf) (by rfl) T.m_isinstance (by decide +kernel) (pa_cons (pv 1) (pa_cons (pe_glob (v := .ref T.c_BadLeft) (by rfl) T.g_BadLeft rfl) pa_nil))) (pa_cons (pe_xf T.x_BadRow T.n_BadRow_what.1 hz hf (pv 1)) pa_nil))))))) (pss_one (ps_ret (pe_lst (pa_cons pe_str (pa_cons (pe_callB (call_isD T.e_BadLeft hz hf) (by rfl) T.m_isinstance (by decide +kernel) (pa_cons (pv 1) (pa_cons (pe_glob (v := .ref T.c_BadRow) (by rfl) T.g_BadRow rfl) pa_nil))) (pa_cons (pe_callB (call_isD T.e_BadLeft hz hf) (by rfl) T.m_isinstance (by decide +kernel) (pa_cons (pv 1) (pa_cons (pe_glob (v := .ref T.c_BadLeft) (by rfl) T.g_BadLeft rfl) pa_nil))) (pa_cons (pe_xf T.x_BadLeft T.n_BadLeft_what.1 hz hf (pv 1)) pa_nil)))))))) .nil)), ?_⟩
  · refine ⟨fun pins s' σ H' D I h' => ?_⟩
    obtain ⟨Ech, hW, h1, h2, h3⟩ := h'
    exact (pss_one (ps_ret (act _ pn xe Ech _ _ (takes_len tk) hW))).run pins s' σ H' D I ⟨h1, h2, h3⟩
  · refine ⟨EHeard T Q, fun cls d σ' H' hE hl => ?_, rfl, hc, h⟩
    obtain ⟨x, y, rfl⟩ := two_st hl
    obtain ⟨isRow, d0, fl, rfl, rd, hd, qq⟩ := id hE
    refine ⟨true, (by cases isRow with
      | false => exact T.te_BadLeft_Refused
      | true => exact T.te_BadRow_Refused), fun _ b nb => ?_, fun z => by cases z⟩
    exact suite_heard T hE rfl
end
end My


set_option maxHeartbeats 1000000
namespace My
open PySem PySem.Spec PyProof.Rows L2 Own LamX
open Evl (Ex RetV)
section
variable {P : Program} {w : World} {K : PySem.W.Frag} {mg : Str → Option Value} {base : Heap}

open Evl
/-! ### heaps whose tables of code objects may grow -/
structure UpT (a : Addr) (H H' : Hp) : Prop where
  keep : ∀ b o, b ≠ a → H b = some o → (∀ ps, o ≠ .tbl ps) → H' b = some o
  src : Src H' a
section
variable {a : Addr} {H H1 H2 : Hp}
theorem UpT.of (u : Up a H H1) : UpT a H H1 := ⟨fun b o nb h _ => u.keep b o nb h, u.src⟩
theorem UpT.trans (u : UpT a H H1) (v : UpT a H1 H2) : UpT a H H2 := ⟨fun b o nb h n => v.keep b o nb (u.keep b o nb h n) n, v.src⟩
theorem src_extN (s : Src H a) (e : ExtN H H1) : Src H1 a := let ⟨x, y, h, r⟩ := s; ⟨x, y, e _ _ h (fun _ z => by cases z), r⟩
theorem UpT.extN (s : Src H a) (e : ExtN H H1) : UpT a H H1 := ⟨fun b o _ h n => e b o h n, src_extN s e⟩
theorem UpT.kp (u : UpT a H H1) (s : Src H a) : Kp H H1 := fun b o h n => u.keep b o (s.at h n.l) h n.t
theorem UpT.lst (u : UpT a H H1) {l : Addr} {xs : List V} (nl : l ≠ a) (h : H l = some (.lst xs)) : H1 l = some (.lst xs) := u.keep l _ nl h fun _ z => by cases z
theorem kp_extN (e : ExtN H H1) : Kp H H1 := fun b o h n => e b o h n.t
theorem tabs_up {T : List (Addr × Str)} (t : Tabs T H) (u : Up a H H1) (s : Src H a) : Tabs T H1 := fun p hp => by
  obtain ⟨ps, h1, h2, h3⟩ := t p hp
  refine ⟨ps, u.keep _ _ (s.at h1 fun _ z => by cases z) h1, h2, fun pos cv hc => ?_⟩
  obtain ⟨c, e1, e2⟩ := h3 pos cv hc
  exact ⟨c, e1, u.keep _ _ (s.at e2 fun _ z => by unfold CodeO at z; cases z) e2⟩
end
theorem fstB_bd {g : PyData → Bool} {f : Int} : ∀ {es : List PyData} {k : Nat}, fstB g k es = some f → (k : Int) ≤ f ∧ f < k + es.length
  | [], _, h => by cases h
  | e :: es, k, h => by
    unfold fstB at h
    split at h
    · have := fstB_bd h
      simp only [List.length_cons]
      omega
    · injection h with h
      simp only [List.length_cons]
      omega
theorem fltB_bd {b : Bool} {s : Shp} {n : Nat} {d : PyData} {f : Int} (h : fltB b s n d = some f) (hn : n ≤ 16) : f.natAbs < 2 ^ 64 := by
  unfold fltB at h
  split at h
  · rename_i c
    obtain ⟨ds, rfl, hl⟩ := isLen_tuple c
    have := fstB_bd (show fstB (okB b s) 0 ds = some f from h)
    omega
  · injection h with h
    omega
/-- what is heard, against what is due -/
theorem heard_ne {σ : L2.St} {H : Hp} {a : Addr} {T : Txt K mg} {isRow : Bool} {f : Int} {te : TE} {tb : XK → TE} (hT : Tabs T.tabs H) (src : Src H a) (hf : f.natAbs < 2 ^ 64) (he : ∀ H1, Ev te σ H1 (.int f))
    (hb : ∀ H1, ExtN H H1 → Tabs T.tabs H1 → ∀ (Qv : VK) (E : XK), (∀ dd H2, Ex H1 H2 → Wh H2 dd (.int f) → E (.ref (if isRow then T.c_BadRow else T.c_BadLeft)) (some dd) H2) → tb E σ H1 Qv) {Q : Bool → Hp → Prop} (q : ∀ H', UpT a H H' → Tabs T.tabs H' → Q false H') :
    tTest (tOp (rNeD K) (tLam T.tabs (THeard T) tb) (tLst (tCons (tC (.str "refused")) (tCons (tC (.bl isRow)) (tCons (tC (.bl (!isRow))) (tCons te tNil)))))) σ H Q := by
  refine ⟨hT, fun H1 eN hT1 => hb H1 eN hT1 _ _ fun dd H2 e2 ed => ⟨isRow, dd, f, rfl, rfl, ed, fun l H3 nl e3 hl => ?_⟩⟩
  refine el_lst (vs := [.str "refused", .bl isRow, .bl (!isRow), .int f]) (ea_4 (ev_c (v := .str "refused")) (ev_c (v := .bl isRow)) (ev_c (v := .bl (!isRow))) (he H3)) (by show 4 ≤ 100000; decide) H3 (.refl H3) _ fun p H4 hp e4 h4 => ?_
  have dpA : DpAll K H4 [.str "refused", .bl isRow, .bl (!isRow), .int f] [.str "refused", .bool isRow, .bool (!isRow), .int f] := .cons (.str _) (.cons (.bl _) (.cons (.bl _) (.cons (.int _) .nil)))
  have fn : ∀ d ∈ ([.str "refused", .bool isRow, .bool (!isRow), .int f] : List PyData), fine 0 d = true := fun d hd => by
    simp only [List.mem_cons, List.not_mem_nil, or_false] at hd
    rcases hd with rfl | rfl | rfl | rfl
    · decide +kernel
    · rfl
    · rfl
    · exact decide_eq_true hf
  have U : UpT a H H4 := (UpT.extN src eN).trans (UpT.of (.ex ((e2.trans e3).trans e4) (src_extN src eN)))
  refine ⟨_, _, .lst (sq_of (e4 _ _ hl)) dpA, .lst (sq_of h4) dpA, shaped_list (k := 0) (by decide) fn, shaped_list (k := 0) (by decide) fn, ?_⟩
  rw [SeqAt.eqv_refl (.list [.str "refused", .bool isRow, .bool (!isRow), .int f]) (by simpa only [PyData.canLay0] using fine_layAll _ 0 fn)]
  exact ⟨false, rfl, q H4 U (hT1.ext ((e2.trans e3).trans e4))⟩
/-! ### rows -/
theorem ex_catG2 {σ : L2.St} {H : Hp} {ta tb : TE} {k : Nat} {ds es : List PyData} (h : EvX ta σ H (PG K (k + 1) (.tuple ds))) (h2 : EvX tb σ H (PG K (k + 1) (.tuple es))) (hz : ds.length + es.length ≤ 20) : EvX (tOp (rCatA K) ta tb) σ H (PG K (k + 1) (.tuple (ds ++ es))) := fun H1 u Q q =>
  h H1 u _ fun v H2 u2 g => h2 H2 (u.trans u2) _ fun w H3 u3 g2 => by
    have g1 : Gd K H3 (k + 1) v (.tuple ds) := Gd.ex u3 g
    have g2 : Gd K H3 (k + 1) w (.tuple es) := g2
    obtain ⟨b, xs, j, rfl, e1, hx, lx, _, ax, fx, _⟩ := g1.tup
    obtain ⟨c, ys, j2, rfl, e2, hy, ly, _, ay, fy, _⟩ := g2.tup
    have ej : k = j := by omega
    have ej2 : k = j2 := by omega
    subst ej ej2
    refine ⟨b, c, xs, ys, rfl, rfl, hx, hy, sz_of (by omega), fun z => ?_, fun _ z => ?_, fun _ _ p np => q _ _ ((u2.trans u3).trans (Ex.new np)) ?_⟩
    · have : ds = [] := List.eq_nil_of_length_eq_zero (by rw [← lx, z]; rfl)
      subst this
      exact q _ _ (u2.trans u3) g2
    · have : es = [] := List.eq_nil_of_length_eq_zero (by rw [← ly, z]; rfl)
      subst this
      rw [List.append_nil] at *
      exact q _ _ (u2.trans u3) g1
    · exact gd_tup (st_of upd_same) (((gdAll_dp ax fx).app (gdAll_dp ay fy)).kp (.new np)) (by rw [List.length_append]; omega)
theorem ex_of {σ : L2.St} {H : Hp} {te : TE} {v : V} {k : Nat} {d : PyData} (h : Ev te σ H v) (g : Gd K H k v d) : EvX te σ H (PG K k d) := fun H1 e Q q => h H1 e _ fun H2 e2 => q v H2 e2 (g.ex (e.trans e2))
theorem ex_showG {σ : L2.St} {H : Hp} {te : TE} {k : Nat} {d : PyData} (h : EvX te σ H (PG K k d)) (hk : k ≤ 4) : Ev (tCB (rShow K) (tCons te tNil)) σ H (.str d.shown) := ev_showX h (fun v H' _ p => p) hk
theorem wf_sums {s : Shp} {R : Mx} (hp : 0 < s.p) (w : WF s.p s.w R) : WF s.p s.w (sumsM s R) := fun r hr => wf_stripeM hp w r (List.mem_append_left _ hr)
theorem v_made_row (T : Txt K mg) {H : Hp} {sh : Addr} {s : Shp} {k : Nat} {x : V} {d : PyData} (S : Sh K sh s H) (o : s.Ok) (g : Gd K H k x d) (hf : rowF s d = none) : SpV (sp_made_row T) [.ref sh, x] H x := spv fun H1 e Q q E => ⟨sh, s, k, x, d, rfl, S.ex e, o, g.ex e, fun _ => q, fun f hf' => by rw [hf] at hf'; cases hf'⟩
/-- sums(shape, row), stripe(shape, row) of a right row, as data -/
theorem ex_ofRow {M : Shp → Mx → Mx} {C : Addr} {E : XK} {σ : L2.St} {H : Hp} {sh ra : Addr} {s : Shp} {R : Mx} {i j : Nat} (S : Sh K sh s H) (o : s.Ok) (mt : MT K ra R H) (hR : R.length = s.n) (wf : WF s.p s.w R) (hM : WF s.p s.w (M s R)) (hl : (M s R).length ≤ 20) (h1 : σ[i]? = some (some (.ref sh))) (h2 : σ[j]? = some (some (.ref ra))) :
    EvX (tCall (spOfRow M C K) [] E (tCons (tVar i) (tCons (tVar j) tNil))) σ H (PG K 2 (matD (M s R))) := fun H1 e Q q => by
  have ow := o.w; have on := o.n
  have p1 := o.p.2.1
  refine ⟨_, h1, _, h2, sh, s, 2, .ref ra, matD R, rfl, S.ex e, o, gd_mat (mt.ex e) wf p1 (by omega) (by omega), fun _ => ⟨ra, R, rfl, mt.ex e, hR, wf, fun t H2 e2 m => q _ H2 e2 (gd_mat m hM p1 (by omega) hl)⟩, fun f hf => ?_⟩
  rw [rowF_ok wf hR] at hf
  cases hf
theorem et_neShow {σ : L2.St} {H : Hp} {ta tb : TE} {k j : Nat} {d : PyData} (h1 : EvX ta σ H (PG K k d)) (h2 : EvX tb σ H (PG K j d)) (hk : k ≤ 4) (hj : j ≤ 4) : EvT (tTest (tOp rNe (tCB (rShow K) (tCons ta tNil)) (tCB (rShow K) (tCons tb tNil)))) σ H false := et_neSame (ex_showG h1 hk) (ex_showG h2 hj)
def S_law_row_right (T : Txt K mg) : Addr → Sp → Prop := fun f sp => (f = T.f_made_row ∧ sp = sp_made_row T) ∨ (f = T.f_sums ∧ sp = sp_sums T) ∨ (f = T.f_stripe ∧ sp = sp_stripe T)
theorem held_law_row_right (T : Txt K mg) : ∀ f sp, S_law_row_right T f sp → ∃ fd ps, FnOk P w K mg base (L2.CX P w) 7 f fd ps sp ∧ PySem.W.keepIn K (.ref f) = true ∧ Binds K fd ps [] := fun f sp h => by
  rcases h with ⟨rfl, rfl⟩ | ⟨rfl, rfl⟩ | ⟨rfl, rfl⟩
  · exact ⟨_, _, (ok_made_row T).mono (by decide), T.d_made_row.F.kp, T.d_made_row.b⟩
  · exact ⟨_, _, ok_sums T, T.d_sums.F.kp, T.d_sums.b⟩
  · exact ⟨_, _, ok_stripe T, T.d_stripe.F.kp, T.d_stripe.b⟩
theorem s_forB {P : VP} {σ : L2.St} {H : Hp} {a : Addr} {D : Ends} {tu : TS} {tl : TE} {j n : Nat} (s : Src H a) (h : EvS a tl σ H (PLsF H a n P)) (Pv : Addr → Hp → Nat → L2.St → Hp → Prop) (h0 : ∀ L HL, H L = none → Up a H HL → Pv L HL 0 σ HL)
    (hL : ∀ L HL xs i σ' H', H L = none → HL L = some (.lst xs) → Pv L HL i σ' H' → H' L = some (.lst xs))
    (hs : ∀ L HL i x σ' H', H L = none → Up a H HL → P x HL → i < n → Pv L HL i σ' H' → tu { D with nx := Pv L HL (i + 1), ct := Pv L HL (i + 1), bk := D.nx } (σ'.set j (some x)) H') (hd : ∀ L HL σ' H', Up a H HL → Pv L HL n σ' H' → D.nx σ' H') :
    tFor (iList K tl) (gName j) tu D σ H := q_forB (D := D) (tz := fun D => D.nx) s h Pv h0 hL hs hd
theorem row_ok {s : Shp} {R : Mx} (wf : WF s.p s.w R) : ∀ d ∈ R.map intsD, okB false s d = true := fun d hd => by
  obtain ⟨r, hr, rfl⟩ := List.mem_map.mp hd
  have := wf r hr
  unfold okB
  simp only [Bool.false_and, Bool.false_or, intsD, rowD, Bool.and_eq_true, decide_eq_true_eq, List.length_map, List.all_eq_true]
  refine ⟨by rw [this.1], fun d hd => ?_⟩
  obtain ⟨x, hx, rfl⟩ := List.mem_map.mp hd
  have := this.2 x hx
  simp [within]
  omega
def sp_law_row_right (T : Txt K mg) : Sp := fun vs H Q _ => ∃ a sh s, vs = [.ref a, .ref sh] ∧ Src H a ∧ Sh K sh s H ∧ s.Ok ∧ Tabs T.tabs H ∧ ∀ H', UpT a H H' → Tabs T.tabs H' → Q (.bl true) H'
theorem len_law_row_right (T : Txt K mg) {vs H Q E} (h : sp_law_row_right T vs H Q E) : vs.length = 2 := by obtain ⟨_, _, _, rfl, _⟩ := h; rfl
def t_law_row_right (T : Txt K mg) : TS := (tSeq (tAsg (tCB (rTupOf K) (tCons (tLc (iRng1 (tCons (tOp (rIxT K) (tVar 1) (tC (.int 2))) tNil)) (gName 8) tYes (tCall (sp_law_any_cell T) [] E0 (tCons (tVar 0) (tCons (tVar 1) tNil))) [8]) tNil)) (gName 2)) (tSeq (tAsg (tCall (sp_law_sums_by T) [] E0 (tCons (tVar 1) (tCons (tVar 2) tNil))) (gName 3)) (tSeq (tIfS (tOr (tTest (tOp rNe (tCB (rShow K) (tCons (tCall (sp_made_row T) [] E0 (tCons (tVar 1) (tCons (tVar 2) tNil))) tNil)) (tCB (rShow K) (tCons (tVar 2) tNil)))) (tTest (tOp rNe (tCB (rShow K) (tCons (tCall (sp_sums T) [] E0 (tCons (tVar 1) (tCons (tVar 2) tNil))) tNil)) (tCB (rShow K) (tCons (tVar 3) tNil))))) (tRet (tC (.bl false))) tNext) (tSeq (tIfS (tTest (tOp rNe (tCB (rShow K) (tCons (tCall (sp_stripe T) [] E0 (tCons (tVar 1) (tCons (tVar 2) tNil))) tNil)) (tCB (rShow K) (tCons (tOp (rCatA K) (tVar 3) (tVar 2)) tNil)))) (tRet (tC (.bl false))) tNext) (tSeq (tFor (iRng1 (tCons (tC (.int 2)) tNil)) (gName 4) (tSeq (tAsg (tCall (sp_law_spoilt T) [] E0 (tCons (tVar 0) (tCons (tVar 1) (tCons (tVar 2) (tCons (tC (.bl false)) tNil))))) (gTup K 2 (gCons (gName 5) (gCons (gName 6) gNil)))) (tFor (iList K (tLst (tCons (tC (.ref T.f_made_row)) (tCons (tC (.ref T.f_sums)) (tCons (tC (.ref T.f_stripe)) tNil))))) (gName 7) (tIfS (tTest (tOp (rNeD K) (tLam T.tabs (THeard T) (fun E => (tCallM 7 (S_law_row_right T) E (tCons (tVar 1) (tCons (tVar 5) tNil))))) (tLst (tCons (tC (.str "refused")) (tCons (tC (.bl true)) (tCons (tC (.bl false)) (tCons (tVar 6) tNil))))))) (tRet (tC (.bl false))) tNext)))) (tRet (tOp rEq (tCB (rShow K) (tCons (tCall (sp_sums T) [] E0 (tCons (tVar 1) (tCons (tVar 2) tNil))) tNil)) (tCB (rShow K) (tCons (tVar 3) tNil)))))))))

theorem pure_law_row_right (T : Txt K mg) {vs H Q} {E : XK} (h : sp_law_row_right T vs H Q E) : t_law_row_right T { nx := fun _ H' => Q .non H', rt := Q } (L2.start n_law_row_right vs) H := by
  obtain ⟨a, sh, s, rfl, src, S, o, hT, q⟩ := h
  have p0 := o.p.1; have p1 := o.p.2.1
  have ow := o.w; have on := o.n; have oc : s.c ≤ 8 := o.c
  -- row
  refine ss_asg src (es_imp (es_tupX (es_lcE (P := fun _ => Rig K s.p s.w) (n := s.n) (fun H1 u => sh_n (S.kp (u.kp src)) (ev_var rfl)) (by omega) (fun x => rfl) (fun i H1 u hi H2 u2 Q' q' => ⟨_, rfl, _, rfl, ⟨a, sh, s, rfl, u2.src, S.kp ((u.trans u2).kp src), o, fun v H3 u3 r => q' v H3 u3 r⟩⟩) fun i => monoK_rig) fun i => monoK_rig) fun v H1 h => mat_of h) fun v H1 u1 ⟨ra, R, ev, mt, wf, hR⟩ => ?_
  subst ev
  have S1 := S.kp (u1.kp src)
  have wS := wf_sums (s := s) (by omega) wf
  have wT := wf_stripeM (s := s) (R := R) (by omega) wf
  have lS : (sumsM s R).length ≤ 20 := by rw [len_sumsM]; omega
  have lT : (stripeM s R).length ≤ 20 := by rw [len_stripeM]; omega
  -- due
  refine en_call (ea_2 (ev_var rfl) (ev_var rfl)) (v_law_sums_by T S1 o mt hR wf) H1 (.refl H1) _ fun da H2 hda e2 md => ?_
  have U2 : Up a H H2 := u1.trans (.ex e2 u1.src)
  have S2 := S1.ex e2
  have mt2 := mt.ex e2
  have gR : ∀ {H' : Hp}, Kp H2 H' → Gd K H' 2 (.ref ra) (matD R) := fun k => gd_mat (mt2.kp k) wf p1 (by omega) (by omega)
  have gD : ∀ {H' : Hp}, Kp H2 H' → Gd K H' 2 (.ref da) (matD (sumsM s R)) := fun k => gd_mat (md.kp k) wS p1 (by omega) lS
  have S' : ∀ {H' : Hp}, Kp H2 H' → Sh K sh s H' := fun k => S2.kp k
  refine q_when (et_or (et_neShow (k := 2) (j := 2) (ex_of (ev_call (ea_2 (ev_var (i := 1) rfl) (ev_var (i := 2) rfl)) (v_made_row T S2 o (gR (.refl H2)) (rowF_ok wf hR))) (gR (.refl H2))) (ex_of (ev_var rfl) (gR (.refl H2))) (by decide) (by decide)) fun _ => et_neShow (k := 2) (j := 2) (ex_ofRow (M := sumsM) S2 o mt2 hR wf wS lS rfl rfl) (ex_of (ev_var rfl) (gD (.refl H2))) (by decide) (by decide)) (fun c => by cases c) fun _ H3 e3 => ?_
  have k3 : Kp H2 H3 := .ex e3
  have cat : EvX (tOp (rCatA K) (tVar 3) (tVar 2)) [some (.ref a), some (.ref sh), some (.ref ra), some (.ref da), none, none, none, none, none] H3 (PG K 2 (matD (stripeM s R))) := by
    have := ex_catG2 (k := 1) (ds := (sumsM s R).map intsD) (es := R.map intsD) (ex_of (σ := [some (.ref a), some (.ref sh), some (.ref ra), some (.ref da), none, none, none, none, none]) (ev_var (i := 3) rfl) (gD k3)) (ex_of (ev_var (i := 2) rfl) (gR k3)) (by rw [List.length_map, List.length_map, len_sumsM]; omega)
    rw [← List.map_append] at this
    exact this
  refine q_when (et_neShow (k := 2) (j := 2) (ex_ofRow (M := stripeM) (S' k3) o (mt2.kp k3) hR wf wT lT rfl rfl) cat (by decide) (by decide)) (fun c => by cases c) fun _ H4 e4 => ?_
  have e24 : Ex H2 H4 := e3.trans e4
  have U4 : Up a H H4 := U2.trans (.ex e24 U2.src)
  have T4 : Tabs T.tabs H4 := tabs_up hT U4 src
  -- for turn in range(2)
  refine q_forR1 (ea_1 ev_c) (by decide) (fun i σ' H' => ∃ u4 u5 u6 u7, σ' = [some (.ref a), some (.ref sh), some (.ref ra), some (.ref da), u4, u5, u6, u7, none] ∧ UpT a H4 H' ∧ Tabs T.tabs H')
    (fun H5 e5 => ⟨_, _, _, _, rfl, UpT.of (.ex e5 U4.src), T4.ext e5⟩) ?_ ?_
  · rintro i σ' H5 hi ⟨u4, u5, u6, u7, rfl, V5, T5⟩
    have s5 := V5.src
    have k5 : Kp H2 H5 := (Kp.ex e24).trans (V5.kp U4.src)
    have nL : ∀ d ∈ R.map intsD, okB false s d = true := row_ok wf
    refine ⟨_, rfl, _, rfl, _, rfl, a, sh, s, ra, R.map intsD, false, rfl, s5, S' k5, o, gR k5, by rw [List.length_map]; omega, by rw [List.length_map]; omega, nL, fun t x f d H6 u6' ht gx hf => ⟨t, _, rfl, ht, rfl, _, _, rfl, _, _, rfl, rfl, ?_⟩⟩
    rw [List.length_map, hR, ← rowF_flt] at hf
    have hfb : f.natAbs < 2 ^ 64 := fltB_bd (rowF_flt ▸ hf) (by omega)
    have s6 := u6'.src
    have T6 := tabs_up T5 u6' s5
    have k6 : Kp H2 H6 := k5.trans (u6'.kp s5)
    dsimp only
    -- for call in [made_row, sums, stripe]
    have mS : Mono a (fun v (_ : Hp) => ∃ f sp, v = V.ref f ∧ S_law_row_right T f sp) := fun _ _ _ _ _ h => h
    refine s_forB s6 (es_lstF (n := 3) (P := fun v _ => ∃ f sp, v = V.ref f ∧ S_law_row_right T f sp) (ea_consS (es_c fun _ => ⟨_, _, rfl, .inl ⟨rfl, rfl⟩⟩) (ea_consS (es_c fun _ => ⟨_, _, rfl, .inr (.inl ⟨rfl, rfl⟩)⟩) (ea_consS (es_c fun _ => ⟨_, _, rfl, .inr (.inr ⟨rfl, rfl⟩)⟩) ea_nilS mS) mS) mS) (by decide) mS)
      (fun L HL m σ' H' => ∃ u7, σ' = [some (.ref a), some (.ref sh), some (.ref ra), some (.ref da), some (.int (i : Int)), some x, some (.int f), u7, none] ∧ UpT a H6 H' ∧ Tabs T.tabs H' ∧ (∀ xs, HL L = some (.lst xs) → H' L = some (.lst xs)))
      (fun L HL nL uL => ⟨_, rfl, UpT.of uL, tabs_up T6 uL s6, fun _ h => h⟩) (fun L HL xs m σ' H' nL h ⟨_, _, _, _, k⟩ => k xs h) ?_ ?_
    · rintro L HL m y σ' H7 nL uL ⟨g, sp, rfl, hS⟩ hm ⟨u7, rfl, V7, T7, kL⟩
      have s7 := V7.src
      have k7 : Kp H6 H7 := V7.kp s6
      have La : L ≠ a := s6.new nL
      refine heard_ne (isRow := true) (a := a) T7 s7 hfb (fun H8 => ev_var (i := 6) rfl) (fun H8 eN T8 Qv E hE => ?_) fun H8 V8 T8 => ?_
      · have k8 : Kp H6 H8 := k7.trans (kp_extN eN)
        have S8 := S' (k6.trans k8)
        have g8 := gx.kp k8
        refine ⟨g, sp, rfl, hS, _, rfl, _, rfl, ?_⟩
        rcases hS with ⟨rfl, rfl⟩ | ⟨rfl, rfl⟩ | ⟨rfl, rfl⟩
        · exact ⟨sh, s, 3, x, d, rfl, S8, o, g8, (fun z => by rw [hf] at z; cases z), (fun f' hf' => by rw [hf] at hf'; injection hf' with hf'; subst hf'; exact fun H' dd e ed => hE dd H' e ed)⟩
        · exact ⟨sh, s, 3, x, d, rfl, S8, o, g8, (fun z => by rw [hf] at z; cases z), (fun f' hf' => by rw [hf] at hf'; injection hf' with hf'; subst hf'; exact fun H' dd e ed => hE dd H' e ed)⟩
        · exact ⟨sh, s, 3, x, d, rfl, S8, o, g8, (fun z => by rw [hf] at z; cases z), (fun f' hf' => by rw [hf] at hf'; injection hf' with hf'; subst hf'; exact fun H' dd e ed => hE dd H' e ed)⟩
      · rw [if_neg (by simp)]
        exact ⟨_, rfl, V7.trans V8, T8, fun xs h => V8.lst La (kL xs h)⟩
    · rintro L HL σ' H7 uL ⟨u7, rfl, V7, T7, _⟩
      exact ⟨_, _, _, _, rfl, (V5.trans (UpT.of u6')).trans V7, T7⟩
  · rintro σ' H5 ⟨u4, u5, u6, u7, rfl, V5, T5⟩
    have k5 : Kp H2 H5 := (Kp.ex e24).trans (V5.kp U4.src)
    have sh1 := ex_showG (k := 2) (ex_ofRow (M := sumsM) (C := T.c_BadRow) (E := E0) (σ := [some (.ref a), some (.ref sh), some (.ref ra), some (.ref da), u4, u5, u6, u7, none]) (i := 1) (j := 2) (S' k5) o (mt2.kp k5) hR wf wS lS rfl rfl) (by decide)
    have sh2 := ev_showV (K := K) (σ := [some (.ref a), some (.ref sh), some (.ref ra), some (.ref da), u4, u5, u6, u7, none]) (ev_var (i := 3) rfl) (gD k5) (by decide)
    refine s_ret (v := .bl true) ?_ fun H6 e6 => ?_
    · have := ev_op (z := .bl (decide ((V.str (matD (sumsM s R)).shown) = V.str (matD (sumsM s R)).shown))) sh1 sh2 (rv_eq rfl)
      rw [decide_eq_true rfl] at this
      exact this
    · exact q H6 ((UpT.of U4).trans (V5.trans (UpT.of (.ex e6 V5.src)))) (T5.ext e6)
theorem ok_law_row_right (T : Txt K mg) (B : Bt T base) : FnG P w K mg base CX0 10 T.f_law_row_right T.fd_law_row_right ["_law_source", "_law_shape"] (sp_law_row_right T) :=
  fnG_okC T.FC_law_row_right sc_law_row_right (fun vs H Q E h => len_law_row_right T h) fun A outer s H vs Q E hg hr h => ⟨t_law_row_right T, by
    exact (pss_cons (ps_set (i := 2) sc_law_row_right.nd rfl (Or.inl rfl) (pe_callTy call_tuple_of (by rfl) T.m_tuple (by decide +kernel) (pa_cons (pe_lc (own := [("_law_x", 8)]) (g := (gName 8)) (tt := tYes) (te := (tCall (sp_law_any_cell T) [] E0 (tCons (tVar 0) (tCons (tVar 1) tNil)))) rfl sc_law_row_right.nd (pi_range1 (by rfl) T.m_range (pa_cons (pe_ix ix_tup (pv 1) pe_int (fun _ _ => rfl)) pa_nil)) (blkOk_by (own := [("_law_x", 8)]) (N := n_law_row_right) (sc := defScope s_law_row_right) (by decide +kernel)) (fun _ _ _ _ _ => (pg_name (i := 8) sc_law_row_right.nd rfl (Or.inl rfl))) (fun _ _ _ _ _ => pts_nil) (fun _ _ _ _ _ => (pe_call (ok_law_any_cell T) (hr.mono (by decide)) (by rfl) T.d_law_any_cell.g T.d_law_any_cell.F.kp T.d_law_any_cell.b .nil pass0 (pa_cons (pv 0) (pa_cons (pv 1) pa_nil))))) pa_nil))) (pss_cons (ps_set (i := 3) sc_law_row_right.nd rfl (Or.inl rfl) (pe_call (ok_law_sums_by T) (hr.mono (by decide)) (by rfl) T.d_law_sums_by.g T.d_law_sums_by.F.kp T.d_law_sums_by.b .nil pass0 (pa_cons (pv 1) (pa_cons (pv 2) pa_nil)))) (pss_cons (ps_if (PW.pt (pw_or (pt_cmpR op_ne (pe_callB (call_show hg hr.units) (by rfl) T.m_repr (by decide +kernel) (pa_cons (pe_call (ok_made_row T) (hr.mono (by decide)) (by rfl) T.d_made_row.g T.d_made_row.F.kp T.d_made_row.b .nil passL (pa_cons (pv 1) (pa_cons (pv 2) pa_nil))) pa_nil)) (pe_callB (call_show hg hr.units) (by rfl) T.m_repr (by decide +kernel) (pa_cons (pv 2) pa_nil)) (nomark _)) (pw_or1 (pt_cmpR op_ne (pe_callB (call_show hg hr.units) (by rfl) T.m_repr (by decide +kernel) (pa_cons (pe_call (ok_sums T) (hr.mono (by decide)) (by rfl) T.d_sums.g T.d_sums.F.kp T.d_sums.b .nil passL (pa_cons (pv 1) (pa_cons (pv 2) pa_nil))) pa_nil)) (pe_callB (call_show hg hr.units) (by rfl) T.m_repr (by decide +kernel) (pa_cons (pv 3) pa_nil)) (nomark _))))) (pss_one (ps_ret pe_bl)) pss_nil) (pss_cons (ps_if (pt_cmpR op_ne (pe_callB (call_show hg hr.units) (by rfl) T.m_repr (by decide +kernel) (pa_cons (pe_call (ok_stripe T) (hr.mono (by decide)) (by rfl) T.d_stripe.g T.d_stripe.F.kp T.d_stripe.b .nil passL (pa_cons (pv 1) (pa_cons (pv 2) pa_nil))) pa_nil)) (pe_callB (call_show hg hr.units) (by rfl) T.m_repr (by decide +kernel) (pa_cons (pe_op op_catA (pv 3) (pv 2)) pa_nil)) (nomark _)) (pss_one (ps_ret pe_bl)) pss_nil) (pss_cons (ps_for PassesOwn.never rfl (pi_range1 (by rfl) T.m_range (pa_cons pe_int pa_nil)) (pg_name (i := 4) sc_law_row_right.nd rfl (Or.inl rfl)) (pss_cons (ps_asg (pe_call (ok_law_spoilt T) (hr.mono (by decide)) (by rfl) T.d_law_spoilt.g T.d_law_spoilt.F.kp T.d_law_spoilt.b .nil pass0 (pa_cons (pv 0) (pa_cons (pv 1) (pa_cons (pv 2) (pa_cons pe_bl pa_nil))))) (pg_tup rfl (pgs_cons (pg_name (i := 5) sc_law_row_right.nd rfl (Or.inr rfl)) (pgs_cons (pg_name (i := 6) sc_law_row_right.nd rfl (Or.inl rfl)) pgs_nil)))) (pss_one (ps_for PassesOwn.never rfl (pi_list (pe_lst (pa_cons (pe_glob (v := .ref T.f_made_row) (by rfl) T.d_made_row.g rfl) (pa_cons (pe_glob (v := .ref T.f_sums) (by rfl) T.d_sums.g rfl) (pa_cons (pe_glob (v := .ref T.f_stripe) (by rfl) T.d_stripe.g rfl) pa_nil))))) (pg_name (i := 7) sc_law_row_right.nd rfl (Or.inr rfl)) (pss_one (ps_if (pt_cmpR (op_neD hr.units) (pe_lamF (k := 7) (T := T.tabs) (TT := THeard T) (t := fun E => (tCallM 7 (S_law_row_right T) E (tCons (tVar 1) (tCons (tVar 5) tNil)))) T.d_law_heard.F (by rfl) T.d_law_heard.g T.d_law_heard.b sc_law_heard rfl (Or.inl rfl) (fun cdg => gives_law_heard (X := (cxOf CX0 P w K mg base n_law_row_right "_law_row_right" (defScope s_law_row_right) T.f_law_row_right (.ref T.cc_law_row_right) A outer s H E).nox) T cdg _) B.tb_law_row_right rfl T.mem_law_row_right T.one_law_row_right (hr.mono (by decide)) (lamS_by (sc := defScope s_law_row_right) (by decide +kernel)) rfl (fun _ _ _ _ _ => rfl) (fun A outer s H E f c' hrl => (pe_callM (C := CX P w) (k := 7) (i := 7) (S := S_law_row_right T) (held_law_row_right T) (hrl.mono (by decide)) rfl (Or.inr (Or.inr rfl)) (passes_call (takes_of rfl rfl rfl rfl) fun _ _ _ _ h => h) (pa_cons (pv 1) (pa_cons (pv 5) pa_nil))))) (pe_lst (pa_cons pe_str (pa_cons pe_bl (pa_cons pe_bl (pa_cons (pv 6) pa_nil))))) (nomark _)) (pss_one (ps_ret pe_bl)) pss_nil)))))) (pss_one (ps_ret (pe_cmpR op_eq (pe_callB (call_show hg hr.units) (by rfl) T.m_repr (by decide +kernel) (pa_cons (pe_call (ok_sums T) (hr.mono (by decide)) (by rfl) T.d_sums.g T.d_sums.F.kp T.d_sums.b .nil passL (pa_cons (pv 1) (pa_cons (pv 2) pa_nil))) pa_nil)) (pe_callB (call_show hg hr.units) (by rfl) T.m_repr (by decide +kernel) (pa_cons (pv 3) pa_nil)) (nomark _))))))))), pure_law_row_right T h⟩

end
end My


set_option maxHeartbeats 1000000
namespace My
open PySem PySem.Spec PyProof.Rows L2 Own LamX
open Evl (Ex RetV)
section
variable {P : Program} {w : World} {K : PySem.W.Frag} {mg : Str → Option Value} {base : Heap}

open Evl
/-! ### what is left -/
/-- a left stripe: cells, or None -/
structure Lf (K : PySem.W.Frag) (s : Shp) (b : Addr) (xs : List V) (ds : List PyData) (H : Hp) : Prop where
  sq : SqT K H b xs
  g : GdAll K H 1 xs ds
  lx : xs.length = s.c + s.n
  ld : ds.length = s.c + s.n
  ok : ∀ d ∈ ds, okB true s d = true
theorem Lf.kp {s : Shp} {b : Addr} {xs : List V} {ds : List PyData} {H H' : Hp} (e : Kp H H') (h : Lf K s b xs ds H) : Lf K s b xs ds H' := ⟨e.sqT h.sq, h.g.kp e, h.lx, h.ld, h.ok⟩
theorem Lf.gd {s : Shp} {b : Addr} {xs : List V} {ds : List PyData} {H : Hp} (o : s.Ok) (h : Lf K s b xs ds H) : Gd K H 2 (.ref b) (.tuple ds) := gd_tup h.sq h.g (by have on := o.n; have oc : s.c ≤ 8 := o.c; rw [h.lx]; omega)
theorem fstB_none {g : PyData → Bool} : ∀ {ds : List PyData} {k : Nat}, (∀ d ∈ ds, g d = true) → fstB g k ds = none
  | [], _, _ => rfl
  | d :: ds, k, h => by
    unfold fstB
    rw [if_pos (h d List.mem_cons_self)]
    exact fstB_none fun e he => h e (List.mem_cons_of_mem _ he)
theorem Lf.right {s : Shp} {b : Addr} {xs : List V} {ds : List PyData} {H : Hp} (h : Lf K s b xs ds H) : lefF s (.tuple ds) = none := by
  rw [lefF_flt]
  unfold fltB
  rw [if_pos (by simp [isLen, h.ld])]
  exact fstB_none h.ok
/-- a cell or None -/
def POpt (K : PySem.W.Frag) (s : Shp) : VP := fun v H => v = .non ∨ Rig K s.p s.w v H
theorem monoK_opt {s : Shp} : MonoK (POpt K s) := fun v H H' e h => h.imp id (monoK_rig v H H' e)
theorem opt_gd {s : Shp} {v : V} {H : Hp} (o : s.Ok) (h : POpt K s v H) : ∃ d, Gd K H 1 v d ∧ okB true s d = true := by
  have p1 := o.p.2.1
  have ow := o.w
  rcases h with rfl | ⟨c, r, rfl, hs, hl, hb⟩
  · exact ⟨.none, gd_non.up (by decide), rfl⟩
  · refine ⟨intsD r, gd_ints hs (by omega) fun x hx => by have := hb x hx; omega, ?_⟩
    have := row_ok (s := s) (R := [r]) (fun r' hr => by rw [List.mem_singleton.mp hr]; exact ⟨hl, hb⟩) (intsD r) List.mem_cons_self
    unfold okB at this ⊢
    simp only [Bool.false_and, Bool.false_or] at this
    rw [this, Bool.or_true]
theorem lf_of {s : Shp} {b : Addr} {xs : List V} {H : Hp} (o : s.Ok) (hs : SqT K H b xs) (hl : xs.length = s.c + s.n) (h : ∀ x ∈ xs, POpt K s x H) : ∃ ds, Lf K s b xs ds H := by
  have key : ∀ xs : List V, (∀ x ∈ xs, POpt K s x H) → ∃ ds, GdAll K H 1 xs ds ∧ ds.length = xs.length ∧ ∀ d ∈ ds, okB true s d = true := fun xs => by
    induction xs with
    | nil => intro _; exact ⟨[], .nil, rfl, fun d hd => absurd hd List.not_mem_nil⟩
    | cons x xs ih =>
      intro h
      obtain ⟨ds, h1, h2, h3⟩ := ih fun y hy => h y (List.mem_cons_of_mem _ hy)
      obtain ⟨d, g, hd⟩ := opt_gd o (h x List.mem_cons_self)
      exact ⟨d :: ds, .cons g h1, by simp [h2], fun e he => (List.mem_cons.mp he).elim (fun z => z ▸ hd) (h3 e)⟩
  obtain ⟨ds, h1, h2, h3⟩ := key xs h
  exact ⟨ds, hs, h1, hl, by rw [h2, hl], h3⟩
theorem es_ifS {a : Addr} {σ : L2.St} {H : Hp} {tt : TT} {te tb : TE} {P : VP} (ht : EvST a tt σ H) (h1 : EvS a te σ H P) (h2 : EvS a tb σ H P) : EvS a (tIf tt te tb) σ H P := fun H1 u Q q => ht H1 u _ fun c H2 u2 => by
  cases c with
  | true => exact iteT (h1 H2 (u.trans u2) Q fun v H3 u3 p => q v H3 (u2.trans u3) p)
  | false => exact iteF (h2 H2 (u.trans u2) Q fun v H3 u3 p => q v H3 (u2.trans u3) p)
theorem nons_gd {xs : List V} {t : Addr} {H : Hp} (hl : xs.length ≤ 20) (h : H t = some (.tup ((nonsOf xs).map V.int))) : Gd K H 1 (.ref t) (intsD (nonsOf xs)) := by
  refine gd_ints (st_of h) ?_ fun x hx => ?_
  · unfold nonsOf natI
    rw [List.length_map]
    have := List.length_filter_le (fun i => decide (xs.getD i (.int 0) = V.non)) (List.range xs.length)
    rw [List.length_range] at this
    omega
  · unfold nonsOf at hx
    obtain ⟨i, hi, rfl⟩ := mem_natI.mp hx
    have := List.mem_range.mp (List.mem_filter.mp hi).1
    omega
/-- lost_of of a tuple, as data -/
theorem ex_lost {σ : L2.St} {H : Hp} {te : TE} {xs : List V} (T : Txt K mg) (h : EvX te σ H (PSq K xs)) (hl : xs.length ≤ 20) : EvX (tCall (sp_lost_of T) [] E0 (tCons te tNil)) σ H (PG K 1 (intsD (nonsOf xs))) := fun H1 e Q q =>
  h H1 e _ fun v H2 e2 ⟨b, ev, hb⟩ => ⟨b, xs, by rw [ev]; rfl, hb, by omega, fun t H3 _ e3 h3 => q _ H3 (e2.trans e3) (nons_gd hl h3)⟩
theorem ev_eqX {σ : L2.St} {H : Hp} {ta tb : TE} {k j : Nat} {d : PyData} (h1 : EvX ta σ H (PG K k d)) (h2 : EvX tb σ H (PG K j d)) (hk : k ≤ 60) (hj : j ≤ 60) : Ev (tOp (rEqD K) ta tb) σ H (.bl true) := fun H1 e1 Q q =>
  h1 H1 e1 _ fun v H2 e2 g1 => h2 H2 (e1.trans e2) _ fun w H3 e3 g2 => eqG (Gd.ex e3 g1) g2 hk hj (by rw [SeqAt.eqv_refl d (fine_lay d k g1.fn)]; exact q H3 (e2.trans e3))
theorem due_of {σ : L2.St} {H : Hp} {xs : List V} {tn : TE} {tl : TT} {j : Nat} (hn : Ev tn σ H (.int (xs.length : Int))) (hl : xs.length ≤ 20) (hw : ∀ x, wipe ((wipe σ [j]).set j (some x)) [j] = wipe σ [j]) (hj : ∀ x, ((wipe σ [j]).set j (some x))[j]? = some (some x))
    (hx : ∀ (k : Nat) H1, Ex H H1 → k < xs.length → EvT tl ((wipe σ [j]).set j (some (.int (k : Int)))) H1 (decide (xs.getD k (.int 0) = V.non))) : EvX (tCB (rTupOf K) (tCons (tLc (iRng1 (tCons tn tNil)) (gName j) tl (tVar j) [j]) tNil)) σ H (PG K 1 (intsD (nonsOf xs))) := fun H1 e Q q => by
  have lc := el_lcR1 (σ := σ) (H := H) (j := j) (vs := [j]) (t := tl) (te := tVar j) (fun k => decide (xs.getD k (.int 0) = V.non)) (fun k => .int (k : Int)) (ea_1 hn) (by omega) hw (fun k H2 e2 hk => hx k H2 e2 (by omega)) (fun k H2 e2 hk _ => ev_var (hj _))
  rw [Int.toNat_natCast] at lc
  have eg : given xs.length (fun k => decide (xs.getD k (.int 0) = V.non)) (fun k => .int (k : Int)) = (nonsOf xs).map V.int := by
    unfold given nonsOf natI
    rw [List.map_map]
    rfl
  rw [eg] at lc
  exact eh_tupN lc H1 e _ fun t H2 _ e2 h2 => q _ H2 e2 (nons_gd hl h2)
theorem v_made_left (T : Txt K mg) {H : Hp} {sh : Addr} {s : Shp} {k : Nat} {x : V} {d : PyData} (S : Sh K sh s H) (o : s.Ok) (g : Gd K H k x d) (hf : lefF s d = none) : SpV (sp_made_left T) [.ref sh, x] H x := spv fun H1 e Q q E => ⟨sh, s, k, x, d, rfl, S.ex e, o, g.ex e, fun _ => q, fun f hf' => by rw [hf] at hf'; cases hf'⟩
theorem all_non (n : Nat) : nonsOf (List.replicate n V.non) = natI (List.range n) := by
  unfold nonsOf
  rw [List.length_replicate]
  congr 1
  refine List.filter_eq_self.mpr fun i hi => ?_
  rw [getD_lt (by rw [List.length_replicate]; exact List.mem_range.mp hi), List.getElem_replicate]
  rfl
def sp_law_left_right (T : Txt K mg) : Sp := fun vs H Q _ => ∃ a sh s, vs = [.ref a, .ref sh] ∧ Src H a ∧ Sh K sh s H ∧ s.Ok ∧ Tabs T.tabs H ∧ ∀ H', UpT a H H' → Tabs T.tabs H' → Q (.bl true) H'
theorem len_law_left_right (T : Txt K mg) {vs H Q E} (h : sp_law_left_right T vs H Q E) : vs.length = 2 := by obtain ⟨_, _, _, rfl, _⟩ := h; rfl
def t_law_left_right (T : Txt K mg) : TS := (tSeq (tAsg (tOp rAddI (tCB (rLenV K) (tCons (tOp (rIxT K) (tVar 1) (tC (.int 6))) tNil)) (tOp (rIxT K) (tVar 1) (tC (.int 2)))) (gName 2)) (tSeq (tAsg (tCB (rTupOf K) (tCons (tLc (iRng1 (tCons (tVar 2) tNil)) (gName 9) tYes (tIf (tTest (tOp rGtI (tCall (sp_law_take T) [] E0 (tCons (tVar 0) (tCons (tC (.int 3)) tNil))) (tC (.int 0)))) (tCall (sp_law_any_cell T) [] E0 (tCons (tVar 0) (tCons (tVar 1) tNil))) (tC .non)) [9]) tNil)) (gName 3)) (tSeq (tIfS (tTest (tOp rEq (tCall (sp_law_take T) [] E0 (tCons (tVar 0) (tCons (tC (.int 2)) tNil))) (tC (.int 0)))) (tSeq (tAsg (tCall (sp_stripe T) [] E0 (tCons (tVar 1) (tCons (tCB (rTupOf K) (tCons (tLc (iRng1 (tCons (tOp (rIxT K) (tVar 1) (tC (.int 2))) tNil)) (gName 10) tYes (tCall (sp_law_any_cell T) [] E0 (tCons (tVar 0) (tCons (tVar 1) tNil))) [10]) tNil)) tNil))) (gName 4)) (tAsg (tCB (rTupOf K) (tCons (tLc (iRng1 (tCons (tVar 2) tNil)) (gName 9) tYes (tIf (tTest (tOp rIsN (tOp (rIxT K) (tVar 3) (tVar 9)) (tC .non))) (tC .non) (tOp (rIxT K) (tVar 4) (tVar 9))) [9]) tNil)) (gName 3))) tNext) (tSeq (tAsg (tCB (rTupOf K) (tCons (tLc (iRng1 (tCons (tVar 2) tNil)) (gName 9) (tTest (tOp rIsN (tOp (rIxT K) (tVar 3) (tVar 9)) (tC .non))) (tVar 9) [9]) tNil)) (gName 5)) (tSeq (tIfS (tOr (tTest (tOp rNe (tCB (rShow K) (tCons (tCall (sp_made_left T) [] E0 (tCons (tVar 1) (tCons (tVar 3) tNil))) tNil)) (tCB (rShow K) (tCons (tVar 3) tNil)))) (tTest (tOp rNe (tCB (rShow K) (tCons (tCall (sp_lost_of T) [] E0 (tCons (tVar 3) tNil)) tNil)) (tCB (rShow K) (tCons (tVar 5) tNil))))) (tRet (tC (.bl false))) tNext) (tSeq (tFor (iRng1 (tCons (tC (.int 2)) tNil)) (gName 6) (tSeq (tAsg (tCall (sp_law_spoilt T) [] E0 (tCons (tVar 0) (tCons (tVar 1) (tCons (tVar 3) (tCons (tC (.bl true)) tNil))))) (gTup K 2 (gCons (gName 7) (gCons (gName 8) gNil)))) (tIfS (tTest (tOp (rNeD K) (tLam T.tabs (THeard T) (fun E => (tCall (sp_made_left T) [] E (tCons (tVar 1) (tCons (tVar 7) tNil))))) (tLst (tCons (tC (.str "refused")) (tCons (tC (.bl false)) (tCons (tC (.bl true)) (tCons (tVar 8) tNil))))))) (tRet (tC (.bl false))) tNext))) (tRet (tAndV (tOp (rEqD K) (tCall (sp_lost_of T) [] E0 (tCons (tOp (rTimes0 K) (tTup (tCons (tC .non) tNil)) (tVar 2)) tNil)) (tCB (rTupOf K) (tCons (tLc (iRng1 (tCons (tVar 2) tNil)) (gName 9) tYes (tVar 9) [9]) tNil))) (tOp (rEqD K) (tCall (sp_lost_of T) [] E0 (tCons (tTup tNil) tNil)) (tTup tNil))))))))))

theorem pure_law_left_right (T : Txt K mg) {vs H Q} {E : XK} (h : sp_law_left_right T vs H Q E) : t_law_left_right T { nx := fun _ H' => Q .non H', rt := Q } (L2.start n_law_left_right vs) H := by
  obtain ⟨a, sh, s, rfl, src, S, o, hT, q⟩ := h
  have p0 := o.p.1; have p1 := o.p.2.1
  have ow := o.w; have on := o.n; have oc : s.c ≤ 8 := o.c
  refine q_asg (v := .int ((s.c + s.n : Nat) : Int)) (ev_is (ev_addI (sh_c S (ev_var rfl)) (sh_n S (ev_var rfl))) (by rw [Int.natCast_add])) fun H1 e1 => ?_
  have U1 : Up a H H1 := .ex e1 src
  have S' : ∀ {H' : Hp}, Up a H H' → Sh K sh s H' := fun u => S.kp (u.kp src)
  have cell : ∀ {σ : L2.St} {H' : Hp}, σ[0]? = some (some (.ref a)) → σ[1]? = some (some (.ref sh)) → Up a H H' → EvS a (tCall (sp_law_any_cell T) [] E0 (tCons (tVar 0) (tCons (tVar 1) tNil))) σ H' (Rig K s.p s.w) := fun h0 h1 u H2 u2 Q' q' => ⟨_, h0, _, h1, ⟨a, sh, s, rfl, u2.src, S' (u.trans u2), o, fun v H3 u3 r => q' v H3 u3 r⟩⟩
  -- left
  refine ss_asg U1.src (es_tupX (es_lcE (P := fun _ => POpt K s) (n := s.c + s.n) (fun H2 u2 => ev_var rfl) (by omega) (fun x => rfl) (fun i H2 u2 hi => es_ifS (est_cmpGt (es_take (lo := 3) (hi := 3) rfl (es_int (by decide) (by decide)) (by decide) (by decide))) (es_imp (cell rfl rfl (U1.trans u2)) fun _ _ r => .inr r) (es_c fun _ => .inl rfl)) fun i => monoK_opt) fun i => monoK_opt) fun v H2 u2 ⟨lb, xs, ev, hlb, hlx, hlp⟩ => ?_
  subst ev
  have U2 := U1.trans u2
  obtain ⟨ds, L2'⟩ := lf_of o hlb hlx fun x hx => by
    obtain ⟨i, hi, e⟩ := List.mem_iff_getElem.mp hx
    exact hlp i x (by rw [List.getElem?_eq_getElem hi, e])
  -- if take(source, 2) == 0: ..
  refine q_split (fun σ' H' => ∃ lb xs ds u4, σ' = [some (.ref a), some (.ref sh), some (.int ((s.c + s.n : Nat) : Int)), some (.ref lb), u4, none, none, none, none, none, none] ∧ Up a H H' ∧ Lf K s lb xs ds H') ?_ (fun KK => ?_)
  · clear hlb hlx hlp L2' U2 u2
    rintro σ' H3 ⟨lb, xs, ds, u4, rfl, U3, L3⟩
    have s3 := U3.src
    have vL : ∀ {σ : L2.St} {H' : Hp}, σ[3]? = some (some (.ref lb)) → Kp H3 H' → EvX (tVar 3) σ H' (PG K 2 (.tuple ds)) := fun e k => ex_of (ev_var e) ((L3.kp k).gd o)
    have len20 : xs.length ≤ 20 := by rw [L3.lx]; omega
    -- due
    refine due_of (K := K) (σ := [some (.ref a), some (.ref sh), some (.int ((s.c + s.n : Nat) : Int)), some (.ref lb), u4, none, none, none, none, none, none]) (tn := tVar 2) (xs := xs) (H := H3) (by rw [L3.lx]; exact ev_var rfl) len20 (fun x => rfl) (fun x => rfl) (fun k H4 e4 hk => ?_) H3 (.refl H3) _ fun dv H4 e4 gd4 => ?_
    · have : xs.getD k (.int 0) = xs[k] := getD_lt hk
      rw [this]
      exact et_test (ev_isN (ev_ixT (ev_var rfl) (ev_var rfl) (ex_t e4 L3.sq) (atI_nat (List.getElem?_eq_getElem hk))))
    have U4 : Up a H H4 := U3.trans (.ex e4 s3)
    have s4 := U4.src
    have k4 : Kp H3 H4 := .ex e4
    have gd4 : Gd K H4 1 dv (intsD (nonsOf xs)) := gd4
    -- made_left, lost_of
    refine q_when (et_or (et_neShow (k := 2) (j := 2) (ex_of (ev_call (ea_2 (ev_var (i := 1) rfl) (ev_var (i := 3) rfl)) (v_made_left T (S' U4) o ((L3.kp k4).gd o) L3.right)) ((L3.kp k4).gd o)) (vL rfl k4) (by decide) (by decide)) fun _ => et_neShow (k := 1) (j := 1) (ex_lost T (ex_vX rfl (ex_t e4 L3.sq)) len20) (ex_of (ev_var rfl) gd4) (by decide) (by decide)) (fun c => by cases c) fun _ H5 e5 => ?_
    have U5 : Up a H H5 := U4.trans (.ex e5 s4)
    have T5 : Tabs T.tabs H5 := tabs_up hT U5 src
    refine q_forR1 (ea_1 ev_c) (by decide) (fun i σ' H' => ∃ u6 u7 u8, σ' = [some (.ref a), some (.ref sh), some (.int ((s.c + s.n : Nat) : Int)), some (.ref lb), u4, some dv, u6, u7, u8, none, none] ∧ UpT a H5 H' ∧ Tabs T.tabs H')
      (fun H6 e6 => ⟨_, _, _, rfl, UpT.of (.ex e6 U5.src), T5.ext e6⟩) ?_ ?_
    · rintro i σ' H6 hi ⟨u6, u7, u8, rfl, V6, T6⟩
      have s6 := V6.src
      have k6 : Kp H3 H6 := (k4.trans (.ex e5)).trans (V6.kp U5.src)
      have S6 : Sh K sh s H6 := (S' U5).kp (V6.kp U5.src)
      refine ⟨_, rfl, _, rfl, _, rfl, a, sh, s, lb, ds, true, rfl, s6, S6, o, (L3.kp k6).gd o, by rw [L3.ld]; omega, by rw [L3.ld]; omega, L3.ok, fun t x f d H7 u7' ht gx hf => ⟨t, _, rfl, ht, rfl, _, _, rfl, _, _, rfl, rfl, ?_⟩⟩
      have hfb : f.natAbs < 2 ^ 64 := fltB_bd hf (by rw [L3.ld]; omega)
      rw [L3.ld, ← lefF_flt] at hf
      have s7 := u7'.src
      have T7 := tabs_up T6 u7' s6
      refine heard_ne (isRow := false) (a := a) T7 s7 hfb (fun H8 => ev_var (i := 8) rfl) (fun H8 eN T8 Qv E hE => ?_) fun H8 V8 T8 => ?_
      · have k8 := kp_extN eN
        exact ⟨_, rfl, _, rfl, sh, s, 3, x, d, rfl, (S6.kp (u7'.kp s6)).kp k8, o, gx.kp k8, (fun z => by rw [hf] at z; cases z), (fun f' hf' => by rw [hf] at hf'; injection hf' with hf'; subst hf'; exact fun H' dd e ed => hE dd H' e ed)⟩
      · rw [if_neg (by simp)]
        exact ⟨_, _, _, rfl, (V6.trans (UpT.of u7')).trans V8, T8⟩
    · rintro σ' H6 ⟨u6, u7, u8, rfl, V6, T6⟩
      have r1 : EvX (tCall (sp_lost_of T) [] E0 (tCons (tOp (rTimes0 K) (tTup (tCons (tC .non) tNil)) (tVar 2)) tNil)) [some (.ref a), some (.ref sh), some (.int ((s.c + s.n : Nat) : Int)), some (.ref lb), u4, some dv, u6, u7, u8, none, none] H6 (PG K 1 (intsD (natI (List.range (s.c + s.n))))) := by
        have := ex_lost (H := H6) (σ := [some (.ref a), some (.ref sh), some (.int ((s.c + s.n : Nat) : Int)), some (.ref lb), u4, some dv, u6, u7, u8, none, none]) (te := tOp (rTimes0 K) (tTup (tCons (tC .non) tNil)) (tVar 2)) (xs := List.replicate (s.c + s.n) V.non) T (fun H7 e7 Q' q' => eh_rep0 (ev_c (v := .non)) (ev_var (i := 2) rfl) (by omega) H7 e7 _ fun p H8 _ e8 h8 => q' _ H8 e8 ⟨p, rfl, st_of h8⟩) (by rw [List.length_replicate]; omega)
        rw [all_non] at this
        exact this
      have r2 : EvX (tCB (rTupOf K) (tCons (tLc (iRng1 (tCons (tVar 2) tNil)) (gName 9) tYes (tVar 9) [9]) tNil)) [some (.ref a), some (.ref sh), some (.int ((s.c + s.n : Nat) : Int)), some (.ref lb), u4, some dv, u6, u7, u8, none, none] H6 (PG K 1 (intsD (natI (List.range (s.c + s.n))))) := fun H7 e7 Q' q' => by
        have lc := el_lcR1 (σ := [some (.ref a), some (.ref sh), some (.int ((s.c + s.n : Nat) : Int)), some (.ref lb), u4, some dv, u6, u7, u8, none, none]) (H := H6) (j := 9) (vs := [9]) (t := tYes) (te := tVar 9) (fun _ => true) (fun k => .int (k : Int)) (ea_1 (ev_var (i := 2) rfl)) (by omega) (fun x => rfl) (fun k H2 e2 hk => et_yes) (fun k H2 e2 hk _ => ev_var rfl)
        rw [given_true, Int.toNat_natCast, show (List.range (s.c + s.n)).map (fun (k : Nat) => V.int (k : Int)) = (natI (List.range (s.c + s.n))).map V.int by unfold natI; rw [List.map_map]; rfl] at lc
        exact eh_tupN lc H7 e7 _ fun t H8 _ e8 h8 => q' _ H8 e8 (gd_ints (st_of h8) (by simp [natI]; omega) fun x hx => by obtain ⟨i, hi, rfl⟩ := mem_natI.mp hx; have := List.mem_range.mp hi; omega)
      have r3 : EvX (tCall (sp_lost_of T) [] E0 (tCons (tTup tNil) tNil)) [some (.ref a), some (.ref sh), some (.int ((s.c + s.n : Nat) : Int)), some (.ref lb), u4, some dv, u6, u7, u8, none, none] H6 (PG K 1 (.tuple [])) :=
        ex_lost (xs := []) T (fun H7 e7 Q' q' => ⟨Nat.zero_le _, fun p np => q' _ _ (Ex.new np) ⟨p, rfl, st_of upd_same⟩⟩) (by decide)
      have r4 : EvX (tTup tNil) [some (.ref a), some (.ref sh), some (.int ((s.c + s.n : Nat) : Int)), some (.ref lb), u4, some dv, u6, u7, u8, none, none] H6 (PG K 1 (.tuple [])) := fun H7 e7 Q' q' => ⟨Nat.zero_le _, fun p np => q' _ _ (Ex.new np) (gd_tup (st_of upd_same) .nil (Nat.zero_le _))⟩
      refine s_ret (v := .bl true) (ev_is (ev_andV (ev_eqX r1 r2 (by decide) (by decide)) fun _ => ev_eqX r3 r4 (by decide) (by decide)) rfl) fun H7 e7 => ?_
      exact q H7 ((UpT.of U5).trans (V6.trans (UpT.of (.ex e7 V6.src)))) (T6.ext e7)
  · -- the stripe of a drawn row, cut likewise
    refine es_take (s0 := 0) (a := a) (lo := 2) (hi := 2) rfl (es_int (by decide) (by decide)) (by decide) (by decide) H2 (.refl U2.src) _ fun z H3 u3 ⟨w, ew, w0, w1⟩ => ?_
    subst ew
    refine ⟨rfl, _, rfl, ?_⟩
    have U3 := U2.trans u3
    by_cases c : V.int w = V.int 0
    · rw [decide_eq_true c]
      refine iteT ?_
      have L3 := L2'.kp (u3.kp U2.src)
      have rowE : EvS a (tCB (rTupOf K) (tCons (tLc (iRng1 (tCons (tOp (rIxT K) (tVar 1) (tC (.int 2))) tNil)) (gName 10) tYes (tCall (sp_law_any_cell T) [] E0 (tCons (tVar 0) (tCons (tVar 1) tNil))) [10]) tNil)) [some (.ref a), some (.ref sh), some (.int ((s.c + s.n : Nat) : Int)), some (.ref lb), none, none, none, none, none, none, none] H3 (PMat K s.p s.w s.n) :=
        es_imp (es_tupX (es_lcE (P := fun _ => Rig K s.p s.w) (n := s.n) (fun H4 u4 => sh_n (S' (U3.trans u4)) (ev_var rfl)) (by omega) (fun x => rfl) (fun i H4 u4 hi => cell rfl rfl (U3.trans u4)) fun i => monoK_rig) fun i => monoK_rig) fun v H4 h => mat_of h
      refine ⟨_, rfl, rowE H3 (.refl U3.src) _ fun v H4 u4 ⟨ra, R, ev, mt, wf, hR⟩ => ?_⟩
      subst ev
      have U4 := U3.trans u4
      have wT := wf_stripeM (s := s) (R := R) (by omega) wf
      refine ⟨sh, s, 2, .ref ra, matD R, rfl, S' U4, o, gd_mat mt wf p1 (by omega) (by omega), fun _ => ⟨ra, R, rfl, mt, hR, wf, fun wb H5 e5 mw => ?_⟩, fun f hf => by rw [rowF_ok wf hR] at hf; cases hf⟩
      have U5 : Up a H H5 := U4.trans (.ex e5 U4.src)
      have L5 := L3.kp ((u4.kp U3.src).trans (.ex e5))
      obtain ⟨refs, m1, m2, m3⟩ := id mw
      have rl : refs.length = s.c + s.n := by rw [m2, len_stripeM, hR]
      have hcell : ∀ (k : Nat) (hk : k < refs.length), POpt K s (.ref refs[k]) H5 := fun k hk => .inr ⟨refs[k], row (stripeM s R) k, rfl, m3 k _ (List.getElem?_eq_getElem hk), (wf_row wT (by rw [len_stripeM, hR]; omega)).1, (wf_row wT (by rw [len_stripeM, hR]; omega)).2⟩
      have lc := el_lcR1 (σ := [some (.ref a), some (.ref sh), some (.int ((s.c + s.n : Nat) : Int)), some (.ref lb), some (.ref wb), none, none, none, none, none, none]) (H := H5) (j := 9) (vs := [9]) (t := tYes) (te := tIf (tTest (tOp rIsN (tOp (rIxT K) (tVar 3) (tVar 9)) (tC .non))) (tC .non) (tOp (rIxT K) (tVar 4) (tVar 9))) (fun _ => true) (fun k => if xs.getD k (.int 0) = V.non then V.non else .ref (refs.getD k 0)) (ea_1 (ev_var (i := 2) rfl)) (by omega) (fun x => rfl) (fun k H6 e6 hk => et_yes)
        (fun k H6 e6 hk _ => by
          have hkx : k < xs.length := by rw [L5.lx]; omega
          have hkr : k < refs.length := by omega
          have t1 : EvT (tTest (tOp rIsN (tOp (rIxT K) (tVar 3) (tVar 9)) (tC .non))) [some (.ref a), some (.ref sh), some (.int ((s.c + s.n : Nat) : Int)), some (.ref lb), some (.ref wb), none, none, none, none, some (.int (k : Int)), none] H6 (decide (xs[k] = V.non)) := et_test (ev_isN (ev_ixT (ev_var rfl) (ev_var rfl) (ex_t e6 L5.sq) (atI_nat (List.getElem?_eq_getElem hkx))))
          rw [show xs.getD k (.int 0) = xs[k] from getD_lt hkx]
          refine ev_if t1 (fun z => ?_) (fun z => ?_)
          · rw [if_pos (of_decide_eq_true z)]; exact ev_c
          · rw [if_neg (of_decide_eq_false z), getD_lt hkr]
            exact ev_ixT (ev_var rfl) (ev_var rfl) (ex_t e6 m1) (atI_nat (refs_at (List.getElem?_eq_getElem hkr))))
      rw [given_true, Int.toNat_natCast] at lc
      refine eh_tupN lc H5 (.refl H5) _ fun nb H6 _ e6 h6 => ?_
      have U6 : Up a H H6 := U5.trans (.ex e6 U5.src)
      obtain ⟨ds6, L6⟩ := lf_of (s := s) (H := H6) o (st_of h6) (by simp) fun x hx => by
        obtain ⟨k, hk, rfl⟩ := List.mem_map.mp hx
        have hk := List.mem_range.mp hk
        have hkr : k < refs.length := by omega
        split
        · exact .inl rfl
        · rw [getD_lt hkr]; exact monoK_opt _ _ _ (.ex e6) (hcell k hkr)
      exact KK _ _ ⟨nb, _, ds6, _, rfl, U6, L6⟩
    · rw [decide_eq_false c]
      exact iteF (KK _ _ ⟨lb, xs, ds, none, rfl, U3, L2'.kp (u3.kp U2.src)⟩)
theorem ok_law_left_right (T : Txt K mg) (B : Bt T base) : FnG P w K mg base CX0 9 T.f_law_left_right T.fd_law_left_right ["_law_source", "_law_shape"] (sp_law_left_right T) :=
  fnG_okC T.FC_law_left_right sc_law_left_right (fun vs H Q E h => len_law_left_right T h) fun A outer s H vs Q E hg hr h => ⟨t_law_left_right T, by
    exact (pss_cons (ps_set (i := 2) sc_law_left_right.nd rfl (Or.inl rfl) (pe_op op_add (pe_callB call_len (by rfl) T.m_len (by decide +kernel) (pa_cons (pe_ix ix_tup (pv 1) pe_int (fun _ _ => rfl)) pa_nil)) (pe_ix ix_tup (pv 1) pe_int (fun _ _ => rfl)))) (pss_cons (ps_set (i := 3) sc_law_left_right.nd rfl (Or.inr rfl) (pe_callTy call_tuple_of (by rfl) T.m_tuple (by decide +kernel) (pa_cons (pe_lc (own := [("_law_k", 9)]) (g := (gName 9)) (tt := tYes) (te := (tIf (tTest (tOp rGtI (tCall (sp_law_take T) [] E0 (tCons (tVar 0) (tCons (tC (.int 3)) tNil))) (tC (.int 0)))) (tCall (sp_law_any_cell T) [] E0 (tCons (tVar 0) (tCons (tVar 1) tNil))) (tC .non))) rfl sc_law_left_right.nd (pi_range1 (by rfl) T.m_range (pa_cons (pv 2) pa_nil)) (blkOk_by (own := [("_law_k", 9)]) (N := n_law_left_right) (sc := defScope s_law_left_right) (by decide +kernel)) (fun _ _ _ _ _ => (pg_name (i := 9) sc_law_left_right.nd rfl (Or.inl rfl))) (fun _ _ _ _ _ => pts_nil) (fun _ _ _ _ _ => (pe_ifExp (pt_cmpR op_gt (pe_call (ok_law_take T) (hr.mono (by decide)) (by rfl) T.d_law_take.g T.d_law_take.F.kp T.d_law_take.b .nil pass0 (pa_cons (pv 0) (pa_cons pe_int pa_nil))) pe_int (nomark _)) (pe_call (ok_law_any_cell T) (hr.mono (by decide)) (by rfl) T.d_law_any_cell.g T.d_law_any_cell.F.kp T.d_law_any_cell.b .nil pass0 (pa_cons (pv 0) (pa_cons (pv 1) pa_nil))) pe_non))) pa_nil))) (pss_cons (ps_if (pt_cmpR op_eq (pe_call (ok_law_take T) (hr.mono (by decide)) (by rfl) T.d_law_take.g T.d_law_take.F.kp T.d_law_take.b .nil pass0 (pa_cons (pv 0) (pa_cons pe_int pa_nil))) pe_int (nomark _)) (pss_cons (ps_set (i := 4) sc_law_left_right.nd rfl (Or.inr rfl) (pe_call (ok_stripe T) (hr.mono (by decide)) (by rfl) T.d_stripe.g T.d_stripe.F.kp T.d_stripe.b .nil passL (pa_cons (pv 1) (pa_cons (pe_callTy call_tuple_of (by rfl) T.m_tuple (by decide +kernel) (pa_cons (pe_lc (own := [("_law_x", 10)]) (g := (gName 10)) (tt := tYes) (te := (tCall (sp_law_any_cell T) [] E0 (tCons (tVar 0) (tCons (tVar 1) tNil)))) rfl sc_law_left_right.nd (pi_range1 (by rfl) T.m_range (pa_cons (pe_ix ix_tup (pv 1) pe_int (fun _ _ => rfl)) pa_nil)) (blkOk_by (own := [("_law_x", 10)]) (N := n_law_left_right) (sc := defScope s_law_left_right) (by decide +kernel)) (fun _ _ _ _ _ => (pg_name (i := 10) sc_law_left_right.nd rfl (Or.inl rfl))) (fun _ _ _ _ _ => pts_nil) (fun _ _ _ _ _ => (pe_call (ok_law_any_cell T) (hr.mono (by decide)) (by rfl) T.d_law_any_cell.g T.d_law_any_cell.F.kp T.d_law_any_cell.b .nil pass0 (pa_cons (pv 0) (pa_cons (pv 1) pa_nil))))) pa_nil)) pa_nil)))) (pss_one (ps_set (i := 3) sc_law_left_right.nd rfl (Or.inr rfl) (pe_callTy call_tuple_of (by rfl) T.m_tuple (by decide +kernel) (pa_cons (pe_lc (own := [("_law_k", 9)]) (g := (gName 9)) (tt := tYes) (te := (tIf (tTest (tOp rIsN (tOp (rIxT K) (tVar 3) (tVar 9)) (tC .non))) (tC .non) (tOp (rIxT K) (tVar 4) (tVar 9)))) rfl sc_law_left_right.nd (pi_range1 (by rfl) T.m_range (pa_cons (pv 2) pa_nil)) (blkOk_by (own := [("_law_k", 9)]) (N := n_law_left_right) (sc := defScope s_law_left_right) (by decide +kernel)) (fun _ _ _ _ _ => (pg_name (i := 9) sc_law_left_right.nd rfl (Or.inl rfl))) (fun _ _ _ _ _ => pts_nil) (fun _ _ _ _ _ => (pe_ifExp (pt_cmpR op_isN (pe_ix ix_tup (pv 3) (pv 9) (fun _ _ => rfl)) pe_non (nomark _)) pe_non (pe_ix ix_tup (pv 4) (pv 9) (fun _ _ => rfl))))) pa_nil))))) pss_nil) (pss_cons (ps_set (i := 5) sc_law_left_right.nd rfl (Or.inl rfl) (pe_callTy call_tuple_of (by rfl) T.m_tuple (by decide +kernel) (pa_cons (pe_lc (own := [("_law_k", 9)]) (g := (gName 9)) (tt := (tTest (tOp rIsN (tOp (rIxT K) (tVar 3) (tVar 9)) (tC .non)))) (te := (tVar 9)) rfl sc_law_left_right.nd (pi_range1 (by rfl) T.m_range (pa_cons (pv 2) pa_nil)) (blkOk_by (own := [("_law_k", 9)]) (N := n_law_left_right) (sc := defScope s_law_left_right) (by decide +kernel)) (fun _ _ _ _ _ => (pg_name (i := 9) sc_law_left_right.nd rfl (Or.inl rfl))) (fun _ _ _ _ _ => pts_one (pt_cmpR op_isN (pe_ix ix_tup (pv 3) (pv 9) (fun _ _ => rfl)) pe_non (nomark _))) (fun _ _ _ _ _ => (pv 9))) pa_nil))) (pss_cons (ps_if (PW.pt (pw_or (pt_cmpR op_ne (pe_callB (call_show hg hr.units) (by rfl) T.m_repr (by decide +kernel) (pa_cons (pe_call (ok_made_left T) (hr.mono (by decide)) (by rfl) T.d_made_left.g T.d_made_left.F.kp T.d_made_left.b .nil passL (pa_cons (pv 1) (pa_cons (pv 3) pa_nil))) pa_nil)) (pe_callB (call_show hg hr.units) (by rfl) T.m_repr (by decide +kernel) (pa_cons (pv 3) pa_nil)) (nomark _)) (pw_or1 (pt_cmpR op_ne (pe_callB (call_show hg hr.units) (by rfl) T.m_repr (by decide +kernel) (pa_cons (pe_call (ok_lost_of T) (hr.mono (by decide)) (by rfl) T.d_lost_of.g T.d_lost_of.F.kp T.d_lost_of.b .nil pass0 (pa_cons (pv 3) pa_nil)) pa_nil)) (pe_callB (call_show hg hr.units) (by rfl) T.m_repr (by decide +kernel) (pa_cons (pv 5) pa_nil)) (nomark _))))) (pss_one (ps_ret pe_bl)) pss_nil) (pss_cons (ps_for PassesOwn.never rfl (pi_range1 (by rfl) T.m_range (pa_cons pe_int pa_nil)) (pg_name (i := 6) sc_law_left_right.nd rfl (Or.inl rfl)) (pss_cons (ps_asg (pe_call (ok_law_spoilt T) (hr.mono (by decide)) (by rfl) T.d_law_spoilt.g T.d_law_spoilt.F.kp T.d_law_spoilt.b .nil pass0 (pa_cons (pv 0) (pa_cons (pv 1) (pa_cons (pv 3) (pa_cons pe_bl pa_nil))))) (pg_tup rfl (pgs_cons (pg_name (i := 7) sc_law_left_right.nd rfl (Or.inr rfl)) (pgs_cons (pg_name (i := 8) sc_law_left_right.nd rfl (Or.inl rfl)) pgs_nil)))) (pss_one (ps_if (pt_cmpR (op_neD hr.units) (pe_lamF (k := 6) (T := T.tabs) (TT := THeard T) (t := fun E => (tCall (sp_made_left T) [] E (tCons (tVar 1) (tCons (tVar 7) tNil)))) T.d_law_heard.F (by rfl) T.d_law_heard.g T.d_law_heard.b sc_law_heard rfl (Or.inl rfl) (fun cdg => gives_law_heard (X := (cxOf CX0 P w K mg base n_law_left_right "_law_left_right" (defScope s_law_left_right) T.f_law_left_right (.ref T.cc_law_left_right) A outer s H E).nox) T cdg _) B.tb_law_left_right rfl T.mem_law_left_right T.one_law_left_right (hr.mono (by decide)) (lamS_by (sc := defScope s_law_left_right) (by decide +kernel)) rfl (fun _ _ _ _ _ => rfl) (fun A outer s H E f c' hrl => (pe_call (ok_made_left T) (hrl.mono (by decide)) (by rfl) T.d_made_left.g T.d_made_left.F.kp T.d_made_left.b .nil (passes_call (takes_of rfl rfl rfl rfl) fun _ _ _ _ h => h) (pa_cons (pv 1) (pa_cons (pv 7) pa_nil))))) (pe_lst (pa_cons pe_str (pa_cons pe_bl (pa_cons pe_bl (pa_cons (pv 8) pa_nil))))) (nomark _)) (pss_one (ps_ret pe_bl)) pss_nil)))) (pss_one (ps_ret (pe_and (pe_cmpR (op_eqD hr.units) (pe_call (ok_lost_of T) (hr.mono (by decide)) (by rfl) T.d_lost_of.g T.d_lost_of.F.kp T.d_lost_of.b .nil pass0 (pa_cons (pe_op op_times0 (pe_tup (pa_cons pe_non pa_nil)) (pv 2)) pa_nil)) (pe_callTy call_tuple_of (by rfl) T.m_tuple (by decide +kernel) (pa_cons (pe_lc (own := [("_law_k", 9)]) (g := (gName 9)) (tt := tYes) (te := (tVar 9)) rfl sc_law_left_right.nd (pi_range1 (by rfl) T.m_range (pa_cons (pv 2) pa_nil)) (blkOk_by (own := [("_law_k", 9)]) (N := n_law_left_right) (sc := defScope s_law_left_right) (by decide +kernel)) (fun _ _ _ _ _ => (pg_name (i := 9) sc_law_left_right.nd rfl (Or.inl rfl))) (fun _ _ _ _ _ => pts_nil) (fun _ _ _ _ _ => (pv 9))) pa_nil)) (nomark _)) (pe_one (pe_cmpR (op_eqD hr.units) (pe_call (ok_lost_of T) (hr.mono (by decide)) (by rfl) T.d_lost_of.g T.d_lost_of.F.kp T.d_lost_of.b .nil pass0 (pa_cons (pe_tup pa_nil) pa_nil)) (pe_tup pa_nil) (nomark _)))))))))))), pure_law_left_right T h⟩

end
end My


set_option maxHeartbeats 1000000
namespace My
open PySem PySem.Spec PyProof.Rows L2 Own LamX
open Evl (Ex RetV)
section
variable {P : Program} {w : World} {K : PySem.W.Frag} {mg : Str → Option Value} {base : Heap}

open Evl
/-! ### the law -/
def EvXD (K : PySem.W.Frag) (ta : TA) (σ : L2.St) (H : Hp) (k : Nat) (ds : List PyData) : Prop := ∀ H1, Ex H H1 → ∀ Q : List V → Hp → Prop, (∀ vs H2, Ex H1 H2 → GdAll K H2 k vs ds → Q vs H2) → ta σ H1 Q
theorem xd_nil {σ : L2.St} {H : Hp} {k : Nat} : EvXD K tNil σ H k [] := fun H1 e Q q => q [] H1 (.refl H1) .nil
theorem xd_cons {σ : L2.St} {H : Hp} {k : Nat} {te : TE} {ta : TA} {d : PyData} {ds : List PyData} (h : EvX te σ H (PG K k d)) (hr : EvXD K ta σ H k ds) : EvXD K (tCons te ta) σ H k (d :: ds) := fun H1 e Q q =>
  h H1 e _ fun v H2 e2 g => hr H2 (e.trans e2) _ fun vs H3 e3 gs => q (v :: vs) H3 (e2.trans e3) (.cons (Gd.ex e3 g) gs)
theorem ex_tupD {σ : L2.St} {H : Hp} {k : Nat} {ta : TA} {ds : List PyData} (h : EvXD K ta σ H k ds) (hl : ds.length ≤ 20) : EvX (tTup ta) σ H (PG K (k + 1) (.tuple ds)) := fun H1 e Q q =>
  h H1 e _ fun vs H2 e2 gs => by
    have l := gdAll_len gs
    exact ⟨sz_of (by omega), fun p np => q _ _ (e2.trans (Ex.new np)) (gd_tup (st_of upd_same) (gs.kp (.new np)) (by omega))⟩
theorem ex_i {σ : L2.St} {H : Hp} {i : Int} (h : i.natAbs < 2 ^ 64) : EvX (tC (.int i)) σ H (PG K 0 (.int i)) := ex_c fun _ => gd_int h
theorem ex_1 {σ : L2.St} {H : Hp} {i : Int} (h : i.natAbs < 2 ^ 64) : EvX (tTup (tCons (tC (.int i)) tNil)) σ H (PG K 1 (intsD [i])) := ex_tupD (xd_cons (ex_i h) xd_nil) (by show 1 ≤ 20; decide)
theorem ex_2 {σ : L2.St} {H : Hp} {i j : Int} (h : i.natAbs < 2 ^ 64) (h2 : j.natAbs < 2 ^ 64) : EvX (tTup (tCons (tC (.int i)) (tCons (tC (.int j)) tNil))) σ H (PG K 1 (intsD [i, j])) := ex_tupD (xd_cons (ex_i h) (xd_cons (ex_i h2) xd_nil)) (by show 2 ≤ 20; decide)
theorem mt_of_gd {H : Hp} {v : V} {R : Mx} (g : Gd K H 2 v (matD R)) : ∃ ra, v = .ref ra ∧ MT K ra R H := by
  obtain ⟨a, xs, j, rfl, hj, hs, hl, _, _, _, hx⟩ := g.tup
  rw [List.length_map] at hl
  have key : ∀ (xs : List V) (R : Mx), xs.length = R.length → (∀ i x, xs[i]? = some x → ∃ d, (R.map intsD)[i]? = some d ∧ Gd K H j x d) → ∃ refs : List Addr, xs = refs.map V.ref ∧ refs.length = R.length ∧ ∀ i b, refs[i]? = some b → SqT K H b ((row R i).map V.int) := fun xs => by
    induction xs with
    | nil => intro R hl _; cases R with
      | nil => exact ⟨[], rfl, rfl, fun i b hb => by simp at hb⟩
      | cons _ _ => cases hl
    | cons x xs ih =>
      intro R hl h
      cases R with
      | nil => cases hl
      | cons r R =>
        obtain ⟨refs, rfl, h2, h3⟩ := ih R (by simpa using hl) fun i y hy => let ⟨d, h1, h2⟩ := h (i + 1) y hy; ⟨d, h1, h2⟩
        obtain ⟨d, hd, gd⟩ := h 0 x rfl
        injection hd with hd
        subst hd
        obtain ⟨b, rfl, hb, _⟩ := gd_ints_of gd
        refine ⟨b :: refs, rfl, by simp [h2], fun i c hc => ?_⟩
        cases i with
        | zero => simp at hc; subst hc; exact hb
        | succ i => exact h3 i c (by simpa using hc)
  obtain ⟨refs, rfl, h2, h3⟩ := key xs R hl hx
  exact ⟨a, rfl, refs, hs, h2, h3⟩
theorem sh_of_gd {H : Hp} {v : V} {s : Shp} (g : Gd K H 3 v (shD s)) : ∃ sh, v = .ref sh ∧ Sh K sh s H := by
  obtain ⟨a, xs, j, rfl, hj, hs, hl, _, _, _, hx⟩ := g.tup
  obtain rfl : j = 2 := by omega
  match xs, hl, hs, hx with
  | [x0, x1, x2, x3, x4, x5, x6], _, hs, hx =>
    have at_ : ∀ {i : Nat} {x : V} {z : Int}, [x0, x1, x2, x3, x4, x5, x6][i]? = some x → ([.int s.p, .int s.w, .int s.n, .int s.k, .int s.e, .int s.m, matD s.t] : List PyData)[i]? = some (.int z) → x = .int z := fun {i x z} h1 h2 => by
      obtain ⟨d, hd, gd⟩ := hx i x h1
      rw [h2] at hd
      injection hd with hd
      subst hd
      cases gd.dp
      rfl
    obtain rfl := at_ (i := 0) (x := x0) rfl rfl
    obtain rfl := at_ (i := 1) (x := x1) rfl rfl
    obtain rfl := at_ (i := 2) (x := x2) rfl rfl
    obtain rfl := at_ (i := 3) (x := x3) rfl rfl
    obtain rfl := at_ (i := 4) (x := x4) rfl rfl
    obtain rfl := at_ (i := 5) (x := x5) rfl rfl
    obtain ⟨d, hd, gd⟩ := hx 6 x6 rfl
    injection hd with hd
    subst hd
    obtain ⟨tb, rfl, m⟩ := mt_of_gd gd
    exact ⟨a, rfl, tb, hs, m⟩
def s0 : Shp := ⟨5, 1, 2, 2, 0, 0, [[3, 1], [2, 2], [3, 4]]⟩
theorem s0_ok : s0.Ok := ⟨⟨by decide, by decide, by decide +kernel⟩, by decide, by decide, by decide, by decide, by decide, by decide, fun r hr => by
  have : ∀ r ∈ s0.t, r.length = 2 ∧ ∀ x ∈ r, 0 ≤ x ∧ x < 5 := by decide
  exact this r hr⟩
theorem rim3 (l : Int) : 1 ≤ (if (if 3 < l then 3 else l) > 1 then (if 3 < l then 3 else l) else 1) ∧ (if (if 3 < l then 3 else l) > 1 then (if 3 < l then 3 else l) else 1) ≤ 3 := by
  by_cases h : 3 < l
  · rw [if_pos h]; decide
  · rw [if_neg h]
    by_cases h2 : l > 1
    · rw [if_pos h2]; omega
    · rw [if_neg h2]; decide
theorem et_neSameX {σ : L2.St} {H : Hp} {ta tb : TE} {k j : Nat} {d : PyData} (h1 : EvX ta σ H (PG K k d)) (h2 : EvX tb σ H (PG K j d)) (hk : k ≤ 60) (hj : j ≤ 60) : EvT (tTest (tOp (rNeD K) ta tb)) σ H false := fun H1 e1 Q q => by
  refine h1 H1 e1 _ fun v H2 e2 g1 => h2 H2 (e1.trans e2) _ fun w H3 e3 g2 => neG (Gd.ex e3 g1) g2 hk hj ?_
  rw [SeqAt.eqv_refl d (fine_lay d j g2.fn)]
  exact ⟨false, rfl, q H3 (e2.trans e3)⟩
def t_law (T : Txt K mg) : TS := (tSeq (tAsg (tTup (tCons (tC (.int 5)) (tCons (tC (.int 1)) (tCons (tC (.int 2)) (tCons (tC (.int 2)) (tCons (tC (.int 0)) (tCons (tC (.int 0)) (tCons (tTup (tCons (tTup (tCons (tC (.int 3)) (tCons (tC (.int 1)) tNil))) (tCons (tTup (tCons (tC (.int 2)) (tCons (tC (.int 2)) tNil))) (tCons (tTup (tCons (tC (.int 3)) (tCons (tC (.int 4)) tNil))) tNil)))) tNil)))))))) (gName 1)) (tSeq (tIfS (tOr (tTest (tOp (rNeD K) (tCall (sp_stripe T) [] E0 (tCons (tVar 1) (tCons (tTup (tCons (tTup (tCons (tC (.int 1)) tNil)) (tCons (tTup (tCons (tC (.int 0)) tNil)) tNil))) tNil))) (tTup (tCons (tTup (tCons (tC (.int 3)) tNil)) (tCons (tTup (tCons (tC (.int 2)) tNil)) (tCons (tTup (tCons (tC (.int 3)) tNil)) (tCons (tTup (tCons (tC (.int 1)) tNil)) (tCons (tTup (tCons (tC (.int 0)) tNil)) tNil)))))))) (tTest (tOp (rNeD K) (tCall (sp_lost_of T) [] E0 (tCons (tTup (tCons (tC .non) (tCons (tTup (tCons (tC (.int 1)) tNil)) (tCons (tC .non) tNil)))) tNil)) (tTup (tCons (tC (.int 0)) (tCons (tC (.int 2)) tNil)))))) (tRet (tC (.bl false))) tNext) (tSeq (tFor (iRng1 (tCons (tCB Own.rMax2 (tCons (tC (.int 1)) (tCons (tCB rMin2 (tCons (tCB (rLenV K) (tCons (tVar 0) tNil)) (tCons (tC (.int 3)) tNil))) tNil))) tNil)) (gName 2) (tSeq (tAsg (tCall (sp_law_pool T) [] E0 (tCons (tVar 0) (tCons (tVar 2) tNil))) (gName 3)) (tSeq (tAsg (tCall (sp_law_any_shape T) [] E0 (tCons (tVar 3) tNil)) (gName 1)) (tIfS (tOr (tNot (tB (tGo (sp_law_row_right T) (tCons (tVar 3) (tCons (tVar 1) tNil))))) (tNot (tB (tGo (sp_law_left_right T) (tCons (tVar 3) (tCons (tVar 1) tNil)))))) (tRet (tC (.bl false))) tNext)))) (tRet (tC (.bl true))))))

theorem pure_law (T : Txt K mg) {vs H Q} {E : XK} (h : sp_law T.Ps K vs H Q E) : t_law T { nx := fun _ H' => Q .non H', rt := Q } (L2.start n_law vs) H := by
  obtain ⟨b, ns, rfl, hs, hl63, nolst, htab, q⟩ := h
  have hsk : ∀ {H' : Hp}, Kp H H' → SqL K H' b (ns.map V.int) := fun e => by
    rcases hs with (w | ⟨o, w⟩) | w
    · exact absurd w (nolst _)
    · exact .inl (.inr ⟨o, e b _ w ⟨(by intro xs z; cases z), (by intro xs z; cases z)⟩⟩)
    · exact .inr w
  have T0 : Tabs T.tabs H := fun p hp => TabS.nil (htab p.1 (by
    unfold Txt.tabs at hp
    unfold Txt.Ps
    simp only [List.mem_cons, List.not_mem_nil, or_false] at hp ⊢
    rcases hp with rfl | rfl
    · exact .inl rfl
    · exact .inr rfl))
  -- the told example
  have up : ∀ {i : Int}, i.natAbs < 2 ^ 64 → EvX (tC (.int i)) (L2.start n_law [.ref b]) H (PG K 2 (.int i)) := fun h => ex_imp (ex_i h) fun _ _ g => Gd.up (by decide) g
  refine sx_asg (ex_tupD (ds := [.int 5, .int 1, .int 2, .int 2, .int 0, .int 0, matD s0.t]) (xd_cons (up (by decide)) (xd_cons (up (by decide)) (xd_cons (up (by decide)) (xd_cons (up (by decide)) (xd_cons (up (by decide)) (xd_cons (up (by decide)) (xd_cons
    (ex_tupD (ds := s0.t.map intsD) (xd_cons (ex_2 (by decide) (by decide)) (xd_cons (ex_2 (by decide) (by decide)) (xd_cons (ex_2 (by decide) (by decide)) xd_nil))) (by decide)) xd_nil))))))) (by show 7 ≤ 20; decide)) fun v H2 e2 gs => ?_
  obtain ⟨sh, rfl, S0⟩ := sh_of_gd (s := s0) gs
  have R0 : WF 5 1 ([[1], [0]] : Mx) := fun r hr => by
    have : ∀ r ∈ ([[1], [0]] : Mx), r.length = 1 ∧ ∀ x ∈ r, 0 ≤ x ∧ x < 5 := by decide
    exact this r hr
  have st0 : stripeM s0 [[1], [0]] = [[3], [2], [3], [1], [0]] := by decide +kernel
  have x1 : EvX (tCall (sp_stripe T) [] E0 (tCons (tVar 1) (tCons (tTup (tCons (tTup (tCons (tC (.int 1)) tNil)) (tCons (tTup (tCons (tC (.int 0)) tNil)) tNil))) tNil))) [some (.ref b), some (.ref sh), none, none] H2 (PG K 2 (matD [[3], [2], [3], [1], [0]])) := fun H3 e3 Q' q' => by
    refine ⟨_, rfl, (show EvX (tTup (tCons (tTup (tCons (tC (.int 1)) tNil)) (tCons (tTup (tCons (tC (.int 0)) tNil)) tNil))) [some (.ref b), some (.ref sh), none, none] H2 (PG K 2 (matD [[1], [0]])) from ex_tupD (xd_cons (ex_1 (by decide)) (xd_cons (ex_1 (by decide)) xd_nil)) (by decide)) H3 e3 _ fun v H4 e4 g4 => ?_⟩
    obtain ⟨ra, rfl, mr⟩ := mt_of_gd (R := [[1], [0]]) g4
    refine ⟨sh, s0, 2, .ref ra, matD [[1], [0]], rfl, S0.ex (e3.trans e4), s0_ok, g4, fun _ => ⟨ra, [[1], [0]], rfl, mr, rfl, R0, fun t H5 e5 m => ?_⟩, fun f hf => by rw [rowF_ok (s := s0) R0 rfl] at hf; cases hf⟩
    rw [st0] at m
    exact q' _ H5 (e4.trans e5) (gd_mat (p := 5) (n := 1) m (fun r hr => by
      have : ∀ r ∈ ([[3], [2], [3], [1], [0]] : Mx), r.length = 1 ∧ ∀ x ∈ r, 0 ≤ x ∧ x < 5 := by decide
      exact this r hr) (by decide) (by decide) (by decide))
  have x2 : EvX (tTup (tCons (tTup (tCons (tC (.int 3)) tNil)) (tCons (tTup (tCons (tC (.int 2)) tNil)) (tCons (tTup (tCons (tC (.int 3)) tNil)) (tCons (tTup (tCons (tC (.int 1)) tNil)) (tCons (tTup (tCons (tC (.int 0)) tNil)) tNil)))))) [some (.ref b), some (.ref sh), none, none] H2 (PG K 2 (matD [[3], [2], [3], [1], [0]])) :=
    ex_tupD (xd_cons (ex_1 (by decide)) (xd_cons (ex_1 (by decide)) (xd_cons (ex_1 (by decide)) (xd_cons (ex_1 (by decide)) (xd_cons (ex_1 (by decide)) xd_nil))))) (by decide)
  have x3 : EvX (tCall (sp_lost_of T) [] E0 (tCons (tTup (tCons (tC .non) (tCons (tTup (tCons (tC (.int 1)) tNil)) (tCons (tC .non) tNil)))) tNil)) [some (.ref b), some (.ref sh), none, none] H2 (PG K 1 (intsD [0, 2])) := fun H3 e3 Q' q' =>
    ⟨by show 1 ≤ sizeLine; decide, fun c nc => ⟨by show 3 ≤ sizeLine; decide, fun p np => ⟨p, [.non, .ref c, .non], rfl, st_of upd_same, by show 3 ≤ 1000; decide, fun t H4 _ e4 h4 => q' _ H4 ((Ex.new nc).trans ((Ex.new np).trans e4)) (nons_gd (xs := [.non, .ref c, .non]) (by show 3 ≤ 20; decide) h4)⟩⟩⟩
  have x4 : EvX (tTup (tCons (tC (.int 0)) (tCons (tC (.int 2)) tNil))) [some (.ref b), some (.ref sh), none, none] H2 (PG K 1 (intsD [0, 2])) := ex_2 (by decide) (by decide)
  refine q_when (et_or (et_neSameX x1 x2 (by decide) (by decide)) fun _ => et_neSameX x3 x4 (by decide) (by decide)) (fun c => by cases c) fun _ H3 e3 => ?_
  have E3 : Ex H H3 := e2.trans e3
  -- for k in range(..)
  have len3 := ev_lenL (K := K) (σ := [some (.ref b), some (.ref sh), none, none]) (ta := tVar 0) (H := H3) (ev_var rfl) (hsk (.ex E3))
  have rm := rim3 ((ns.map V.int).length : Int)
  refine q_forR1 (ea_1 (Own.ev_max2 (ev_c (v := .int 1)) (ev_min2 len3 (ev_c (v := .int 3))))) ⟨by omega, by omega⟩ (fun i σ' H' => ∃ u1 u2 u3, σ' = [some (.ref b), u1, u2, u3] ∧ Kp H H' ∧ Tabs T.tabs H')
    (fun H4 e4 => ⟨_, _, _, rfl, .ex (E3.trans e4), T0.ext (E3.trans e4)⟩) (fun i σ' H' hi p => ?_) (fun σ' H' ⟨u1, u2, u3, es, _, _⟩ => by subst es; exact s_ret ev_c fun H2 e2 => q H2)
  obtain ⟨u1, u2, u3, rfl, k4, T4⟩ := p
  have hi3 : i ≤ 100 := by
    have : (i : Int) < 4 := Int.lt_of_lt_of_le hi (by omega)
    omega
  refine ⟨_, rfl, _, rfl, b, ns, i, rfl, hsk k4, hl63, by omega, by omega, fun a H5 na e5 src => ?_⟩
  have T5 : Tabs T.tabs H5 := T4.ext e5
  refine ⟨_, rfl, a, rfl, src, fun sh' s H6 u6 S6 o => ?_⟩
  have s6 := u6.src
  have T6 : Tabs T.tabs H6 := tabs_up T5 u6 src
  have k6 : Kp H H6 := (k4.trans (.ex e5)).trans (u6.kp src)
  -- not row_right or not left_right
  refine ⟨_, rfl, _, rfl, ⟨a, sh', s, rfl, s6, S6, o, T6, fun H7 V7 T7 => ⟨true, rfl, ?_⟩⟩⟩
  dsimp only
  rw [if_neg (by simp)]
  have S7 : Sh K sh' s H7 := S6.kp (V7.kp s6)
  refine ⟨_, rfl, _, rfl, ⟨a, sh', s, rfl, V7.src, S7, o, T7, fun H8 V8 T8 => ⟨true, rfl, ?_⟩⟩⟩
  dsimp only
  rw [if_neg (by simp)]
  exact ⟨_, _, _, rfl, (k6.trans (V7.kp s6)).trans (V8.kp V7.src), T8⟩
theorem len_law (T : Txt K mg) {vs H Q E} (h : sp_law T.Ps K vs H Q E) : vs.length = 1 := by obtain ⟨_, _, rfl, _⟩ := h; rfl
theorem ok_law (T : Txt K mg) (B : Bt T base) : FnG P w K mg base CX0 11 T.f_law T.fd_law ["_law_script"] (sp_law T.Ps K) :=
  fnG_ok T.d_law.F sc_law (fun vs H Q E h => len_law T h) fun cdv A outer s H vs Q E hg hr h => ⟨t_law T, by
    exact (pss_cons (ps_set (i := 1) sc_law.nd rfl (Or.inl rfl) (pe_tup (pa_cons pe_int (pa_cons pe_int (pa_cons pe_int (pa_cons pe_int (pa_cons pe_int (pa_cons pe_int (pa_cons (pe_tup (pa_cons (pe_tup (pa_cons pe_int (pa_cons pe_int pa_nil))) (pa_cons (pe_tup (pa_cons pe_int (pa_cons pe_int pa_nil))) (pa_cons (pe_tup (pa_cons pe_int (pa_cons pe_int pa_nil))) pa_nil)))) pa_nil))))))))) (pss_cons (ps_if (PW.pt (pw_or (pt_cmpR (op_neD hr.units) (pe_call (ok_stripe T) (hr.mono (by decide)) (by rfl) T.d_stripe.g T.d_stripe.F.kp T.d_stripe.b .nil passL (pa_cons (pv 1) (pa_cons (pe_tup (pa_cons (pe_tup (pa_cons pe_int pa_nil)) (pa_cons (pe_tup (pa_cons pe_int pa_nil)) pa_nil))) pa_nil))) (pe_tup (pa_cons (pe_tup (pa_cons pe_int pa_nil)) (pa_cons (pe_tup (pa_cons pe_int pa_nil)) (pa_cons (pe_tup (pa_cons pe_int pa_nil)) (pa_cons (pe_tup (pa_cons pe_int pa_nil)) (pa_cons (pe_tup (pa_cons pe_int pa_nil)) pa_nil)))))) (nomark _)) (pw_or1 (pt_cmpR (op_neD hr.units) (pe_call (ok_lost_of T) (hr.mono (by decide)) (by rfl) T.d_lost_of.g T.d_lost_of.F.kp T.d_lost_of.b .nil pass0 (pa_cons (pe_tup (pa_cons pe_non (pa_cons (pe_tup (pa_cons pe_int pa_nil)) (pa_cons pe_non pa_nil)))) pa_nil)) (pe_tup (pa_cons pe_int (pa_cons pe_int pa_nil))) (nomark _))))) (pss_one (ps_ret pe_bl)) pss_nil) (pss_cons (ps_for PassesOwn.never rfl (pi_range1 (by rfl) T.m_range (pa_cons (pe_callB (call_max2 rfl) (by rfl) T.m_max (by decide +kernel) (pa_cons pe_int (pa_cons (pe_callB (call_min2 rfl) (by rfl) T.m_min (by decide +kernel) (pa_cons (pe_callB call_len (by rfl) T.m_len (by decide +kernel) (pa_cons (pv 0) pa_nil)) (pa_cons pe_int pa_nil))) pa_nil))) pa_nil)) (pg_name (i := 2) sc_law.nd rfl (Or.inl rfl)) (pss_cons (ps_set (i := 3) sc_law.nd rfl (Or.inl rfl) (pe_call (ok_law_pool T) (hr.mono (by decide)) (by rfl) T.d_law_pool.g T.d_law_pool.F.kp T.d_law_pool.b .nil pass0 (pa_cons (pv 0) (pa_cons (pv 2) pa_nil)))) (pss_cons (ps_set (i := 1) sc_law.nd rfl (Or.inl rfl) (pe_call (ok_law_any_shape T) (hr.mono (by decide)) (by rfl) T.d_law_any_shape.g T.d_law_any_shape.F.kp T.d_law_any_shape.b .nil pass0 (pa_cons (pv 3) pa_nil))) (pss_one (ps_if (PW.pt (pw_or (pt_not (pt_val (pe_callG (ok_law_row_right T B) hg (hr.mono (by decide)) (by rfl) T.d_law_row_right.g T.d_law_row_right.F.kp T.d_law_row_right.b pass0 (pa_cons (pv 3) (pa_cons (pv 1) pa_nil))))) (pw_or1 (pt_not (pt_val (pe_callG (ok_law_left_right T B) hg (hr.mono (by decide)) (by rfl) T.d_law_left_right.g T.d_law_left_right.F.kp T.d_law_left_right.b pass0 (pa_cons (pv 3) (pa_cons (pv 1) pa_nil)))))))) (pss_one (ps_ret pe_bl)) pss_nil))))) (pss_one (ps_ret pe_bl))))), pure_law T h⟩

end
end My


namespace My
open PySem PySem.Spec PyProof.Rows L2 Own LamX
theorem all_mk {P : Program} {w : World} {K : PySem.W.Frag} {h : Heap} {mg : Str → Option Value} {fa : Addr} (ts : List Addr) (X : K.In h) (G : h.Ns mainGlobals mg) (hfa : mg "law" = some (.ref fa))
    {f0 : Addr} {od0 an0 : Option Addr} {sl0 : Array (Option Value)} {oc0 kV0 dc0 pm0 ct0 : Value} {cd0 : Value}
    (a0 : PySem.W.nsIn K mainGlobals "number_within" = some (some (.ref f0))) (l0 : K.lookup f0 = some ⟨oc0, od0, .func (PySem.W.fnOf "number_within" "number_within" (defArgs s_number_within) (defBody s_number_within) (defScope s_number_within) .none kV0 dc0 pm0 an0 cd0 ct0), sl0⟩) (c0 : PySem.W.codeIn K cd0 "number_within" = true) (k0 : PySem.W.keepIn K (.ref f0) = true)
    {f1 : Addr} {od1 an1 : Option Addr} {sl1 : Array (Option Value)} {oc1 kV1 dc1 pm1 ct1 : Value} {cd1 : Value}
    (a1 : PySem.W.nsIn K mainGlobals "tuple_of" = some (some (.ref f1))) (l1 : K.lookup f1 = some ⟨oc1, od1, .func (PySem.W.fnOf "tuple_of" "tuple_of" (defArgs s_tuple_of) (defBody s_tuple_of) (defScope s_tuple_of) .none kV1 dc1 pm1 an1 cd1 ct1), sl1⟩) (c1 : PySem.W.codeIn K cd1 "tuple_of" = true) (k1 : PySem.W.keepIn K (.ref f1) = true)
    {f2 : Addr} {od2 an2 : Option Addr} {sl2 : Array (Option Value)} {oc2 kV2 dc2 pm2 ct2 : Value} {cd2 : Value}
    (a2 : PySem.W.nsIn K mainGlobals "is_prime" = some (some (.ref f2))) (l2 : K.lookup f2 = some ⟨oc2, od2, .func (PySem.W.fnOf "is_prime" "is_prime" (defArgs s_is_prime) (defBody s_is_prime) (defScope s_is_prime) .none kV2 dc2 pm2 an2 cd2 ct2), sl2⟩) (c2 : PySem.W.codeIn K cd2 "is_prime" = true) (k2 : PySem.W.keepIn K (.ref f2) = true)
    {f3 : Addr} {od3 an3 : Option Addr} {sl3 : Array (Option Value)} {oc3 kV3 dc3 pm3 ct3 : Value} {cd3 : Value}
    (a3 : PySem.W.nsIn K mainGlobals "made_shape" = some (some (.ref f3))) (l3 : K.lookup f3 = some ⟨oc3, od3, .func (PySem.W.fnOf "made_shape" "made_shape" (defArgs s_made_shape) (defBody s_made_shape) (defScope s_made_shape) .none kV3 dc3 pm3 an3 cd3 ct3), sl3⟩) (c3 : PySem.W.codeIn K cd3 "made_shape" = true) (k3 : PySem.W.keepIn K (.ref f3) = true)
    {f4 : Addr} {od4 an4 : Option Addr} {sl4 : Array (Option Value)} {oc4 kV4 dc4 pm4 ct4 : Value} {cd4 : Value}
    (a4 : PySem.W.nsIn K mainGlobals "shape_fault" = some (some (.ref f4))) (l4 : K.lookup f4 = some ⟨oc4, od4, .func (PySem.W.fnOf "shape_fault" "shape_fault" (defArgs s_shape_fault) (defBody s_shape_fault) (defScope s_shape_fault) .none kV4 dc4 pm4 an4 cd4 ct4), sl4⟩) (c4 : PySem.W.codeIn K cd4 "shape_fault" = true) (k4 : PySem.W.keepIn K (.ref f4) = true)
    {f5 : Addr} {od5 an5 : Option Addr} {sl5 : Array (Option Value)} {oc5 kV5 dc5 pm5 ct5 : Value} {cd5 : Value}
    (a5 : PySem.W.nsIn K mainGlobals "table_fits" = some (some (.ref f5))) (l5 : K.lookup f5 = some ⟨oc5, od5, .func (PySem.W.fnOf "table_fits" "table_fits" (defArgs s_table_fits) (defBody s_table_fits) (defScope s_table_fits) .none kV5 dc5 pm5 an5 cd5 ct5), sl5⟩) (c5 : PySem.W.codeIn K cd5 "table_fits" = true) (k5 : PySem.W.keepIn K (.ref f5) = true)
    {f6 : Addr} {od6 an6 : Option Addr} {sl6 : Array (Option Value)} {oc6 kV6 dc6 pm6 ct6 : Value} {cd6 : Value}
    (a6 : PySem.W.nsIn K mainGlobals "numbers_fit" = some (some (.ref f6))) (l6 : K.lookup f6 = some ⟨oc6, od6, .func (PySem.W.fnOf "numbers_fit" "numbers_fit" (defArgs s_numbers_fit) (defBody s_numbers_fit) (defScope s_numbers_fit) .none kV6 dc6 pm6 an6 cd6 ct6), sl6⟩) (c6 : PySem.W.codeIn K cd6 "numbers_fit" = true) (k6 : PySem.W.keepIn K (.ref f6) = true)
    {f7 : Addr} {od7 an7 : Option Addr} {sl7 : Array (Option Value)} {oc7 kV7 dc7 pm7 ct7 : Value} {cd7 : Value}
    (a7 : PySem.W.nsIn K mainGlobals "made_row" = some (some (.ref f7))) (l7 : K.lookup f7 = some ⟨oc7, od7, .func (PySem.W.fnOf "made_row" "made_row" (defArgs s_made_row) (defBody s_made_row) (defScope s_made_row) .none kV7 dc7 pm7 an7 cd7 ct7), sl7⟩) (c7 : PySem.W.codeIn K cd7 "made_row" = true) (k7 : PySem.W.keepIn K (.ref f7) = true)
    {f8 : Addr} {od8 an8 : Option Addr} {sl8 : Array (Option Value)} {oc8 kV8 dc8 pm8 ct8 : Value} {cd8 : Value}
    (a8 : PySem.W.nsIn K mainGlobals "row_fault" = some (some (.ref f8))) (l8 : K.lookup f8 = some ⟨oc8, od8, .func (PySem.W.fnOf "row_fault" "row_fault" (defArgs s_row_fault) (defBody s_row_fault) (defScope s_row_fault) .none kV8 dc8 pm8 an8 cd8 ct8), sl8⟩) (c8 : PySem.W.codeIn K cd8 "row_fault" = true) (k8 : PySem.W.keepIn K (.ref f8) = true)
    {f9 : Addr} {od9 an9 : Option Addr} {sl9 : Array (Option Value)} {oc9 kV9 dc9 pm9 ct9 : Value} {cd9 : Value}
    (a9 : PySem.W.nsIn K mainGlobals "cell_fits" = some (some (.ref f9))) (l9 : K.lookup f9 = some ⟨oc9, od9, .func (PySem.W.fnOf "cell_fits" "cell_fits" (defArgs s_cell_fits) (defBody s_cell_fits) (defScope s_cell_fits) .none kV9 dc9 pm9 an9 cd9 ct9), sl9⟩) (c9 : PySem.W.codeIn K cd9 "cell_fits" = true) (k9 : PySem.W.keepIn K (.ref f9) = true)
    {f10 : Addr} {od10 an10 : Option Addr} {sl10 : Array (Option Value)} {oc10 kV10 dc10 pm10 ct10 : Value} {cd10 : Value}
    (a10 : PySem.W.nsIn K mainGlobals "sums" = some (some (.ref f10))) (l10 : K.lookup f10 = some ⟨oc10, od10, .func (PySem.W.fnOf "sums" "sums" (defArgs s_sums) (defBody s_sums) (defScope s_sums) .none kV10 dc10 pm10 an10 cd10 ct10), sl10⟩) (c10 : PySem.W.codeIn K cd10 "sums" = true) (k10 : PySem.W.keepIn K (.ref f10) = true)
    {f11 : Addr} {od11 an11 : Option Addr} {sl11 : Array (Option Value)} {oc11 kV11 dc11 pm11 ct11 : Value} {cd11 : Value}
    (a11 : PySem.W.nsIn K mainGlobals "stripe" = some (some (.ref f11))) (l11 : K.lookup f11 = some ⟨oc11, od11, .func (PySem.W.fnOf "stripe" "stripe" (defArgs s_stripe) (defBody s_stripe) (defScope s_stripe) .none kV11 dc11 pm11 an11 cd11 ct11), sl11⟩) (c11 : PySem.W.codeIn K cd11 "stripe" = true) (k11 : PySem.W.keepIn K (.ref f11) = true)
    {f12 : Addr} {od12 an12 : Option Addr} {sl12 : Array (Option Value)} {oc12 kV12 dc12 pm12 ct12 : Value} {cd12 : Value}
    (a12 : PySem.W.nsIn K mainGlobals "row_sums" = some (some (.ref f12))) (l12 : K.lookup f12 = some ⟨oc12, od12, .func (PySem.W.fnOf "row_sums" "row_sums" (defArgs s_row_sums) (defBody s_row_sums) (defScope s_row_sums) .none kV12 dc12 pm12 an12 cd12 ct12), sl12⟩) (c12 : PySem.W.codeIn K cd12 "row_sums" = true) (k12 : PySem.W.keepIn K (.ref f12) = true)
    {f13 : Addr} {od13 an13 : Option Addr} {sl13 : Array (Option Value)} {oc13 kV13 dc13 pm13 ct13 : Value} {cd13 : Value}
    (a13 : PySem.W.nsIn K mainGlobals "weighted" = some (some (.ref f13))) (l13 : K.lookup f13 = some ⟨oc13, od13, .func (PySem.W.fnOf "weighted" "weighted" (defArgs s_weighted) (defBody s_weighted) (defScope s_weighted) .none kV13 dc13 pm13 an13 cd13 ct13), sl13⟩) (c13 : PySem.W.codeIn K cd13 "weighted" = true) (k13 : PySem.W.keepIn K (.ref f13) = true)
    {f14 : Addr} {od14 an14 : Option Addr} {sl14 : Array (Option Value)} {oc14 kV14 dc14 pm14 ct14 : Value} {cd14 : Value}
    (a14 : PySem.W.nsIn K mainGlobals "shelves_of" = some (some (.ref f14))) (l14 : K.lookup f14 = some ⟨oc14, od14, .func (PySem.W.fnOf "shelves_of" "shelves_of" (defArgs s_shelves_of) (defBody s_shelves_of) (defScope s_shelves_of) .none kV14 dc14 pm14 an14 cd14 ct14), sl14⟩) (c14 : PySem.W.codeIn K cd14 "shelves_of" = true) (k14 : PySem.W.keepIn K (.ref f14) = true)
    {f15 : Addr} {od15 an15 : Option Addr} {sl15 : Array (Option Value)} {oc15 kV15 dc15 pm15 ct15 : Value} {cd15 : Value}
    (a15 : PySem.W.nsIn K mainGlobals "made_left" = some (some (.ref f15))) (l15 : K.lookup f15 = some ⟨oc15, od15, .func (PySem.W.fnOf "made_left" "made_left" (defArgs s_made_left) (defBody s_made_left) (defScope s_made_left) .none kV15 dc15 pm15 an15 cd15 ct15), sl15⟩) (c15 : PySem.W.codeIn K cd15 "made_left" = true) (k15 : PySem.W.keepIn K (.ref f15) = true)
    {f16 : Addr} {od16 an16 : Option Addr} {sl16 : Array (Option Value)} {oc16 kV16 dc16 pm16 ct16 : Value} {cd16 : Value}
    (a16 : PySem.W.nsIn K mainGlobals "left_fault" = some (some (.ref f16))) (l16 : K.lookup f16 = some ⟨oc16, od16, .func (PySem.W.fnOf "left_fault" "left_fault" (defArgs s_left_fault) (defBody s_left_fault) (defScope s_left_fault) .none kV16 dc16 pm16 an16 cd16 ct16), sl16⟩) (c16 : PySem.W.codeIn K cd16 "left_fault" = true) (k16 : PySem.W.keepIn K (.ref f16) = true)
    {f17 : Addr} {od17 an17 : Option Addr} {sl17 : Array (Option Value)} {oc17 kV17 dc17 pm17 ct17 : Value} {cd17 : Value}
    (a17 : PySem.W.nsIn K mainGlobals "lost_of" = some (some (.ref f17))) (l17 : K.lookup f17 = some ⟨oc17, od17, .func (PySem.W.fnOf "lost_of" "lost_of" (defArgs s_lost_of) (defBody s_lost_of) (defScope s_lost_of) .none kV17 dc17 pm17 an17 cd17 ct17), sl17⟩) (c17 : PySem.W.codeIn K cd17 "lost_of" = true) (k17 : PySem.W.keepIn K (.ref f17) = true)
    {f18 : Addr} {od18 an18 : Option Addr} {sl18 : Array (Option Value)} {oc18 kV18 dc18 pm18 ct18 : Value} {cd18 : Value}
    (a18 : PySem.W.nsIn K mainGlobals "_law_pool" = some (some (.ref f18))) (l18 : K.lookup f18 = some ⟨oc18, od18, .func (PySem.W.fnOf "_law_pool" "_law_pool" (defArgs s_law_pool) (defBody s_law_pool) (defScope s_law_pool) .none kV18 dc18 pm18 an18 cd18 ct18), sl18⟩) (c18 : PySem.W.codeIn K cd18 "_law_pool" = true) (k18 : PySem.W.keepIn K (.ref f18) = true)
    {f19 : Addr} {od19 an19 : Option Addr} {sl19 : Array (Option Value)} {oc19 kV19 dc19 pm19 ct19 : Value} {cd19 : Value}
    (a19 : PySem.W.nsIn K mainGlobals "_law_take" = some (some (.ref f19))) (l19 : K.lookup f19 = some ⟨oc19, od19, .func (PySem.W.fnOf "_law_take" "_law_take" (defArgs s_law_take) (defBody s_law_take) (defScope s_law_take) .none kV19 dc19 pm19 an19 cd19 ct19), sl19⟩) (c19 : PySem.W.codeIn K cd19 "_law_take" = true) (k19 : PySem.W.keepIn K (.ref f19) = true)
    {f20 : Addr} {od20 an20 : Option Addr} {sl20 : Array (Option Value)} {oc20 kV20 dc20 pm20 ct20 : Value} {cd20 : Value}
    (a20 : PySem.W.nsIn K mainGlobals "_law_one" = some (some (.ref f20))) (l20 : K.lookup f20 = some ⟨oc20, od20, .func (PySem.W.fnOf "_law_one" "_law_one" (defArgs s_law_one) (defBody s_law_one) (defScope s_law_one) .none kV20 dc20 pm20 an20 cd20 ct20), sl20⟩) (c20 : PySem.W.codeIn K cd20 "_law_one" = true) (k20 : PySem.W.keepIn K (.ref f20) = true)
    {f21 : Addr} {od21 an21 : Option Addr} {sl21 : Array (Option Value)} {oc21 kV21 dc21 pm21 ct21 : Value} {cd21 : Value}
    (a21 : PySem.W.nsIn K mainGlobals "_law_with" = some (some (.ref f21))) (l21 : K.lookup f21 = some ⟨oc21, od21, .func (PySem.W.fnOf "_law_with" "_law_with" (defArgs s_law_with) (defBody s_law_with) (defScope s_law_with) .none kV21 dc21 pm21 an21 cd21 ct21), sl21⟩) (c21 : PySem.W.codeIn K cd21 "_law_with" = true) (k21 : PySem.W.keepIn K (.ref f21) = true)
    {f22 : Addr} {od22 an22 : Option Addr} {sl22 : Array (Option Value)} {oc22 kV22 dc22 pm22 ct22 : Value} {cd22 : Value}
    (a22 : PySem.W.nsIn K mainGlobals "_law_any_shape" = some (some (.ref f22))) (l22 : K.lookup f22 = some ⟨oc22, od22, .func (PySem.W.fnOf "_law_any_shape" "_law_any_shape" (defArgs s_law_any_shape) (defBody s_law_any_shape) (defScope s_law_any_shape) .none kV22 dc22 pm22 an22 cd22 ct22), sl22⟩) (c22 : PySem.W.codeIn K cd22 "_law_any_shape" = true) (k22 : PySem.W.keepIn K (.ref f22) = true)
    {f23 : Addr} {od23 an23 : Option Addr} {sl23 : Array (Option Value)} {oc23 kV23 dc23 pm23 ct23 : Value} {cd23 : Value}
    (a23 : PySem.W.nsIn K mainGlobals "_law_any_cell" = some (some (.ref f23))) (l23 : K.lookup f23 = some ⟨oc23, od23, .func (PySem.W.fnOf "_law_any_cell" "_law_any_cell" (defArgs s_law_any_cell) (defBody s_law_any_cell) (defScope s_law_any_cell) .none kV23 dc23 pm23 an23 cd23 ct23), sl23⟩) (c23 : PySem.W.codeIn K cd23 "_law_any_cell" = true) (k23 : PySem.W.keepIn K (.ref f23) = true)
    {f24 : Addr} {od24 an24 : Option Addr} {sl24 : Array (Option Value)} {oc24 kV24 dc24 pm24 ct24 : Value} {cd24 : Value}
    (a24 : PySem.W.nsIn K mainGlobals "_law_sums_by" = some (some (.ref f24))) (l24 : K.lookup f24 = some ⟨oc24, od24, .func (PySem.W.fnOf "_law_sums_by" "_law_sums_by" (defArgs s_law_sums_by) (defBody s_law_sums_by) (defScope s_law_sums_by) .none kV24 dc24 pm24 an24 cd24 ct24), sl24⟩) (c24 : PySem.W.codeIn K cd24 "_law_sums_by" = true) (k24 : PySem.W.keepIn K (.ref f24) = true)
    {f25 : Addr} {od25 an25 : Option Addr} {sl25 : Array (Option Value)} {oc25 kV25 dc25 pm25 ct25 : Value} {cd25 : Value}
    (a25 : PySem.W.nsIn K mainGlobals "_law_no_cell" = some (some (.ref f25))) (l25 : K.lookup f25 = some ⟨oc25, od25, .func (PySem.W.fnOf "_law_no_cell" "_law_no_cell" (defArgs s_law_no_cell) (defBody s_law_no_cell) (defScope s_law_no_cell) .none kV25 dc25 pm25 an25 cd25 ct25), sl25⟩) (c25 : PySem.W.codeIn K cd25 "_law_no_cell" = true) (k25 : PySem.W.keepIn K (.ref f25) = true)
    {f26 : Addr} {od26 an26 : Option Addr} {sl26 : Array (Option Value)} {oc26 kV26 dc26 pm26 ct26 : Value} {cd26 : Value}
    (a26 : PySem.W.nsIn K mainGlobals "_law_spoilt" = some (some (.ref f26))) (l26 : K.lookup f26 = some ⟨oc26, od26, .func (PySem.W.fnOf "_law_spoilt" "_law_spoilt" (defArgs s_law_spoilt) (defBody s_law_spoilt) (defScope s_law_spoilt) .none kV26 dc26 pm26 an26 cd26 ct26), sl26⟩) (c26 : PySem.W.codeIn K cd26 "_law_spoilt" = true) (k26 : PySem.W.keepIn K (.ref f26) = true)
    {f27 : Addr} {od27 an27 : Option Addr} {sl27 : Array (Option Value)} {oc27 kV27 dc27 pm27 ct27 : Value} {cd27 : Value}
    (a27 : PySem.W.nsIn K mainGlobals "_law_heard" = some (some (.ref f27))) (l27 : K.lookup f27 = some ⟨oc27, od27, .func (PySem.W.fnOf "_law_heard" "_law_heard" (defArgs s_law_heard) (defBody s_law_heard) (defScope s_law_heard) .none kV27 dc27 pm27 an27 cd27 ct27), sl27⟩) (c27 : PySem.W.codeIn K cd27 "_law_heard" = true) (k27 : PySem.W.keepIn K (.ref f27) = true)
    {f28 : Addr} {od28 an28 : Option Addr} {sl28 : Array (Option Value)} {oc28 kV28 dc28 pm28 ct28 : Value}
    {cc28 P28 : Addr} {ty28 : Value} {odc28 : Option Addr} {vs28 : Array Value} {slc28 : Array (Option Value)}
    (a28 : PySem.W.nsIn K mainGlobals "_law_row_right" = some (some (.ref f28))) (l28 : K.lookup f28 = some ⟨oc28, od28, .func (PySem.W.fnOf "_law_row_right" "_law_row_right" (defArgs s_law_row_right) (defBody s_law_row_right) (defScope s_law_row_right) .none kV28 dc28 pm28 an28 (.ref cc28) ct28), sl28⟩) (c28 : PySem.W.codeIn K (.ref cc28) "_law_row_right" = true) (k28 : PySem.W.keepIn K (.ref f28) = true)
    (lc28 : K.lookup cc28 = some ⟨ty28, odc28, .fields vs28, slc28⟩) (vp28 : (vs28[11]? : Option Value) = some (.ref P28)) (hd28 : PySem.W.codeHdIn K cc28 P28 = true) (np28 : K.lookup P28 = none) (pt28 : P28 ∈ ts)
    {f29 : Addr} {od29 an29 : Option Addr} {sl29 : Array (Option Value)} {oc29 kV29 dc29 pm29 ct29 : Value}
    {cc29 P29 : Addr} {ty29 : Value} {odc29 : Option Addr} {vs29 : Array Value} {slc29 : Array (Option Value)}
    (a29 : PySem.W.nsIn K mainGlobals "_law_left_right" = some (some (.ref f29))) (l29 : K.lookup f29 = some ⟨oc29, od29, .func (PySem.W.fnOf "_law_left_right" "_law_left_right" (defArgs s_law_left_right) (defBody s_law_left_right) (defScope s_law_left_right) .none kV29 dc29 pm29 an29 (.ref cc29) ct29), sl29⟩) (c29 : PySem.W.codeIn K (.ref cc29) "_law_left_right" = true) (k29 : PySem.W.keepIn K (.ref f29) = true)
    (lc29 : K.lookup cc29 = some ⟨ty29, odc29, .fields vs29, slc29⟩) (vp29 : (vs29[11]? : Option Value) = some (.ref P29)) (hd29 : PySem.W.codeHdIn K cc29 P29 = true) (np29 : K.lookup P29 = none) (pt29 : P29 ∈ ts)
    {f30 : Addr} {od30 an30 : Option Addr} {sl30 : Array (Option Value)} {oc30 kV30 dc30 pm30 ct30 : Value} {cd30 : Value}
    (a30 : PySem.W.nsIn K mainGlobals "law" = some (some (.ref f30))) (l30 : K.lookup f30 = some ⟨oc30, od30, .func (PySem.W.fnOf "law" "law" (defArgs s_law) (defBody s_law) (defScope s_law) .none kV30 dc30 pm30 an30 cd30 ct30), sl30⟩) (c30 : PySem.W.codeIn K cd30 "law" = true) (k30 : PySem.W.keepIn K (.ref f30) = true)
    {C_Refused : Addr} (ac_Refused : PySem.W.nsIn K mainGlobals "Refused" = some (some (.ref C_Refused)))
    {C_BadShape : Addr} (ac_BadShape : PySem.W.nsIn K mainGlobals "BadShape" = some (some (.ref C_BadShape)))
    {C_BadRow : Addr} (ac_BadRow : PySem.W.nsIn K mainGlobals "BadRow" = some (some (.ref C_BadRow)))
    {C_BadLeft : Addr} (ac_BadLeft : PySem.W.nsIn K mainGlobals "BadLeft" = some (some (.ref C_BadLeft)))
    {fI : Addr} {odI anI : Option Addr} {slI : Array (Option Value)} {ocI kVI dcI pmI cdI ctI : Value}
    (aI : PySem.W.findIn K (.ref C_Refused) "__init__" = some (some (.ref fI))) (lI : K.lookup fI = some ⟨ocI, odI, .func (PySem.W.fnOf "__init__" "Refused.__init__" (defArgs s_init) (defBody s_init) (defScope s_init) .none kVI dcI pmI anI cdI ctI), slI⟩) (cI : PySem.W.codeIn K cdI "Refused.__init__" = true) (kI : PySem.W.keepIn K (.ref fI) = true) (tI : PySem.W.typeIn K (.ref fI) = some (.type "function"))
    (eH_Refused : PySem.W.subIn K (.ref C_Refused) (.type "BaseException") = some true) (tH_Refused : PySem.W.typeIn K (.ref C_Refused) = some (.type "type")) (hH_Refused : PySem.W.hasDictIn K C_Refused = true)
    {nm_BadShape q_BadShape : Str} {N_BadShape : Addr} {bs_BadShape bm_BadShape : List Value} {sn_BadShape : List Str} {sub_BadShape : List Value} {ab_BadShape : Bool} {col_BadShape : Option Bool} {dd_BadShape : Option Addr} {x0_BadShape x1_BadShape x3_BadShape x5_BadShape : Option Value} {nmx_BadShape : Str} {tkx_BadShape : Tok}
    (xL_BadShape : K.lookup C_BadShape = some (excClassObj nm_BadShape q_BadShape C_BadShape N_BadShape bs_BadShape bm_BadShape true sn_BadShape sub_BadShape ab_BadShape col_BadShape dd_BadShape x0_BadShape x1_BadShape (some (.str nmx_BadShape tkx_BadShape)) x3_BadShape x5_BadShape "ValueError.__new__"))
    (xm_BadShape : PySem.HandSPX.refsVE bm_BadShape = true)
    (sa_BadShape : PySem.W.findIn K (.ref C_BadShape) "__setattr__" = some (some (.builtin "object.__setattr__"))) (ga_BadShape : PySem.W.findIn K (.ref C_BadShape) "__getattribute__" = some (some (.builtin "BaseException.__getattribute__"))) (gg_BadShape : PySem.W.findIn K (.ref C_BadShape) "__getattr__" = some none) (nw_BadShape : PySem.W.findIn K (.ref C_BadShape) "what" = some none) (in_BadShape : PySem.W.findIn K (.ref C_BadShape) "__init__" = some (some (.ref fI)))
    (kC_BadShape : PySem.W.keepIn K (.ref C_BadShape) = true) (eC_BadShape : PySem.W.subIn K (.ref C_BadShape) (.type "BaseException") = some true) (tC_BadShape : PySem.W.typeIn K (.ref C_BadShape) = some (.type "type")) (hC_BadShape : PySem.W.hasDictIn K C_BadShape = true)
    (ca_BadShape : PySem.W.findIn K (.ref C_BadShape) "__class__" = some (some (.builtin "object.__class__"))) (mo_BadShape : PySem.W.mroIn K C_BadShape (.type "object") = some true)
    (rd_BadShape : PySem.W.readsIn K C_BadShape (.type "type") = true) (fc_BadShape : PySem.W.findCls K (.ref C_BadShape) (.type "type") "__name__" = some (.get (.builtin "getset_descriptor.__get__") (.builtin "type.__name__") (.ref C_BadShape) (.type "type"))) (nn_BadShape : PySem.W.findIn K (.ref C_BadShape) "name" = some none)
    {nm_BadRow q_BadRow : Str} {N_BadRow : Addr} {bs_BadRow bm_BadRow : List Value} {sn_BadRow : List Str} {sub_BadRow : List Value} {ab_BadRow : Bool} {col_BadRow : Option Bool} {dd_BadRow : Option Addr} {x0_BadRow x1_BadRow x3_BadRow x5_BadRow : Option Value} {nmx_BadRow : Str} {tkx_BadRow : Tok}
    (xL_BadRow : K.lookup C_BadRow = some (excClassObj nm_BadRow q_BadRow C_BadRow N_BadRow bs_BadRow bm_BadRow true sn_BadRow sub_BadRow ab_BadRow col_BadRow dd_BadRow x0_BadRow x1_BadRow (some (.str nmx_BadRow tkx_BadRow)) x3_BadRow x5_BadRow "ValueError.__new__"))
    (xm_BadRow : PySem.HandSPX.refsVE bm_BadRow = true)
    (sa_BadRow : PySem.W.findIn K (.ref C_BadRow) "__setattr__" = some (some (.builtin "object.__setattr__"))) (ga_BadRow : PySem.W.findIn K (.ref C_BadRow) "__getattribute__" = some (some (.builtin "BaseException.__getattribute__"))) (gg_BadRow : PySem.W.findIn K (.ref C_BadRow) "__getattr__" = some none) (nw_BadRow : PySem.W.findIn K (.ref C_BadRow) "what" = some none) (in_BadRow : PySem.W.findIn K (.ref C_BadRow) "__init__" = some (some (.ref fI)))
    (kC_BadRow : PySem.W.keepIn K (.ref C_BadRow) = true) (eC_BadRow : PySem.W.subIn K (.ref C_BadRow) (.type "BaseException") = some true) (tC_BadRow : PySem.W.typeIn K (.ref C_BadRow) = some (.type "type")) (hC_BadRow : PySem.W.hasDictIn K C_BadRow = true)
    (ca_BadRow : PySem.W.findIn K (.ref C_BadRow) "__class__" = some (some (.builtin "object.__class__"))) (mo_BadRow : PySem.W.mroIn K C_BadRow (.type "object") = some true)
    (rd_BadRow : PySem.W.readsIn K C_BadRow (.type "type") = true) (fc_BadRow : PySem.W.findCls K (.ref C_BadRow) (.type "type") "__name__" = some (.get (.builtin "getset_descriptor.__get__") (.builtin "type.__name__") (.ref C_BadRow) (.type "type"))) (nn_BadRow : PySem.W.findIn K (.ref C_BadRow) "name" = some none)
    (sH_BadRow_Refused : PySem.W.subIn K (.ref C_BadRow) (.ref C_Refused) = some true)
    (ki_BadRow_BadLeft : PySem.W.kitOne K (.ref C_BadRow) (.ref C_BadLeft) = some false)
    {nm_BadLeft q_BadLeft : Str} {N_BadLeft : Addr} {bs_BadLeft bm_BadLeft : List Value} {sn_BadLeft : List Str} {sub_BadLeft : List Value} {ab_BadLeft : Bool} {col_BadLeft : Option Bool} {dd_BadLeft : Option Addr} {x0_BadLeft x1_BadLeft x3_BadLeft x5_BadLeft : Option Value} {nmx_BadLeft : Str} {tkx_BadLeft : Tok}
    (xL_BadLeft : K.lookup C_BadLeft = some (excClassObj nm_BadLeft q_BadLeft C_BadLeft N_BadLeft bs_BadLeft bm_BadLeft true sn_BadLeft sub_BadLeft ab_BadLeft col_BadLeft dd_BadLeft x0_BadLeft x1_BadLeft (some (.str nmx_BadLeft tkx_BadLeft)) x3_BadLeft x5_BadLeft "ValueError.__new__"))
    (xm_BadLeft : PySem.HandSPX.refsVE bm_BadLeft = true)
    (sa_BadLeft : PySem.W.findIn K (.ref C_BadLeft) "__setattr__" = some (some (.builtin "object.__setattr__"))) (ga_BadLeft : PySem.W.findIn K (.ref C_BadLeft) "__getattribute__" = some (some (.builtin "BaseException.__getattribute__"))) (gg_BadLeft : PySem.W.findIn K (.ref C_BadLeft) "__getattr__" = some none) (nw_BadLeft : PySem.W.findIn K (.ref C_BadLeft) "what" = some none) (in_BadLeft : PySem.W.findIn K (.ref C_BadLeft) "__init__" = some (some (.ref fI)))
    (kC_BadLeft : PySem.W.keepIn K (.ref C_BadLeft) = true) (eC_BadLeft : PySem.W.subIn K (.ref C_BadLeft) (.type "BaseException") = some true) (tC_BadLeft : PySem.W.typeIn K (.ref C_BadLeft) = some (.type "type")) (hC_BadLeft : PySem.W.hasDictIn K C_BadLeft = true)
    (ca_BadLeft : PySem.W.findIn K (.ref C_BadLeft) "__class__" = some (some (.builtin "object.__class__"))) (mo_BadLeft : PySem.W.mroIn K C_BadLeft (.type "object") = some true)
    (rd_BadLeft : PySem.W.readsIn K C_BadLeft (.type "type") = true) (fc_BadLeft : PySem.W.findCls K (.ref C_BadLeft) (.type "type") "__name__" = some (.get (.builtin "getset_descriptor.__get__") (.builtin "type.__name__") (.ref C_BadLeft) (.type "type"))) (nn_BadLeft : PySem.W.findIn K (.ref C_BadLeft) "name" = some none)
    (sH_BadLeft_Refused : PySem.W.subIn K (.ref C_BadLeft) (.ref C_Refused) = some true)
    (ki_BadLeft_BadRow : PySem.W.kitOne K (.ref C_BadLeft) (.ref C_BadRow) = some false)
    (cn : PySem.W.specialIn K (.builtin "object.__class__") "__get__" = some (some (.builtin "getset_descriptor.__get__"))) (ct : PySem.W.takesIn K (.builtin "object.__class__") = some true)
    (z_all : PySem.W.nsIn K mainGlobals "all" = some none)
    (z_bool : PySem.W.nsIn K mainGlobals "bool" = some none)
    (z_enumerate : PySem.W.nsIn K mainGlobals "enumerate" = some none)
    (z_int : PySem.W.nsIn K mainGlobals "int" = some none)
    (z_isinstance : PySem.W.nsIn K mainGlobals "isinstance" = some none)
    (z_len : PySem.W.nsIn K mainGlobals "len" = some none)
    (z_max : PySem.W.nsIn K mainGlobals "max" = some none)
    (z_min : PySem.W.nsIn K mainGlobals "min" = some none)
    (z_range : PySem.W.nsIn K mainGlobals "range" = some none)
    (z_repr : PySem.W.nsIn K mainGlobals "repr" = some none)
    (z_sum : PySem.W.nsIn K mainGlobals "sum" = some none)
    (z_tuple : PySem.W.nsIn K mainGlobals "tuple" = some none)
    (z_zip : PySem.W.nsIn K mainGlobals "zip" = some none)
    {tk_GREATEST_PRIME : Tok} (v_GREATEST_PRIME : PySem.W.nsIn K mainGlobals "GREATEST_PRIME" = some (some (.int 1000003 tk_GREATEST_PRIME)))
    (ne28_29 : P28 ≠ P29) :
    ∃ (fd : FuncData) (cs : List (Addr × Addr)), (∀ p ∈ cs, p.2 ∈ ts) ∧ (∀ p ∈ cs, K.lookup p.2 = none) ∧ (∀ p ∈ cs, PySem.W.codeHdIn K p.1 p.2 = true) ∧ (∀ (s : Shared) (v : Value), BindsTo s fd ⟨[v], []⟩ [("_law_script", v)]) ∧ ∀ base : Heap, K.In base → base.Ns mainGlobals mg → (∀ p ∈ cs, TabB base mg p.1 p.2) → FnG P w K mg base CX0 11 fa fd ["_law_script"] (sp_law (cs.map (·.2)) K) := by
  have e : f30 = fa := Value.ref.inj (Option.some.inj ((PySem.W.mg_of X G a30).symm.trans hfa))
  subst e
  let T : Txt K mg := {
    f_number_within := f0, fd_number_within := _, d_number_within := ⟨fun_mk (st := s_number_within) l0 c0 k0, PySem.W.mg_of X G a0, (fun_mk (st := s_number_within) l0 c0 k0).binds (ps := ["thing", "low", "high"]) fun _ _ _ _ _ _ us hl => match us, hl with | [_, _, _], _ => rfl⟩,
    f_tuple_of := f1, fd_tuple_of := _, d_tuple_of := ⟨fun_mk (st := s_tuple_of) l1 c1 k1, PySem.W.mg_of X G a1, (fun_mk (st := s_tuple_of) l1 c1 k1).binds (ps := ["thing", "many"]) fun _ _ _ _ _ _ us hl => match us, hl with | [_, _], _ => rfl⟩,
    f_is_prime := f2, fd_is_prime := _, d_is_prime := ⟨fun_mk (st := s_is_prime) l2 c2 k2, PySem.W.mg_of X G a2, (fun_mk (st := s_is_prime) l2 c2 k2).binds (ps := ["p"]) fun _ _ _ _ _ _ us hl => match us, hl with | [_], _ => rfl⟩,
    f_made_shape := f3, fd_made_shape := _, d_made_shape := ⟨fun_mk (st := s_made_shape) l3 c3 k3, PySem.W.mg_of X G a3, (fun_mk (st := s_made_shape) l3 c3 k3).binds (ps := ["thing"]) fun _ _ _ _ _ _ us hl => match us, hl with | [_], _ => rfl⟩,
    f_shape_fault := f4, fd_shape_fault := _, d_shape_fault := ⟨fun_mk (st := s_shape_fault) l4 c4 k4, PySem.W.mg_of X G a4, (fun_mk (st := s_shape_fault) l4 c4 k4).binds (ps := ["thing"]) fun _ _ _ _ _ _ us hl => match us, hl with | [_], _ => rfl⟩,
    f_table_fits := f5, fd_table_fits := _, d_table_fits := ⟨fun_mk (st := s_table_fits) l5 c5 k5, PySem.W.mg_of X G a5, (fun_mk (st := s_table_fits) l5 c5 k5).binds (ps := ["table", "n", "p"]) fun _ _ _ _ _ _ us hl => match us, hl with | [_, _, _], _ => rfl⟩,
    f_numbers_fit := f6, fd_numbers_fit := _, d_numbers_fit := ⟨fun_mk (st := s_numbers_fit) l6 c6 k6, PySem.W.mg_of X G a6, (fun_mk (st := s_numbers_fit) l6 c6 k6).binds (ps := ["thing", "many", "p"]) fun _ _ _ _ _ _ us hl => match us, hl with | [_, _, _], _ => rfl⟩,
    f_made_row := f7, fd_made_row := _, d_made_row := ⟨fun_mk (st := s_made_row) l7 c7 k7, PySem.W.mg_of X G a7, (fun_mk (st := s_made_row) l7 c7 k7).binds (ps := ["shape", "thing"]) fun _ _ _ _ _ _ us hl => match us, hl with | [_, _], _ => rfl⟩,
    f_row_fault := f8, fd_row_fault := _, d_row_fault := ⟨fun_mk (st := s_row_fault) l8 c8 k8, PySem.W.mg_of X G a8, (fun_mk (st := s_row_fault) l8 c8 k8).binds (ps := ["shape", "thing"]) fun _ _ _ _ _ _ us hl => match us, hl with | [_, _], _ => rfl⟩,
    f_cell_fits := f9, fd_cell_fits := _, d_cell_fits := ⟨fun_mk (st := s_cell_fits) l9 c9 k9, PySem.W.mg_of X G a9, (fun_mk (st := s_cell_fits) l9 c9 k9).binds (ps := ["shape", "thing"]) fun _ _ _ _ _ _ us hl => match us, hl with | [_, _], _ => rfl⟩,
    f_sums := f10, fd_sums := _, d_sums := ⟨fun_mk (st := s_sums) l10 c10 k10, PySem.W.mg_of X G a10, (fun_mk (st := s_sums) l10 c10 k10).binds (ps := ["shape", "row"]) fun _ _ _ _ _ _ us hl => match us, hl with | [_, _], _ => rfl⟩,
    f_stripe := f11, fd_stripe := _, d_stripe := ⟨fun_mk (st := s_stripe) l11 c11 k11, PySem.W.mg_of X G a11, (fun_mk (st := s_stripe) l11 c11 k11).binds (ps := ["shape", "row"]) fun _ _ _ _ _ _ us hl => match us, hl with | [_, _], _ => rfl⟩,
    f_row_sums := f12, fd_row_sums := _, d_row_sums := ⟨fun_mk (st := s_row_sums) l12 c12 k12, PySem.W.mg_of X G a12, (fun_mk (st := s_row_sums) l12 c12 k12).binds (ps := ["shape", "row"]) fun _ _ _ _ _ _ us hl => match us, hl with | [_, _], _ => rfl⟩,
    f_weighted := f13, fd_weighted := _, d_weighted := ⟨fun_mk (st := s_weighted) l13 c13 k13, PySem.W.mg_of X G a13, (fun_mk (st := s_weighted) l13 c13 k13).binds (ps := ["shape", "weights", "row"]) fun _ _ _ _ _ _ us hl => match us, hl with | [_, _, _], _ => rfl⟩,
    f_shelves_of := f14, fd_shelves_of := _, d_shelves_of := ⟨fun_mk (st := s_shelves_of) l14 c14 k14, PySem.W.mg_of X G a14, (fun_mk (st := s_shelves_of) l14 c14 k14).binds (ps := ["shape"]) fun _ _ _ _ _ _ us hl => match us, hl with | [_], _ => rfl⟩,
    f_made_left := f15, fd_made_left := _, d_made_left := ⟨fun_mk (st := s_made_left) l15 c15 k15, PySem.W.mg_of X G a15, (fun_mk (st := s_made_left) l15 c15 k15).binds (ps := ["shape", "thing"]) fun _ _ _ _ _ _ us hl => match us, hl with | [_, _], _ => rfl⟩,
    f_left_fault := f16, fd_left_fault := _, d_left_fault := ⟨fun_mk (st := s_left_fault) l16 c16 k16, PySem.W.mg_of X G a16, (fun_mk (st := s_left_fault) l16 c16 k16).binds (ps := ["shape", "thing"]) fun _ _ _ _ _ _ us hl => match us, hl with | [_, _], _ => rfl⟩,
    f_lost_of := f17, fd_lost_of := _, d_lost_of := ⟨fun_mk (st := s_lost_of) l17 c17 k17, PySem.W.mg_of X G a17, (fun_mk (st := s_lost_of) l17 c17 k17).binds (ps := ["left"]) fun _ _ _ _ _ _ us hl => match us, hl with | [_], _ => rfl⟩,
    f_law_pool := f18, fd_law_pool := _, d_law_pool := ⟨fun_mk (st := s_law_pool) l18 c18 k18, PySem.W.mg_of X G a18, (fun_mk (st := s_law_pool) l18 c18 k18).binds (ps := ["_law_script", "_law_k"]) fun _ _ _ _ _ _ us hl => match us, hl with | [_, _], _ => rfl⟩,
    f_law_take := f19, fd_law_take := _, d_law_take := ⟨fun_mk (st := s_law_take) l19 c19 k19, PySem.W.mg_of X G a19, (fun_mk (st := s_law_take) l19 c19 k19).binds (ps := ["_law_source", "_law_top"]) fun _ _ _ _ _ _ us hl => match us, hl with | [_, _], _ => rfl⟩,
    f_law_one := f20, fd_law_one := _, d_law_one := ⟨fun_mk (st := s_law_one) l20 c20 k20, PySem.W.mg_of X G a20, (fun_mk (st := s_law_one) l20 c20 k20).binds (ps := ["_law_source", "_law_things"]) fun _ _ _ _ _ _ us hl => match us, hl with | [_, _], _ => rfl⟩,
    f_law_with := f21, fd_law_with := _, d_law_with := ⟨fun_mk (st := s_law_with) l21 c21 k21, PySem.W.mg_of X G a21, (fun_mk (st := s_law_with) l21 c21 k21).binds (ps := ["_law_row", "_law_at", "_law_thing"]) fun _ _ _ _ _ _ us hl => match us, hl with | [_, _, _], _ => rfl⟩,
    f_law_any_shape := f22, fd_law_any_shape := _, d_law_any_shape := ⟨fun_mk (st := s_law_any_shape) l22 c22 k22, PySem.W.mg_of X G a22, (fun_mk (st := s_law_any_shape) l22 c22 k22).binds (ps := ["_law_source"]) fun _ _ _ _ _ _ us hl => match us, hl with | [_], _ => rfl⟩,
    f_law_any_cell := f23, fd_law_any_cell := _, d_law_any_cell := ⟨fun_mk (st := s_law_any_cell) l23 c23 k23, PySem.W.mg_of X G a23, (fun_mk (st := s_law_any_cell) l23 c23 k23).binds (ps := ["_law_source", "_law_shape"]) fun _ _ _ _ _ _ us hl => match us, hl with | [_, _], _ => rfl⟩,
    f_law_sums_by := f24, fd_law_sums_by := _, d_law_sums_by := ⟨fun_mk (st := s_law_sums_by) l24 c24 k24, PySem.W.mg_of X G a24, (fun_mk (st := s_law_sums_by) l24 c24 k24).binds (ps := ["_law_shape", "_law_row"]) fun _ _ _ _ _ _ us hl => match us, hl with | [_, _], _ => rfl⟩,
    f_law_no_cell := f25, fd_law_no_cell := _, d_law_no_cell := ⟨fun_mk (st := s_law_no_cell) l25 c25 k25, PySem.W.mg_of X G a25, (fun_mk (st := s_law_no_cell) l25 c25 k25).binds (ps := ["_law_source", "_law_shape", "_law_cell"]) fun _ _ _ _ _ _ us hl => match us, hl with | [_, _, _], _ => rfl⟩,
    f_law_spoilt := f26, fd_law_spoilt := _, d_law_spoilt := ⟨fun_mk (st := s_law_spoilt) l26 c26 k26, PySem.W.mg_of X G a26, (fun_mk (st := s_law_spoilt) l26 c26 k26).binds (ps := ["_law_source", "_law_shape", "_law_row", "_law_nones"]) fun _ _ _ _ _ _ us hl => match us, hl with | [_, _, _, _], _ => rfl⟩,
    f_law_heard := f27, fd_law_heard := _, d_law_heard := ⟨fun_mk (st := s_law_heard) l27 c27 k27, PySem.W.mg_of X G a27, (fun_mk (st := s_law_heard) l27 c27 k27).binds (ps := ["_law_call"]) fun _ _ _ _ _ _ us hl => match us, hl with | [_], _ => rfl⟩,
    cc_law_row_right := cc28, P_law_row_right := P28, FC_law_row_right := ⟨_, _, _, _, _, _, _, _, rfl, l28, c28⟩,
    f_law_row_right := f28, fd_law_row_right := _, d_law_row_right := ⟨fun_mk (st := s_law_row_right) l28 c28 k28, PySem.W.mg_of X G a28, (fun_mk (st := s_law_row_right) l28 c28 k28).binds (ps := ["_law_source", "_law_shape"]) fun _ _ _ _ _ _ us hl => match us, hl with | [_, _], _ => rfl⟩,
    cc_law_left_right := cc29, P_law_left_right := P29, FC_law_left_right := ⟨_, _, _, _, _, _, _, _, rfl, l29, c29⟩,
    f_law_left_right := f29, fd_law_left_right := _, d_law_left_right := ⟨fun_mk (st := s_law_left_right) l29 c29 k29, PySem.W.mg_of X G a29, (fun_mk (st := s_law_left_right) l29 c29 k29).binds (ps := ["_law_source", "_law_shape"]) fun _ _ _ _ _ _ us hl => match us, hl with | [_, _], _ => rfl⟩,
    f_law := f30, fd_law := _, d_law := ⟨fun_mk (st := s_law) l30 c30 k30, PySem.W.mg_of X G a30, (fun_mk (st := s_law) l30 c30 k30).binds (ps := ["_law_script"]) fun _ _ _ _ _ _ us hl => match us, hl with | [_], _ => rfl⟩,
    c_Refused := C_Refused, g_Refused := PySem.W.mg_of X G ac_Refused,
    c_BadShape := C_BadShape, g_BadShape := PySem.W.mg_of X G ac_BadShape,
    c_BadRow := C_BadRow, g_BadRow := PySem.W.mg_of X G ac_BadRow,
    c_BadLeft := C_BadLeft, g_BadLeft := PySem.W.mg_of X G ac_BadLeft,
    f_init := fI, fd_init := _, d_init := fun_mk (st := s_init) lI cI kI, b_init := (fun_mk (st := s_init) lI cI kI).binds (ps := ["self", "what"]) fun _ _ _ _ _ _ us hl => match us, hl with | [_, _], _ => rfl, ti := tI,
    o_BadShape := ⟨⟨_, _, _, _, _, _, _, _, _, _, _, _, _, _, _, xL_BadShape, xm_BadShape⟩, sa_BadShape, eC_BadShape, tC_BadShape, kC_BadShape⟩, i_BadShape := in_BadShape, n_BadShape_what := ⟨nw_BadShape, nmx_BadShape, ⟨ga_BadShape, gg_BadShape, eC_BadShape, hC_BadShape, ca_BadShape, cn, ct, mo_BadShape⟩, rd_BadShape, tC_BadShape, fc_BadShape, ⟨_, tkx_BadShape, xL_BadShape, rfl⟩, nn_BadShape⟩, x_BadShape := ⟨ga_BadShape, gg_BadShape, eC_BadShape, hC_BadShape⟩, e_BadShape := ⟨ga_BadShape, gg_BadShape, eC_BadShape, hC_BadShape, ca_BadShape, cn, ct, mo_BadShape⟩,
    o_BadRow := ⟨⟨_, _, _, _, _, _, _, _, _, _, _, _, _, _, _, xL_BadRow, xm_BadRow⟩, sa_BadRow, eC_BadRow, tC_BadRow, kC_BadRow⟩, i_BadRow := in_BadRow, n_BadRow_what := ⟨nw_BadRow, nmx_BadRow, ⟨ga_BadRow, gg_BadRow, eC_BadRow, hC_BadRow, ca_BadRow, cn, ct, mo_BadRow⟩, rd_BadRow, tC_BadRow, fc_BadRow, ⟨_, tkx_BadRow, xL_BadRow, rfl⟩, nn_BadRow⟩, x_BadRow := ⟨ga_BadRow, gg_BadRow, eC_BadRow, hC_BadRow⟩, e_BadRow := ⟨ga_BadRow, gg_BadRow, eC_BadRow, hC_BadRow, ca_BadRow, cn, ct, mo_BadRow⟩,
    te_BadRow_Refused := PySem.W.exm_ref eH_Refused hH_Refused tH_Refused sH_BadRow_Refused,
    ki_BadRow_BadRow := kit_self,
    ki_BadRow_BadLeft := ki_BadRow_BadLeft,
    o_BadLeft := ⟨⟨_, _, _, _, _, _, _, _, _, _, _, _, _, _, _, xL_BadLeft, xm_BadLeft⟩, sa_BadLeft, eC_BadLeft, tC_BadLeft, kC_BadLeft⟩, i_BadLeft := in_BadLeft, n_BadLeft_what := ⟨nw_BadLeft, nmx_BadLeft, ⟨ga_BadLeft, gg_BadLeft, eC_BadLeft, hC_BadLeft, ca_BadLeft, cn, ct, mo_BadLeft⟩, rd_BadLeft, tC_BadLeft, fc_BadLeft, ⟨_, tkx_BadLeft, xL_BadLeft, rfl⟩, nn_BadLeft⟩, x_BadLeft := ⟨ga_BadLeft, gg_BadLeft, eC_BadLeft, hC_BadLeft⟩, e_BadLeft := ⟨ga_BadLeft, gg_BadLeft, eC_BadLeft, hC_BadLeft, ca_BadLeft, cn, ct, mo_BadLeft⟩,
    te_BadLeft_Refused := PySem.W.exm_ref eH_Refused hH_Refused tH_Refused sH_BadLeft_Refused,
    ki_BadLeft_BadRow := ki_BadLeft_BadRow,
    ki_BadLeft_BadLeft := kit_self,
    m_all := PySem.W.mg_none_of X G z_all,
    m_bool := PySem.W.mg_none_of X G z_bool,
    m_enumerate := PySem.W.mg_none_of X G z_enumerate,
    m_int := PySem.W.mg_none_of X G z_int,
    m_isinstance := PySem.W.mg_none_of X G z_isinstance,
    m_len := PySem.W.mg_none_of X G z_len,
    m_max := PySem.W.mg_none_of X G z_max,
    m_min := PySem.W.mg_none_of X G z_min,
    m_range := PySem.W.mg_none_of X G z_range,
    m_repr := PySem.W.mg_none_of X G z_repr,
    m_sum := PySem.W.mg_none_of X G z_sum,
    m_tuple := PySem.W.mg_none_of X G z_tuple,
    m_zip := PySem.W.mg_none_of X G z_zip,
    tk_GREATEST_PRIME := tk_GREATEST_PRIME, v_GREATEST_PRIME := PySem.W.mg_of X G v_GREATEST_PRIME,
    ne_law_row_right_law_left_right := ne28_29 }
  refine ⟨T.fd_law, [(cc28, P28), (cc29, P29)], (fun p hp => by
      simp only [List.mem_cons, List.not_mem_nil, or_false] at hp
      rcases hp with rfl | rfl
      · exact pt28
      · exact pt29), (fun p hp => by
      simp only [List.mem_cons, List.not_mem_nil, or_false] at hp
      rcases hp with rfl | rfl
      · exact np28
      · exact np29), (fun p hp => by
      simp only [List.mem_cons, List.not_mem_nil, or_false] at hp
      rcases hp with rfl | rfl
      · exact hd28
      · exact hd29), fun s v => .of_eq rfl, fun base _ _ hB => ?_⟩
  have B : Bt T base := ⟨hB (cc28, P28) (List.mem_cons_self), hB (cc29, P29) (List.mem_cons_of_mem _ (List.mem_cons_self))⟩
  exact ok_law T B
end My
open PySem PySem.W PyProof.Rows
set_option maxHeartbeats 0 in
theorem PySem.Challenge.cw_twicemany_k02_rows_and_their_sums_holds : PySem.Challenge.rw_twicemany_k02_rows_and_their_sums.Holds := by
  w_on; o_law; k_head; (case hw => w_witness2)
  k_fill
  refine Own.walkGT (l := PySem.Challenge.rw_twicemany_k02_rows_and_their_sums) (n := 63) (k := 11) (x := "_law_script") (sp := fun Ps K => My.sp_law Ps K) rfl (by decide) rfl ⟨rfl, by decide, by decide⟩ (fun w h Y => ⟨PySem.W.km_in_of Y, PySem.W.km_tabs_of Y⟩) ?F (fun Ps K H a ns h1 h2 h3 h4 => My.law_sp h1 h2 h3 h4)
  case F =>
    intro w mg fa h KX G hmg
    refine' My.all_mk _ KX G hmg ?a0 ?l0 ?c0 ?k0 ?a1 ?l1 ?c1 ?k1 ?a2 ?l2 ?c2 ?k2 ?a3 ?l3 ?c3 ?k3 ?a4 ?l4 ?c4 ?k4 ?a5 ?l5 ?c5 ?k5 ?a6 ?l6 ?c6 ?k6 ?a7 ?l7 ?c7 ?k7 ?a8 ?l8 ?c8 ?k8 ?a9 ?l9 ?c9 ?k9 ?a10 ?l10 ?c10 ?k10 ?a11 ?l11 ?c11 ?k11 ?a12 ?l12 ?c12 ?k12 ?a13 ?l13 ?c13 ?k13 ?a14 ?l14 ?c14 ?k14 ?a15 ?l15 ?c15 ?k15 ?a16 ?l16 ?c16 ?k16 ?a17 ?l17 ?c17 ?k17 ?a18 ?l18 ?c18 ?k18 ?a19 ?l19 ?c19 ?k19 ?a20 ?l20 ?c20 ?k20 ?a21 ?l21 ?c21 ?k21 ?a22 ?l22 ?c22 ?k22 ?a23 ?l23 ?c23 ?k23 ?a24 ?l24 ?c24 ?k24 ?a25 ?l25 ?c25 ?k25 ?a26 ?l26 ?c26 ?k26 ?a27 ?l27 ?c27 ?k27 ?a28 ?l28 ?c28 ?k28 ?lc28 ?vp28 ?hd28 ?np28 ?pt28 ?a29 ?l29 ?c29 ?k29 ?lc29 ?vp29 ?hd29 ?np29 ?pt29 ?a30 ?l30 ?c30 ?k30 ?ac_Refused ?ac_BadShape ?ac_BadRow ?ac_BadLeft ?aI ?lI ?cI ?kI ?tI ?eH_Refused ?tH_Refused ?hH_Refused ?xL_BadShape ?xm_BadShape ?sa_BadShape ?ga_BadShape ?gg_BadShape ?nw_BadShape ?in_BadShape ?kC_BadShape ?eC_BadShape ?tC_BadShape ?hC_BadShape ?ca_BadShape ?mo_BadShape ?rd_BadShape ?fc_BadShape ?nn_BadShape ?xL_BadRow ?xm_BadRow ?sa_BadRow ?ga_BadRow ?gg_BadRow ?nw_BadRow ?in_BadRow ?kC_BadRow ?eC_BadRow ?tC_BadRow ?hC_BadRow ?ca_BadRow ?mo_BadRow ?rd_BadRow ?fc_BadRow ?nn_BadRow ?sH_BadRow_Refused ?ki_BadRow_BadLeft ?xL_BadLeft ?xm_BadLeft ?sa_BadLeft ?ga_BadLeft ?gg_BadLeft ?nw_BadLeft ?in_BadLeft ?kC_BadLeft ?eC_BadLeft ?tC_BadLeft ?hC_BadLeft ?ca_BadLeft ?mo_BadLeft ?rd_BadLeft ?fc_BadLeft ?nn_BadLeft ?sH_BadLeft_Refused ?ki_BadLeft_BadRow ?cn ?ct ?z_all ?z_bool ?z_enumerate ?z_int ?z_isinstance ?z_len ?z_max ?z_min ?z_range ?z_repr ?z_sum ?z_tuple ?z_zip ?v_GREATEST_PRIME ?ne28_29
    (case a0 => k_is); (case l0 => k_is); (case c0 => k_is); (case k0 => k_is); (case a1 => k_is); (case l1 => k_is); (case c1 => k_is); (case k1 => k_is); (case a2 => k_is); (case l2 => k_is); (case c2 => k_is); (case k2 => k_is); (case a3 => k_is); (case l3 => k_is); (case c3 => k_is); (case k3 => k_is); (case a4 => k_is); (case l4 => k_is); (case c4 => k_is); (case k4 => k_is); (case a5 => k_is); (case l5 => k_is); (case c5 => k_is); (case k5 => k_is); (case a6 => k_is); (case l6 => k_is); (case c6 => k_is); (case k6 => k_is); (case a7 => k_is); (case l7 => k_is); (case c7 => k_is); (case k7 => k_is); (case a8 => k_is); (case l8 => k_is); (case c8 => k_is); (case k8 => k_is); (case a9 => k_is); (case l9 => k_is); (case c9 => k_is); (case k9 => k_is); (case a10 => k_is); (case l10 => k_is); (case c10 => k_is); (case k10 => k_is); (case a11 => k_is); (case l11 => k_is); (case c11 => k_is); (case k11 => k_is); (case a12 => k_is); (case l12 => k_is); (case c12 => k_is); (case k12 => k_is); (case a13 => k_is); (case l13 => k_is); (case c13 => k_is); (case k13 => k_is); (case a14 => k_is); (case l14 => k_is); (case c14 => k_is); (case k14 => k_is); (case a15 => k_is); (case l15 => k_is); (case c15 => k_is); (case k15 => k_is); (case a16 => k_is); (case l16 => k_is); (case c16 => k_is); (case k16 => k_is); (case a17 => k_is); (case l17 => k_is); (case c17 => k_is); (case k17 => k_is); (case a18 => k_is); (case l18 => k_is); (case c18 => k_is); (case k18 => k_is); (case a19 => k_is); (case l19 => k_is); (case c19 => k_is); (case k19 => k_is); (case a20 => k_is); (case l20 => k_is); (case c20 => k_is); (case k20 => k_is); (case a21 => k_is); (case l21 => k_is); (case c21 => k_is); (case k21 => k_is); (case a22 => k_is); (case l22 => k_is); (case c22 => k_is); (case k22 => k_is); (case a23 => k_is); (case l23 => k_is); (case c23 => k_is); (case k23 => k_is); (case a24 => k_is); (case l24 => k_is); (case c24 => k_is); (case k24 => k_is); (case a25 => k_is); (case l25 => k_is); (case c25 => k_is); (case k25 => k_is); (case a26 => k_is); (case l26 => k_is); (case c26 => k_is); (case k26 => k_is); (case a27 => k_is); (case l27 => k_is); (case c27 => k_is); (case k27 => k_is); (case a28 => k_is); (case l28 => k_is); (case c28 => k_is); (case k28 => k_is); (case lc28 => k_is); (case vp28 => rfl); (case hd28 => kernel_rfl); (case np28 => kernel_rfl); (case pt28 => decide); (case a29 => k_is); (case l29 => k_is); (case c29 => k_is); (case k29 => k_is); (case lc29 => k_is); (case vp29 => rfl); (case hd29 => kernel_rfl); (case np29 => kernel_rfl); (case pt29 => decide); (case a30 => k_is); (case l30 => k_is); (case c30 => k_is); (case k30 => k_is); (case ac_Refused => k_is); (case ac_BadShape => k_is); (case ac_BadRow => k_is); (case ac_BadLeft => k_is); (case aI => k_is); (case lI => k_is); (case cI => k_is); (case kI => k_is); (case tI => k_is); (case eH_Refused => k_is); (case tH_Refused => k_is); (case hH_Refused => k_is); (case xL_BadShape => k_is); (case xm_BadShape => rfl); (case sa_BadShape => k_is); (case ga_BadShape => k_is); (case gg_BadShape => k_is); (case nw_BadShape => k_is); (case in_BadShape => k_is); (case kC_BadShape => k_is); (case eC_BadShape => k_is); (case tC_BadShape => k_is); (case hC_BadShape => k_is); (case ca_BadShape => k_is); (case mo_BadShape => k_is); (case rd_BadShape => k_is); (case fc_BadShape => k_is); (case nn_BadShape => k_is); (case xL_BadRow => k_is); (case xm_BadRow => rfl); (case sa_BadRow => k_is); (case ga_BadRow => k_is); (case gg_BadRow => k_is); (case nw_BadRow => k_is); (case in_BadRow => k_is); (case kC_BadRow => k_is); (case eC_BadRow => k_is); (case tC_BadRow => k_is); (case hC_BadRow => k_is); (case ca_BadRow => k_is); (case mo_BadRow => k_is); (case rd_BadRow => k_is); (case fc_BadRow => k_is); (case nn_BadRow => k_is); (case sH_BadRow_Refused => k_is); (case ki_BadRow_BadLeft => kernel_rfl); (case xL_BadLeft => k_is); (case xm_BadLeft => rfl); (case sa_BadLeft => k_is); (case ga_BadLeft => k_is); (case gg_BadLeft => k_is); (case nw_BadLeft => k_is); (case in_BadLeft => k_is); (case kC_BadLeft => k_is); (case eC_BadLeft => k_is); (case tC_BadLeft => k_is); (case hC_BadLeft => k_is); (case ca_BadLeft => k_is); (case mo_BadLeft => k_is); (case rd_BadLeft => k_is); (case fc_BadLeft => k_is); (case nn_BadLeft => k_is); (case sH_BadLeft_Refused => k_is); (case ki_BadLeft_BadRow => kernel_rfl); (case cn => k_is); (case ct => k_is); (case z_all => k_is); (case z_bool => k_is); (case z_enumerate => k_is); (case z_int => k_is); (case z_isinstance => k_is); (case z_len => k_is); (case z_max => k_is); (case z_min => k_is); (case z_range => k_is); (case z_repr => k_is); (case z_sum => k_is); (case z_tuple => k_is); (case z_zip => k_is); (case v_GREATEST_PRIME => k_is); (case ne28_29 => decide)

