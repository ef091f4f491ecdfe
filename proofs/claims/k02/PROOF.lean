import PyProof.Rows.All
import Wide.All
import OpenK.AllK
import Wide.FinOn
import HandS.ForMost
import HandS.Wide
import HandS.IsInst
import HandS.Zip
import HandS.Style
import HandS.Defaults
import HandS.TupAny
import HandS.Walk
import HandS.Star
import HandS.Flow
import HandS.SortRule
import PyProof.ReprRoads
import HandS.SetFor
import HandS.Strs
import HandS.Lambda
import HandS.Nested
import HandS.EndTab
import PySem.Challenge.RW_piecefacts_k02_two_range_sets
import HandS.Conv
set_option Elab.async false
set_option linter.all false
set_option maxRecDepth 100000
/-! Calls where no repr is under way: the hand layer's promises of defs, with that fact carried along. -/
namespace Pf
open PySem PySem.Spec PyProof.Rows L2
/-- the promise of a def, kept wherever no repr is under way -/
structure FnG (P : Program) (w : World) (K : PySem.W.Frag) (mg : Str → Option Value) (base : Heap) (k : Nat) (f : Addr) (fd : FuncData) (ps : List Str) (sp : Sp) : Prop where
  size : ∀ vs H Q E, sp vs H Q E → vs.length = ps.length
  goes : ∀ (A : Around) (outer : List Env) (s : Shared) (H : Hp) (args : Args) (us : List Value) (vs : List V) (Q : VK) (E : XK), A.guards = some [] → Room k A →
    Env0 P w K mg base A outer s H → BindsTo s fd args (ps.zip us) → Vals vs us → sp vs H Q E → codeAny (model P w) A (.call (.ref f) args) (CR CX0 outer P w H s Q E) s
section
variable {base : Heap} {P : Program} {w : World} {mg : Str → Option Value} {K : PySem.W.Frag}
theorem FnG.up {j k : Nat} {f : Addr} {fd : FuncData} {ps : List Str} {sp : Sp} (F : FnG P w K mg base j f fd ps sp) (h : j ≤ k) : FnG P w K mg base k f fd ps sp :=
  ⟨F.size, fun A outer s H args us vs Q E hg hr => F.goes A outer s H args us vs Q E hg (hr.mono h)⟩
theorem guards_deeper {A : Around} {env : Env} (h : A.guards = some []) : (A.deeper env).guards = some [] := h
/-- a def by its body, where no repr is under way; its code object told -/
theorem okGc {x qual : Str} {st : Stmt} {f : Addr} {fd : FuncData} {N ps : List Str} {k : Nat} {sp : Sp} (F : Fun K x qual st f fd) (S : FnScope N ps (defScope st)) (hlen : ∀ vs H Q E, sp vs H Q E → vs.length = ps.length)
    (bd : ∀ (cdv : Value) (A : Around) (outer : List Env) (s : Shared) (H : Hp) (vs : List V) (Q : VK) (E : XK), fd.code = cdv → (A.deeper (envOfC qual (defScope st) s.heap.objs.size f cdv)).guards = some [] →
      Room k (A.deeper (envOfC qual (defScope st) s.heap.objs.size f cdv)) → sp vs H Q E →
      ∃ t, PSs (cxOf CX0 P w K mg base N qual (defScope st) f cdv A outer s H E).nox (defBody st) t ∧ t { nx := fun _ H' => Q .non H', rt := Q } (start N vs) H) : FnG P w K mg base (k + 1) f fd ps sp := by
  obtain ⟨_, _, _, _, _, _, cdv, _, _, hfd, lk, hcd⟩ := F.ex
  subst hfd
  constructor
  · exact hlen
  intro A outer s H args us vs Q E hg hr env0 bind rel promise
  have vsl := hlen vs H Q E promise
  have kin : K.In s.heap := env0.mod.kin.keeps (fun b o z => (env0.bs b o z).1)
  have nolim : s.heap.NoLimit := env0.mod.nolimit.keeps (fun b o z => (env0.bs b o z).1)
  obtain ⟨t, der, rd⟩ := bd cdv A outer s H vs Q E rfl (guards_deeper hg) (hr.deeper _) promise
  refine codeAny_call_function hr.depth (kin _ _ lk) rfl S.co S.gen rfl (PySem.W.codeRec_of kin hcd) (bind _ _ _ _ (wpAny_newFunctionEnv_cells S.kind ?kinds ?enter))
  case kinds =>
    rintro ⟨n, v⟩ hy
    cases S.par n (List.of_mem_zip hy).1 with
    | inl q => exact Or.inl q
    | inr q => exact Or.inr (And.intro q (PySem.W.cellsFrom_some _ _ _ (Or.inl q)))
  case enter =>
    intro env he s1 inside
    subst he
    constructor
    · exact nolim.keeps inside.toInCall.keep
    refine codeAny_func (wpAny_mono (der.nox.run [] s1 (start N vs) H _ (inv_start S hr.hd env0 vsl rel inside) rd) ?_ (fun e s' z => z))
    intro flow s' z
    match flow, z with
    | .ret u, ⟨v, σ', H', J, rv, q⟩ => exact ⟨v, H', J.os, J.bare, J.base, J.hok, rv, q⟩
    | .next, ⟨σ', H', J, q⟩ => exact ⟨V.non, H', J.os, J.bare, J.base, J.hok, rfl, q⟩
    | .brk, ⟨_, _, _, q⟩ => exact q.elim
    | .cont, ⟨_, _, _, q⟩ => exact q.elim
/-- .. its code object left open -/
theorem okG {x qual : Str} {st : Stmt} {f : Addr} {fd : FuncData} {N ps : List Str} {k : Nat} {sp : Sp} (F : Fun K x qual st f fd) (S : FnScope N ps (defScope st)) (hlen : ∀ vs H Q E, sp vs H Q E → vs.length = ps.length)
    (bd : ∀ (cdv : Value) (A : Around) (outer : List Env) (s : Shared) (H : Hp) (vs : List V) (Q : VK) (E : XK), (A.deeper (envOfC qual (defScope st) s.heap.objs.size f cdv)).guards = some [] →
      Room k (A.deeper (envOfC qual (defScope st) s.heap.objs.size f cdv)) → sp vs H Q E →
      ∃ t, PSs (cxOf CX0 P w K mg base N qual (defScope st) f cdv A outer s H E).nox (defBody st) t ∧ t { nx := fun _ H' => Q .non H', rt := Q } (start N vs) H) : FnG P w K mg base (k + 1) f fd ps sp :=
  okGc F S hlen fun cdv A outer s H vs Q E _ hg hr h => bd cdv A outer s H vs Q E hg hr h
end
/-- a def that may be called by its name -/
structure Cal (P : Program) (w : World) (K : PySem.W.Frag) (mg : Str → Option Value) (base : Heap) (k : Nat) (x : Str) (sp : Sp) : Prop where
  is : ∃ (f : Addr) (fd : FuncData) (ps : List Str), FnG P w K mg base k f fd ps sp ∧ mg x = some (.ref f) ∧ PySem.W.keepIn K (.ref f) = true ∧ Binds K fd ps []
/-- .. by keywords alone -/
structure CalK (P : Program) (w : World) (K : PySem.W.Frag) (mg : Str → Option Value) (base : Heap) (k : Nat) (x : Str) (ks : List Str) (gV : List V → List V) (sp : Sp) : Prop where
  is : ∃ (f : Addr) (fd : FuncData) (ps : List Str) (g : List Value → List Value), FnG P w K mg base k f fd ps sp ∧ mg x = some (.ref f) ∧ PySem.W.keepIn K (.ref f) = true ∧ KBn K fd ps 0 ks (fun _ ws => g ws) (fun _ zs => gV zs)
def noErr : XK := fun _ _ _ => False
def tC1 (sp : Sp) (t : TA) : TE := fun σ H Q => t σ H fun vs H1 => sp vs H1 Q noErr
def tCK (m : Nat) (sp : Sp) (gV : List V → List V) (tk : TA) : TE := fun σ H Q => tk σ H fun zs H1 => zs.length = m ∧ sp (gV zs) H1 Q noErr
section
variable {X : Cx} {j k : Nat} {x : Str} {sp : Sp} {p pos : Pos} {e : Expr} {es : List Expr} {t tk : TA} {kws : List Keyword} {ks : List Str} {gV : List V → List V}
theorem goesG {pins : List (Addr × Obj)} {σ : L2.St} {H : Hp} {s : Shared} {Q : VK} {f : Addr} {fd : FuncData} {ps : List Str} {args : Args} {us : List Value} {vs : List V} (F : FnG X.prog X.w X.K X.mg X.base k f fd ps sp) (hg : X.A.guards = some []) (hr : Room k X.A)
    (I : Inv X pins σ H s) (b : BindsTo s fd args (ps.zip us)) (r : Vals vs us) (h : sp vs H Q noErr) : wpAny (model X.prog X.w) X.A (call (.ref f) args.pos args.kw) (EP X pins σ Q) X.xe s := by
  refine wpAny_call (codeAny_mono (F.goes X.A X.stack s H args us vs Q noErr hg hr I.env0 b r h) ?_)
  intro res s' z
  match res, z with
  | .error e, z => exact pass0 pins σ H s e s' I z
  | .ok (.ret u), z => exact I.after z
  | .ok .next, z => exact z.elim
  | .ok .brk, z => exact z.elim
  | .ok .cont, z => exact z.elim
theorem pe_c (c : Cal X.prog X.w X.K X.mg X.base k x sp) (hr : X.A.guards = some [] ∧ Room j X.A) (hk : k ≤ j) (gl : Gl X x) (ha : PA X (e :: es) t)
    (hdb : (x == ("__debug__" : Str)) = false := by decide) (he : starEach (e :: es) X.env = (false, eval e X.env) :: starEach es X.env := by rfl) (hpl : (backTo pos (starEach es X.env)).any (·.1) = false := by rfl) :
    PE X (.Call (.Name x p) (e :: es) [] pos) (tC1 sp t) := by
  obtain ⟨f, fd, ps, F, hm, kp, b⟩ := c.is
  constructor
  intro pins s σ H Q I h
  have vsl := F.size
  refine Call_ (ld_glob I gl hm ?_ hdb)
  refine PySem.W.callWith_K (h₀ := X.base) I.ok.mod.kin kp ?_ he hpl
  refine thn (ha.run pos pins s σ H _ I h) fun us s1 ⟨vs, H1, I1, r, q⟩ => ⟨I1.kIn, ?_⟩
  have hl : us.length = ps.length := by rw [← r.length]; exact vsl _ _ _ _ q
  have bb := b s1 us I1.kIn (by rw [List.append_nil]; exact hl)
  rw [List.append_nil] at bb
  exact goesG F hr.1 (hr.2.mono hk) I1 bb r q
theorem pe_cK0 (c : CalK X.prog X.w X.K X.mg X.base k x ks gV sp) (hr : X.A.guards = some [] ∧ Room j X.A) (hk : k ≤ j) (gl : Gl X x) (hkw : PK X kws tk)
    (h1 : (backToKw pos (keywordEach kws X.env)).all (·.1.isSome) = true := by rfl) (h2 : (backToKw pos (keywordEach kws X.env)).filterMap (·.1) = ks := by rfl)
    (hdb : (x == ("__debug__" : Str)) = false := by decide) (hpl : ((backTo pos (starEach [] X.env)).any (·.1) || (backToKw pos (keywordEach kws X.env)).any (·.1.isNone)) = false := by rfl) :
    PE X (.Call (.Name x p) [] kws pos) (tCK ks.length sp gV tk) := by
  obtain ⟨f, fd, ps, g, F, hm, kp, b⟩ := c.is
  constructor
  intro pins s σ H Q I h
  refine wpAny_Call_Name_kw (ld_glob I gl hm ?_ hdb)
  refine PySem.W.callWith_KW0 (h₀ := X.base) I.ok.mod.kin kp h1 ?_ hpl
  refine thn (hkw.run pos pins s σ H _ I h) fun ws s1 ⟨zs, H1, I1, r, hz, q⟩ => ⟨I1.kIn, ?_⟩
  rw [h2]
  have bb := b.to s1 [] ws I1.kIn rfl (r.length.symm.trans hz)
  exact goesG (args := ⟨[], ks.zip ws⟩) F hr.1 (hr.2.mono hk) I1 bb (b.rel (vs := []) .nil r) q
end
/-- the law's call at the caller of a claim: the script is the one object that is known -/
theorem lawG {P : Program} {w : World} {K : PySem.W.Frag} {mg mb : Str → Option Value} {k : Nat} {fa a : Addr} {fd : FuncData} {x : Str} {sp : Sp} {s₁ : Shared} {vs : List Value} {ns : List Int}
    (KX : K.In s₁.heap) (gn : s₁.heap.Ns mainGlobals mg) (bn : s₁.heap.Ns builtinsNs mb) (bb : ∀ x : Str, x ≠ "__name__" → mb x = bootBuiltins x) (nl : s₁.heap.NoLimit) (gens : s₁.gens = #[])
    (at_a : s₁.heap.get? a = some { cls := .type "list", data := .seq vs.toArray }) (iv : IntsAre vs ns) (few : ns.length ≤ sizeLine) (room : Room k callerA)
    (F : ∀ base : Heap, K.In base → base.Ns mainGlobals mg → FnG P w K mg base k fa fd [x] sp) (bind : ∀ (s : Shared) (u : Value), BindsTo s fd ⟨[u], []⟩ [(x, u)])
    (goal : ∀ H : Hp, SqL K H a (ns.map V.int) → sp [.ref a] H (fun v _ => v = .bl true) fun _ _ _ => False) :
    codeAny (model P w) callerA (.call (.ref fa) ⟨[.ref a], []⟩) (fun out t => out = .ok (.ret (.bool true)) ∧ OldK s₁.heap t.heap ∧ t.os = s₁.os ∧ AllBare t.gens) s₁ := by
  have rel := vals_ints iv
  -- the abstract heap: the script, unless it is an object of the written part
  obtain ⟨H, only, sql, ok, mine, offK⟩ : ∃ H : Hp, (∀ b, H b = none ∨ ∃ o xs, H b = some (.frz o (.lst xs))) ∧ SqL K H a (ns.map V.int) ∧ HOk P w H s₁.heap ∧ (∀ b, H b ≠ none → b = a) ∧ (H a ≠ none → K.lookup a = none) := by
    cases look : K.lookup a with
    | some o =>
      have same := KX a o look
      rw [at_a] at same
      cases same
      exact ⟨fun _ => none, fun _ => Or.inl rfl, .inr ⟨_, vs.toArray, _, look, rfl, rfl, rfl, by rw [List.size_toArray, iv.length]; exact few, by simpa using rel⟩, (fun _ _ z => by cases (show (none : Option HO) = some _ from z)), (fun _ z => absurd rfl z), (fun z => absurd rfl z)⟩
    | none =>
      refine ⟨fun b => if b = a then some (.frz { cls := .type "list", data := .seq vs.toArray } (.lst (ns.map V.int))) else none, fun b => ?_, .inl (.inr ⟨_, if_pos rfl⟩), fun b u z => ?_, fun b z => ?_, fun _ => rfl⟩
      · by_cases hb : b = a
        · exact Or.inr ⟨_, _, if_pos hb⟩
        · exact Or.inl (if_neg hb)
      · by_cases hb : b = a
        · subst hb
          have zz := (if_pos rfl).symm.trans z
          cases zz
          exact ⟨at_a, by rw [List.length_map]; exact few, vs, _, rel, at_a⟩
        · have zz := (if_neg hb).symm.trans z
          cases zz
      · by_cases hb : b = a
        · exact hb
        · exact absurd (if_neg hb) z
  have hid : ∀ {b : Addr} {o : Obj}, s₁.heap.get? b = some o → H b = none → (hidT s₁.heap H).get? b = some o := fun e n => hidT_get e n
  have dicts : ∀ {b : Addr} {o : Obj} {es : Array DictEntry} {ep : Nat}, s₁.heap.get? b = some o → o.data = .dict es ep → H b = none := by
    intro b o es ep e d
    apply Classical.byContradiction
    intro z
    have eb := mine b z
    subst eb
    rw [at_a] at e
    cases e
    exact absurd d (fun q => nomatch q)
  have names : ∀ {b : Addr} {m : Str → Option Value}, s₁.heap.Ns b m → (hidT s₁.heap H).Ns b m := by
    rintro b m ⟨o, es, ep, e, d, r⟩
    exact ⟨o, es, ep, hid e (dicts e d), d, r⟩
  have kin : K.In (hidT s₁.heap H) := by
    intro b o e
    refine hid (KX b o e) (Classical.byContradiction fun z => ?_)
    have eb := mine b z
    subst eb
    rw [offK z] at e
    cases e
  obtain ⟨mc, n1, n2⟩ := nl
  have env0 : Env0 P w K mg (hidT s₁.heap H) callerA [] s₁ H :=
    ⟨rfl, ⟨kin, names gn, ⟨mb, names bn, bb⟩, ⟨mc, names n1, n2⟩⟩, fun b o e => of_hidT e, Nat.le_of_eq (hidT_size _ _), trivial, fun b hb => (List.not_mem_nil hb).elim, ok, .of_eq gens⟩
  refine codeAny_mono ((F _ kin (names gn)).goes callerA [] s₁ H ⟨[.ref a], []⟩ [.ref a] [.ref a] _ _ rfl room env0 (bind s₁ (.ref a)) (.cons rfl .nil) (goal H sql)) ?_
  intro res s' z
  match res, z with
  | .ok .next, z => exact z.elim
  | .ok .brk, z => exact z.elim
  | .ok .cont, z => exact z.elim
  | .ok (.ret u), ⟨v, H', os, bare, un, ok', rv, q⟩ =>
    have vt : v = V.bl true := q
    subst vt
    have ut : u = Value.bool true := rv
    subst ut
    refine ⟨rfl, OldK.of_keep (fun b o e => ?_), os, bare⟩
    rcases only b with n | ⟨ob, xs, fz⟩
    · exact un.keep b o e n (fun m => (List.not_mem_nil m).elim) (by simp)
    · have g1 := (ok b _ fz).1
      have g2 := (ok' b _ (un.frzs b ob _ fz)).1
      rw [e] at g1
      cases g1
      exact g2
theorem walkG {l : PySem.W.OpenLaw} {k : Nat} {q : Program} {loose : List Str} {XP : (Str → Option Value) → Heap → Prop} {YP : World → Heap → Prop} {d : DefRec} {K : Params → PySem.W.Frag} {sp : PySem.W.Frag → Sp} {x : Str}
    (hn : l.most = some 63) (hdf : d.params.defaults = []) (room : Room k callerA) (hY : ∀ (w : World) (h : Heap), YP w h → (K w.params).In h)
    (F : ∀ (w : World) (mg : Str → Option Value) (at_ : Addr) (top : Heap), (K w.params).In top → top.Ns mainGlobals mg → mg d.name = some (.ref at_) →
      ∃ fd : FuncData, (∀ (s : Shared) (u : Value), BindsTo s fd ⟨[u], []⟩ [(x, u)]) ∧ ∀ base : Heap, (K w.params).In base → base.Ns mainGlobals mg → FnG l.prog w (K w.params) mg base k at_ fd [x] (sp (K w.params)))
    (goal : ∀ (K : PySem.W.Frag) (H : Hp) (a : Addr) (ns : List Int), ns.length ≤ 63 → SqL K H a (ns.map V.int) → sp K [.ref a] H (fun v _ => v = .bl true) fun _ _ _ => False) :
    PySem.W.WalkO q loose XP YP l.row.toRowW d [] (fun g args => PySem.call g args) := by
  refine Att.attach_call hn hdf ?_
  intro w _ _ mg _ fa _ _ _ _ a _ ns top behind _ _ _ named script iv few gens
  obtain ⟨fd, bind, made⟩ := F w mg fa _ (hY w _ behind) top.T.g named
  exact lawG (hY w _ behind) top.T.g top.T.b top.T.builtins top.T.nolimit gens script iv (Nat.le_trans few (by decide)) room made bind fun H hS => goal _ H a ns few hS
end Pf

set_option Elab.async false
set_option linter.all false
set_option maxRecDepth 100000
/-! Data of any kind in the abstract heap, and its repr. -/
namespace Pf
open PySem PySem.Spec PyProof.Rows L2
mutual
/-- b: it may hold dicts (then its lists do not stand at the modules' place); p: an address that is none of its own -/
inductive Dq (b : Bool) (p : Addr) (H : Hp) : V → PyData → Prop
  | non : Dq b p H .non .none
  | bl (x : Bool) : Dq b p H (.bl x) (.bool x)
  | int (i : Int) : Dq b p H (.int i) (.int i)
  | str (x : Str) : Dq b p H (.str x) (.str x)
  | lst {a : Addr} {xs : List V} {ds : List PyData} : H a = some (.lst xs) → a ≠ p → (b = true → a ≠ sysModules) → DqAll b p H xs ds → Dq b p H (.ref a) (.list ds)
  | tup {a : Addr} {xs : List V} {ds : List PyData} : H a = some (.tup xs) → a ≠ p → DqAll b p H xs ds → Dq b p H (.ref a) (.tuple ds)
  | dc0 {a : Addr} : b = true → H a = some (.dK []) → a ≠ p → Dq b p H (.ref a) (.dict [])
  | dc1 {a : Addr} {x : Str} {v : V} {d : PyData} : b = true → H a = some (.dK [(Sum.inr x, v)]) → a ≠ p → Dq b p H v d → Dq b p H (.ref a) (.dict [(.str x, d)])
inductive DqAll (b : Bool) (p : Addr) (H : Hp) : List V → List PyData → Prop
  | nil : DqAll b p H [] []
  | cons {v : V} {vs : List V} {d : PyData} {ds : List PyData} : Dq b p H v d → DqAll b p H vs ds → DqAll b p H (v :: vs) (d :: ds)
end
section
variable {X : Cx} {pins : List (Addr × Obj)} {σ : L2.St} {H : Hp} {s : Shared} {b : Bool} {p : Addr}
mutual
theorem Dq.reads (I : Inv X pins σ H s) : ∀ (d : PyData) (v : V) (u : Value), Dq b p H v d → RelV v u → ∃ as, Reads s.heap u d as ∧ (b = true → sysModules ∉ as) ∧ (b = false → d.hasDict = false)
  | .none, _, _, h, r => by
    cases h
    cases r
    exact ⟨[], Reads.none, fun _ z => (List.not_mem_nil z).elim, fun _ => by simp only [PyData.hasDict]⟩
  | .bool x, _, _, h, r => by
    cases h
    cases r
    exact ⟨[], Reads.bool x, fun _ z => (List.not_mem_nil z).elim, fun _ => by simp only [PyData.hasDict]⟩
  | .int i, _, _, h, r => by
    cases h
    obtain ⟨t, rfl⟩ := r
    exact ⟨[], Reads.int i t, fun _ z => (List.not_mem_nil z).elim, fun _ => by simp only [PyData.hasDict]⟩
  | .str x, _, _, h, r => by
    cases h
    obtain ⟨t, rfl⟩ := r
    exact ⟨[], Reads.str x t, fun _ z => (List.not_mem_nil z).elim, fun _ => by simp only [PyData.hasDict]⟩
  | .list ds, _, _, h, r => by
    cases h with
    | lst e ne sm ha =>
      cases r
      obtain ⟨_, its, n, rv, g⟩ := I.hok _ _ e
      obtain ⟨as, q, z1, z2⟩ := Dq.readsAll I ds _ its ha rv
      refine ⟨_, Reads.list g rfl rfl q, fun t m => ?_, fun f => by simp only [PyData.hasDict]; exact z2 f⟩
      rcases List.mem_cons.mp m with m | m
      · exact sm t m.symm
      · exact z1 t m
  | .tuple ds, _, _, h, r => by
    cases h with
    | tup e ne ha =>
      cases r
      obtain ⟨_, its, rv, o, g, c, n, dd⟩ := I.hok _ _ e
      obtain ⟨as, q, z1, z2⟩ := Dq.readsAll I ds _ its ha rv
      exact ⟨_, Reads.tuple g c dd q, z1, fun f => by simp only [PyData.hasDict]; exact z2 f⟩
  | .dict kvs, _, _, h, r => by
    cases h with
    | dc0 bt e ne =>
      cases r
      obtain ⟨_, sm, vs, kv, o, es, ep, g, ex, dd, _, pr, _⟩ := I.hok _ _ e
      cases kv
      have el : es.toList = [] := by cases hh : es.toList with
        | nil => rfl
        | cons x r => rw [hh] at pr; cases pr
      refine ⟨_, Reads.dict (as := []) (bs := []) g ex.1 dd (by rw [el]; exact .nil) (by rw [el]; exact .nil), fun _ m => ?_, fun f => by rw [bt] at f; cases f⟩
      rcases List.mem_cons.mp m with m | m
      · exact absurd m.symm (beq_eq_false_iff_ne.mp sm)
      · exact List.not_mem_nil m
    | @dc1 a x v d bt e ne hd =>
      cases r
      obtain ⟨_, sm, vs, kv, o, es, ep, g, ex, dd, _, pr, _⟩ := I.hok _ _ e
      obtain ⟨w, rfl, rw'⟩ : ∃ w, vs = [((Sum.inr x : Key), w)] ∧ RelV v w := by
        cases vs with
        | nil => cases kv
        | cons q r =>
          cases r with
          | nil =>
            cases kv with
            | cons k1 k2 =>
              obtain ⟨kk, w⟩ := q
              obtain ⟨k1, k3⟩ := k1
              simp only at k1 k3
              subst k1
              exact ⟨w, rfl, k3⟩
          | cons _ _ =>
            cases kv with
            | cons k1 k2 => cases k2
      by_cases tt0 : True
      · skip
        have el : ∃ en : DictEntry, es.toList = [en] ∧ keyIs (Sum.inr x) en.key = true ∧ en.val = w := by
          cases hh : es.toList with
          | nil => rw [hh] at pr; cases pr
          | cons en r =>
            rw [hh] at pr
            cases pr with
            | cons i1 i2 i3 => cases i3; exact ⟨en, rfl, i1, i2⟩
        obtain ⟨en, el, hk, hv⟩ := el
        obtain ⟨t, ek⟩ : ∃ t, en.key = Value.str x t := by
          rcases keyIs_shape hk with ⟨i, t, e1, e2⟩ | ⟨y, t, e1, e2⟩
          · cases e1
          · cases e1; exact ⟨t, e2⟩
        obtain ⟨as, q, z1, z2⟩ := Dq.reads I d v w hd rw'
        refine ⟨_, Reads.dict (as := [] ++ []) (bs := as ++ []) g ex.1 dd (by rw [el]; exact .cons (by show Reads s.heap en.key (.str x) []; rw [ek]; exact Reads.str x t) .nil) (by rw [el]; exact .cons (by show Reads s.heap en.val d as; rw [hv]; exact q) .nil), fun tt m => ?_, fun f => by rw [bt] at f; cases f⟩
        simp only [List.append_nil, List.nil_append] at m
        rcases List.mem_cons.mp m with m | m
        · exact absurd m.symm (beq_eq_false_iff_ne.mp sm)
        · exact z1 tt m
      · exact absurd trivial tt0
theorem Dq.readsAll (I : Inv X pins σ H s) : ∀ (ds : List PyData) (vs : List V) (us : List Value), DqAll b p H vs ds → Vals vs us → ∃ as, ReadsAll s.heap us ds as ∧ (b = true → sysModules ∉ as) ∧ (b = false → PyData.hasDictAll ds = false)
  | [], _, _, h, r => by
    cases h
    cases r
    exact ⟨[], ReadsAll.nil, fun _ z => (List.not_mem_nil z).elim, fun _ => by simp only [PyData.hasDictAll]⟩
  | d :: ds, _, _, h, r => by
    cases h with
    | cons h1 h2 =>
      cases r with
      | cons r1 r2 =>
        obtain ⟨as, q1, y1, y2⟩ := Dq.reads I d _ _ h1 r1
        obtain ⟨bs, q2, z1, z2⟩ := Dq.readsAll I ds _ _ h2 r2
        refine ⟨_, ReadsAll.cons q1 q2, fun t m => ?_, fun f => by simp only [PyData.hasDictAll, y2 f, z2 f, Bool.or_self]⟩
        rcases List.mem_append.mp m with m | m
        · exact y1 t m
        · exact z1 t m
end
end
/-- the text of a value, what it asks -/
def Fits (d : PyData) : Prop := d.showable = true ∧ d.shown.length ≤ sizeLine ∧ d.depth ≤ 60
section
variable {X : Cx} {k : Nat}
theorem call_reprD (hr : X.A.guards = some [] ∧ Room k X.A) : CallR X (.builtin "repr") (fun xs H Q => ∃ a d b p, xs = [.ref a] ∧ Dq b p H (.ref a) d ∧ Fits d ∧ Q (.str d.shown) H) := by
  intro pins s σ H xs us Q I r h
  obtain ⟨a, d, b, p, rfl, hd, ⟨f1, f2, f3⟩, q⟩ := h
  obtain ⟨u, rfl, ru⟩ := vals1 r
  obtain ⟨as, rd, z1, z2⟩ := Dq.reads I d _ u hd ru
  cases ru
  have un := hr.2.un
  refine repr_of_reads' rd f1 (fun hx => ?_) hr.1 (by omega) (fun _ _ e => e) (fun h' u tk hk => ?_) f2
  · cases b with
    | true => exact z1 rfl
    | false => rw [z2 rfl] at hx; cases hx
  · exact ⟨.str _, H, I.kept hk, ⟨u, rfl⟩, q⟩
theorem call_reprV (hr : X.A.guards = some [] ∧ Room k X.A) : CallR X (.builtin "repr") (fun xs H Q => ∃ v d b p, xs = [v] ∧ Dq b p H v d ∧ Fits d ∧ Q (.str d.shown) H) := by
  intro pins s σ H xs us Q I r h
  obtain ⟨v, d, b, p, e, hd, f, q⟩ := h
  have go : ∀ a, v = .ref a → wpAny (model X.prog X.w) X.A (call (.builtin "repr") us) (EP X pins σ Q) X.xe s := fun a z => by
    subst z
    exact call_reprD hr pins s σ H xs us Q I r ⟨a, d, b, p, e, hd, f, q⟩
  cases hd with
  | non =>
    subst e
    obtain ⟨u, rfl, ru⟩ := vals1 r
    cases ru
    exact PySem.P.repr_of_none ⟨.str _, H, I.tok _, ⟨_, rfl⟩, q⟩
  | bl x =>
    subst e
    obtain ⟨u, rfl, ru⟩ := vals1 r
    cases ru
    refine PySem.P.repr_of_bool ⟨.str _, H, I.tok _, ⟨_, rfl⟩, ?_⟩
    simp only [PyData.shown] at q
    cases x <;> exact q
  | int x =>
    subst e
    obtain ⟨u, rfl, t, rfl⟩ := vals1 r
    exact PySem.P.repr_of_int (of_decide_eq_true f.1) ⟨.str _, H, I.tok _, ⟨_, rfl⟩, q⟩
  | str x =>
    subst e
    obtain ⟨u, rfl, t, rfl⟩ := vals1 r
    exact PySem.P.repr_of_str ⟨.str _, H, I.tok _, ⟨_, rfl⟩, q⟩ f.2.1
  | lst _ _ _ _ => exact go _ rfl
  | tup _ _ _ => exact go _ rfl
  | dc0 _ _ _ => exact go _ rfl
  | dc1 _ _ _ _ => exact go _ rfl
/-- a new list is not the table of modules -/
def tLstM (t : TA) : TE := fun σ H Q => t σ H fun xs H1 => xs.length ≤ sizeLine ∧ ∀ p, H1 p = none → p ≠ sysModules → Q (.ref p) (upd H1 p (.lst xs))
theorem pe_lstM {es : List Expr} {t : TA} {pos : Pos} (h : PA X es t) : PE X (.List es pos) (tLstM t) := by
  constructor
  intro pins s σ H Q I hq
  refine wpAny_List_spliced (thn (h.run pos pins s σ H _ I hq) ?_)
  rintro us s1 ⟨xs, H1, I1, r, z, q⟩
  have big := I1.big
  have new := I1.hok.fresh (Nat.le_refl s1.heap.objs.size)
  refine ⟨r.length ▸ z, .ref s1.heap.objs.size, upd H1 s1.heap.objs.size (.lst xs), I1.laid (t' := s1.toks) (fun _ _ e => Heap.get?_push_of_some _ e) (Nat.le_refl _) ⟨z, us, 0, r, Heap.get?_push_size _ rfl⟩, rfl, q _ new (Nat.ne_of_gt big)⟩
/-- a power of whole numbers -/
theorem op_powW : OpR X (binaryOp .Pow) (rI (fun i j => 0 ≤ j ∧ (Builtin.Int.intBits i : Int) * j ≤ 2 ^ 27) fun i j => .int (i ^ j.toNat)) := opI fun _ _ _ _ _ _ _ hc q => pow_int hc.1 hc.2 q
end
end Pf

set_option Elab.async false
set_option linter.all false
set_option maxRecDepth 100000
/-! Heaps, the pot, rules for tracked things: no text of a program. -/
namespace Pf
open PySem PySem.Spec PyProof.Rows L2
theorem at20 {x y : V} : atI [x, y] 0 = some x := rfl
theorem at21 {x y : V} : atI [x, y] 1 = some y := rfl
theorem at0 {x y z : V} : atI [x, y, z] 0 = some x := rfl
theorem at1 {x y z : V} : atI [x, y, z] 1 = some y := rfl
theorem at2 {x y z : V} : atI [x, y, z] 2 = some z := rfl
/-- an item of a list that is tracked -/
def rIxV : R2 := fun x y H Q => ∃ p xs i v, x = .ref p ∧ y = .int i ∧ H p = some (.lst xs) ∧ atI xs i = some v ∧ Q v H
theorem ix_v {X : Cx} : IxR X rIxV := by
  intro value slice pins s σ H x y u v Q I rx ry h hs
  obtain ⟨p, xs, i, z, e1, e2, e3, e4, q⟩ := h
  exact ix_list value slice pins s σ H x y u v Q I rx ry ⟨p, xs, i, z, e1, e2, SqL.of e3, e4, q⟩ hs
theorem call_intI {X : Cx} : CallR X (.type "int") (fun xs H Q => ∃ i, xs = [.int i] ∧ Q (.int i) H) := fun pins s σ H xs us Q I r h => call_int1 pins s σ H xs us Q I r (Or.inl h)
theorem call_lenL {X : Cx} : CallR X (.builtin "len") (fun xs H Q => ∃ p ys, xs = [.ref p] ∧ H p = some (.lst ys) ∧ Q (.int ys.length) H) := by
  intro pins s σ H xs us Q I r h
  obtain ⟨p, ys, e1, e2, q⟩ := h
  exact call_len_seq pins s σ H xs us Q I r ⟨p, ys, e1, .inl (SqL.of e2), q⟩
theorem call_lenT {X : Cx} : CallR X (.builtin "len") (fun xs H Q => ∃ p ys, xs = [.ref p] ∧ H p = some (.tup ys) ∧ Q (.int ys.length) H) := by
  intro pins s σ H xs us Q I r h
  obtain ⟨p, ys, e1, e2, q⟩ := h
  exact call_len_seq pins s σ H xs us Q I r ⟨p, ys, e1, .inr (SqT.of e2), q⟩
theorem atI_some {α : Type} {xs : List α} {i : Int} (h0 : 0 ≤ i) (h1 : i < xs.length) : ∃ x, atI xs i = some x ∧ x ∈ xs := by
  obtain ⟨n, rfl⟩ := Int.eq_ofNat_of_zero_le h0
  have hn : n < xs.length := by omega
  exact ⟨xs[n], atI_nat (List.getElem?_eq_getElem hn), List.getElem_mem hn⟩
def rIxP : R2 := fun x y H Q => ∃ p xs i v, x = .ref p ∧ y = .int i ∧ H p = some (.tup xs) ∧ atI xs i = some v ∧ Q v H
theorem ix_t {X : Cx} : IxR X rIxP := by
  intro value slice pins s σ H x y u v Q I rx ry h hs
  obtain ⟨p, xs, i, z, e1, e2, e3, e4, q⟩ := h
  exact ix_tup value slice pins s σ H x y u v Q I rx ry ⟨p, xs, i, z, e1, e2, SqT.of e3, e4, q⟩ hs
/-- (a, b) = a tracked tuple -/
def gTupV (n : Nat) (t : TGs) : TG := fun v σ H Q => ∃ a xs, v = .ref a ∧ H a = some (.tup xs) ∧ xs.length = n ∧ t xs σ H Q
theorem pg_tupV {X : Cx} {es : List Expr} {k : Nat} {t : TGs} {n : Nat} {pos : Pos} (hc : X.calm = true) (h : PGs X es t) (hn : (assignEach es X.env).length = n := by rfl) (hs : (assignEach es X.env).findIdx? (·.1) = none := by rfl) : PG X (.Tuple es k pos) (gTupV n t) := by
  constructor
  intro pins s σ H v u Q I r ⟨a, xs, e1, e2, e3, q⟩
  exact (pg_tup hc h hn hs).run pins s σ H v u Q I r ⟨a, xs, e1, SqT.of e2, e3, q⟩
/-- all(l), any(l) of a tracked list of truths -/
def rAllB : List V → Hp → VK → Prop := fun xs H Q => ∃ (a : Addr) (bs : List Bool), xs = [V.ref a] ∧ H a = some (.lst (bs.map V.bl)) ∧ Q (.bl (bs.all id)) H
def rAnyB : List V → Hp → VK → Prop := fun xs H Q => ∃ (a : Addr) (bs : List Bool), xs = [V.ref a] ∧ H a = some (.lst (bs.map V.bl)) ∧ Q (.bl (bs.any id)) H
theorem call_allB {X : Cx} (hc : X.calm = true) : CallR X (.builtin "all") rAllB := fun pins s σ H xs us Q I r ⟨a, bs, e1, e2, q⟩ => cr_all hc pins s σ H xs us Q I r ⟨a, bs, e1, SqL.of e2, q⟩
theorem call_anyB {X : Cx} (hc : X.calm = true) : CallR X (.builtin "any") rAnyB := fun pins s σ H xs us Q I r ⟨a, bs, e1, e2, q⟩ => cr_any hc pins s σ H xs us Q I r ⟨a, bs, e1, SqL.of e2, q⟩
/-- t[1:] of a tracked tuple -/
def rSl1 : V → Option Int → Option Int → Hp → VK → Prop := fun x lo hi H Q => ∃ (a : Addr) (xs : List V), x = .ref a ∧ lo = some 1 ∧ hi = none ∧ H a = some (.tup xs) ∧ ∀ (H' : Hp) (c : Addr), Same H H' → H' c = some (.tup (xs.drop 1)) → Q (.ref c) H'
theorem sl_one {X : Cx} : SlR X rSl1 := by
  intro pins s σ H x v vl vu lo hi sl Q I rx hs pl pu h
  obtain ⟨a, xs, e1, e2, e3, e4, q⟩ := h
  subst e2 e3
  have h1 : HT.sIx xs.length 0 (some 1) = min 1 xs.length := HT.sIx_nat xs.length 0 1
  have h2 : HT.sIx xs.length xs.length none = xs.length := HT.sIx_none ..
  refine sl_tupA pins s σ H x v vl vu _ _ sl Q I rx hs pl pu ⟨a, xs, e1, SqT.of e4, fun z => ?_, fun z c hc => ?_⟩
  · rw [h1, h2] at z
    have nil : xs = [] := List.eq_nil_of_length_eq_zero (by omega)
    subst nil
    exact q H a (Same.refl H) e4
  · refine q _ c (fun b o g => ?_) ?_
    · rw [upd_ne (ne_of_none g hc)]
      exact g
    · have cut : cutV xs (some 1) none = xs.drop 1 := by
        unfold cutV
        rw [h1, h2]
        cases xs with
        | nil => rfl
        | cons y r =>
          rw [show min 1 (y :: r).length = 1 from Nat.min_eq_left (by simp)]
          exact List.take_of_length_le (by simp)
      rw [cut, upd_same]
theorem call_tupleL {X : Cx} : CallR X (.type "tuple") (fun xs H Q => ∃ p ys, xs = [.ref p] ∧ H p = some (.lst ys) ∧ ∀ l, H l = none → Q (.ref l) (upd H l (.tup ys))) := fun pins s σ H xs us Q I r ⟨p, ys, e1, e2, q⟩ => call_tuple_of pins s σ H xs us Q I r ⟨p, ys, e1, .inl ⟨SqL.of e2, q⟩⟩
theorem call_listT {X : Cx} : CallR X (.type "list") (fun xs H Q => ∃ p ys, xs = [.ref p] ∧ H p = some (.tup ys) ∧ ∀ l, H l = none → Q (.ref l) (upd H l (.lst ys))) := fun pins s σ H xs us Q I r ⟨p, ys, e1, e2, q⟩ => call_list_of pins s σ H xs us Q I r ⟨p, ys, e1, .inr (SqT.of e2), q⟩
theorem ixN30 : ixN 3 0 = some 0 := rfl
theorem ixN32 : ixN 3 2 = some 2 := rfl
local macro_rules | `(tactic| walk_at "rd") => `(tactic| simp only [tC1, tCK, tB, rNe, rEq, tChain, gTupV, gCons, gNil, Nat.sub_self, Nat.reduceSub, List.replicate_zero, List.replicate_succ, tTest, tIfS, tIf, tNot, tAnd, tOr, tAndV, tOrV, tNotV, tDrop, tNext, rIxV, rIxP,
  gSub, rSetL, tSl, tPart, tNoPart, rSl1, tAsg2, ipI, tDNewK, tBM, rAppend, wipe, rAllB, rAnyB, iTup, iList, RZ.iZipA, iRng1, iRng2, tYes, upd_same, at0, at1, at2, at20, at21, ixN30, ixN32, HO.lst.injEq, HO.tup.injEq, Nat.reduceAdd, tSeq, tAsg, tPar, tAug, tOp, tVar, tC, tCB, tCons, tNil, rI, rI0, rU, tUn, gName, tRet, tLst, tLstM, tTup, L2.start, List.map_cons, List.map_nil, List.length_cons, List.length_nil, List.replicate, List.cons_append,
  List.nil_append, List.set_cons_zero, List.set_cons_succ, List.getElem?_cons_zero, List.getElem?_cons_succ, Option.some.injEq, V.int.injEq, V.ref.injEq, V.bl.injEq, V.str.injEq, List.cons.injEq, exists_eq_left', exists_eq_left, exists_and_left, exists_and_right, and_true, true_and, reduceCtorEq, false_and,
  exists_false, or_false, false_or, exists_const, exists_eq, exists_eq', Bool.not_true, Bool.not_false, Bool.false_eq_true, if_true, if_false, ite_true, ite_false])
/-- all that stood stays, but what is at p -/
def Kp (p : Addr) (H H' : Hp) : Prop := ∀ b o, b ≠ p → H b = some o → H' b = some o
theorem Kp.refl (p : Addr) (H : Hp) : Kp p H H := fun _ _ _ h => h
theorem Kp.trans {p : Addr} {H H1 H2 : Hp} (a : Kp p H H1) (b : Kp p H1 H2) : Kp p H H2 := fun c o n h => b c o n (a c o n h)
theorem Kp.of {p : Addr} {H H' : Hp} (a : Same H H') : Kp p H H' := fun c o _ h => a c o h
theorem Kp.new {p q : Addr} {H : Hp} {o : HO} (h : H q = none) : Kp p H (upd H q o) := fun b u _ e => by
  rw [upd_ne (ne_of_none e h)]
  exact e
theorem Kp.put {p : Addr} {H : Hp} {o : HO} : Kp p H (upd H p o) := fun b u n e => by
  rw [upd_ne n]
  exact e
theorem new_same {q : Addr} {H : Hp} {o : HO} (h : H q = none) : Same H (upd H q o) := fun b u e => by
  rw [upd_ne (ne_of_none e h)]
  exact e
theorem Kp.seqL {K : PySem.W.Frag} {p a : Addr} {H H' : Hp} {xs : List V} (k : Kp p H H') (n : a ≠ p) (h : SqL K H a xs) : SqL K H' a xs := by
  rcases h with (h | ⟨o, h⟩) | h
  · exact .inl (.inl (k _ _ n h))
  · exact .inl (.inr ⟨o, k _ _ n h⟩)
  · exact .inr h
/-- a place that is free behind was free ahead -/
theorem Kp.free {p q : Addr} {H H' : Hp} {u : HO} (k : Kp p H H') (hp : H' p = some u) (h : H' q = none) : H q = none := by
  cases e : H q with
  | none => rfl
  | some o =>
    by_cases n : q = p
    · rw [n, hp] at h
      cases h
    · rw [k _ _ n e] at h
      cases h
/-- a comprehension without ifs, whose turns leave what stood: its new list is out -/
theorem lcMap {J : It} {n : Nat} {G : Hp → Prop} {Y : Nat → Hp → V → Hp → Prop} (w : Walk J n G Y) {g : TG} {te : TE} {vs : List Nat} {σ : L2.St} {H1 : Hp} {Qd : Addr → Hp → Prop} (out : List V) (hn : out.length = n) (hz : n ≤ sizeLine) (hG : ∀ H, Same H1 H → G H)
    (hs : ∀ (i : Nat) (x : V) (H H' : Hp) (y : V) (R : VK), out[i]? = some y → Same H1 H → Y i H x H' → (∀ H4, Same H H4 → R y H4) → g x (wipe σ vs) H' fun σ2 H2 => wipe σ2 vs = wipe σ vs ∧ te σ2 H2 R)
    (hd : ∀ H D, H1 D = none → Same H1 H → H D = some (.lst out) → Qd D H) :
    ∀ D, H1 D = none → ∃ W : Nat → Nat → Hp → Prop, (∃ m, W 0 m (upd H1 D (.lst []))) ∧ ∀ i m H, W i m H →
      (J.stop i H ∧ Qd D H) ∨ (J.go i H ∧ ∃ Nx : Hp → Prop, (∀ H', Nx H' → ∃ m', m' < m ∧ W (i + 1) m' H') ∧ ∀ x H', J.yld i H x H' → g x (wipe σ vs) H' fun σ2 H2 => wipe σ2 vs = wipe σ vs ∧ tYes σ2 H2 fun on H3 =>
        if on = true then te σ2 H3 fun y H4 => ∃ made, H4 D = some (.lst made) ∧ made.length < sizeLine ∧ Nx (upd H4 D (.lst (made ++ [y]))) else Nx H3) := by
  intro D hD
  refine lc_it w (Qd := fun H => Qd D H) (fun i H => Same H1 H ∧ H D = some (.lst (out.take i))) ⟨new_same hD, by rw [upd_same]; rfl⟩ (fun i H _ h => hG H h.1) ?_ (fun H h => hd H D hD h.1 (by rw [h.2, List.take_of_length_le (by omega)]))
  rintro i x H H' hi ⟨hS, hL⟩ hy
  have hi2 : i < out.length := by omega
  simp only [tYes, if_true]
  refine hs i x H H' out[i] _ (List.getElem?_eq_getElem hi2) hS hy fun H4 h4 => ?_
  have l4 := h4 _ _ hL
  refine ⟨_, l4, by rw [List.length_take]; omega, fun b o e => ?_, ?_⟩
  · rw [upd_ne (ne_of_none e hD)]
    exact h4 _ _ (hS _ _ e)
  · rw [upd_same, List.take_add_one, List.getElem?_eq_getElem hi2]
    rfl
/-- zip of two tuples -/
theorem walk_zipT {K : PySem.W.Frag} {a b : Addr} {xs ys : List V} {n : Nat} (hn : n = min xs.length ys.length) : Walk (RZ.ItzT K a b) n (fun H => SqT K H a xs ∧ SqT K H b ys) (YPair (fun i => xs[i]?) (fun i => ys[i]?)) := by
  subst hn
  constructor
  · intro i H hi q
    have h1 : i < xs.length := Nat.lt_of_lt_of_le hi (Nat.min_le_left _ _)
    have h2 : i < ys.length := Nat.lt_of_lt_of_le hi (Nat.min_le_right _ _)
    exact ⟨xs, ys, xs[i], ys[i], q.1, q.2, List.getElem?_eq_getElem h1, List.getElem?_eq_getElem h2⟩
  · intro H q
    exact ⟨xs, ys, q.1, q.2, by omega⟩
  · rintro i H v H' _ q ⟨T, x, y, e1, e2, e3, e4, e5⟩
    exact ⟨T, x, y, e1, e2, e3, e4 xs q.1, e5 ys q.2⟩
/-- the pot: what is left of the cell, the mixed number, the draws so far (at most m) -/
def Pot (H : Hp) (p : Addr) (m : Nat) : Prop := ∃ a b c : Int, H p = some (.lst [.int a, .int b, .int c]) ∧ 0 ≤ a ∧ a.natAbs < 2 ^ 1000 ∧ 0 ≤ b ∧ b < 2 ^ 61 ∧ 0 ≤ c ∧ c ≤ m
theorem Pot.lst {H : Hp} {p : Addr} {m : Nat} (h : Pot H p m) : ∃ xs, H p = some (.lst xs) := by
  obtain ⟨a, b, c, e, _⟩ := h
  exact ⟨_, e⟩
theorem Pot.up {H : Hp} {p : Addr} {m n : Nat} (h : Pot H p m) (l : m ≤ n) : Pot H p n := by
  obtain ⟨a, b, c, e, h1, h2, h3, h4, h5, h6⟩ := h
  exact ⟨a, b, c, e, h1, h2, h3, h4, h5, by omega⟩
theorem Pot.same {H H' : Hp} {p : Addr} {m : Nat} (h : Pot H p m) (s : Same H H') : Pot H' p m := by
  obtain ⟨a, b, c, e, r⟩ := h
  exact ⟨a, b, c, s _ _ e, r⟩
theorem cell_at {ns : List Int} {k : Nat} (h : k < ns.length) : atI (ns.map V.int) (k : Int) = some (.int ns[k]) := atI_nat (by rw [List.getElem?_map, List.getElem?_eq_getElem h]; rfl)
theorem pow_bits {i j : Int} (h0 : 0 ≤ j) {n : Nat} (h : Builtin.Int.intBits i ≤ n) (h2 : (n : Int) * j ≤ 2 ^ 27) : 0 ≤ j ∧ (Builtin.Int.intBits i : Int) * j ≤ 2 ^ 27 :=
  ⟨h0, Int.le_trans (Int.mul_le_mul_of_nonneg_right (by omega) h0) h2⟩
theorem pot_c1 : (0 : Int) ≤ 60 ∧ (Builtin.Int.intBits 10 : Int) * 60 ≤ 2 ^ 27 := by decide +kernel
theorem pot_c2 : (0 : Int) ≤ 5 ∧ (Builtin.Int.intBits (10 ^ Int.toNat 60) : Int) * 5 ≤ 2 ^ 27 := by decide +kernel
theorem pot_c3 : (0 : Int) < (10 ^ Int.toNat 60) ^ Int.toNat 5 := by decide +kernel
theorem pot_c4 : (0 : Int) ≤ 18 ∧ (Builtin.Int.intBits 10 : Int) * 18 ≤ 2 ^ 27 := by decide +kernel
theorem pot_c5 {x y : Int} {b : Bool} : CMul (x % y) (if b = true then 1 else 0) := by
  cases b with
  | true => exact Or.inr (by decide)
  | false => exact Or.inr (by decide)
theorem pot_c6 (c : Int) : CMul (c % 2305843009213693951) 71993 := Or.inr (by decide)
theorem pot_c7 (x : Int) (h : -(2 ^ 64) < x ∧ x < 2 ^ 64) {k : Nat} (hk : k ≤ 63) : CMul x (k : Int) := Or.inl h
theorem pot_c8 {k : Nat} (hk : k ≤ 63) : CMul (9241 * (k : Int)) (k : Int) := Or.inr (by omega)
theorem pot_c9 : (((10 : Int) ^ Int.toNat 60) ^ Int.toNat 5).natAbs < 2 ^ 1000 := by decide +kernel
theorem pot_made (H : Hp) (p : Addr) (x y : Int) (b : Bool) : Pot (upd H p (.lst [.int (x % (10 ^ Int.toNat 60) ^ Int.toNat 5 * if b = true then 1 else 0), .int (y % 2305843009213693921), .int 0])) p 0 := by
  have g1 := Int.emod_nonneg x (Int.ne_of_gt pot_c3)
  have g2 := Int.emod_lt_of_pos x pot_c3
  have g3 := pot_c9
  refine ⟨_, _, _, upd_same, ?_, ?_, by omega, by omega, by decide, by decide⟩
  · cases b with
    | true => exact Int.mul_nonneg g1 (by decide)
    | false => exact Int.mul_nonneg g1 (by decide)
  · cases b with
    | true =>
      rw [if_pos rfl, Int.mul_one]
      exact Nat.lt_trans (Int.natAbs_lt_natAbs_of_nonneg_of_lt g1 g2) g3
    | false =>
      rw [if_neg Bool.false_ne_true, Int.mul_zero]
      exact Nat.two_pow_pos _
theorem five {j : Int} (h0 : 0 ≤ j) (h5 : j < 5) : ∃ q : Int, 0 < q ∧ q < 2 ^ 31 ∧ atI [V.int 2147483647, V.int 2147483629, V.int 2147483587, V.int 2147483579, V.int 2147483563] j = some (.int q) := by
  have c : j = 0 ∨ j = 1 ∨ j = 2 ∨ j = 3 ∨ j = 4 := by omega
  rcases c with rfl | rfl | rfl | rfl | rfl
  · exact ⟨2147483647, by decide, by decide, rfl⟩
  · exact ⟨2147483629, by decide, by decide, rfl⟩
  · exact ⟨2147483587, by decide, by decide, rfl⟩
  · exact ⟨2147483579, by decide, by decide, rfl⟩
  · exact ⟨2147483563, by decide, by decide, rfl⟩
end Pf

set_option Elab.async false
set_option linter.all false
set_option maxRecDepth 100000
/-! Which values are range sets; pairs. -/
namespace Pf
open PySem PySem.Spec PyProof.Rows L2
local macro_rules | `(tactic| walk_at "rd") => `(tactic| simp only [tC1, tCK, tB, rNe, rEq, tChain, gTupV, gCons, gNil, Nat.sub_self, Nat.reduceSub, List.replicate_zero, List.replicate_succ, tTest, tIfS, tIf, tNot, tAnd, tOr, tAndV, tOrV, tNotV, tDrop, tNext, rIxV, rIxP,
  gSub, rSetL, tSl, tPart, tNoPart, rSl1, tAsg2, ipI, tDNewK, tBM, rAppend, wipe, rAllB, rAnyB, iTup, iList, RZ.iZipA, iRng1, iRng2, tYes, upd_same, at0, at1, at2, at20, at21, ixN30, ixN32, HO.lst.injEq, HO.tup.injEq, Nat.reduceAdd, tSeq, tAsg, tPar, tAug, tOp, tVar, tC, tCB, tCons, tNil, rI, rI0, rU, tUn, gName, tRet, tLst, tLstM, tTup, L2.start, List.map_cons, List.map_nil, List.length_cons, List.length_nil, List.replicate, List.cons_append,
  List.nil_append, List.set_cons_zero, List.set_cons_succ, List.getElem?_cons_zero, List.getElem?_cons_succ, Option.some.injEq, V.int.injEq, V.ref.injEq, V.bl.injEq, V.str.injEq, List.cons.injEq, exists_eq_left', exists_eq_left, exists_and_left, exists_and_right, and_true, true_and, reduceCtorEq, false_and,
  exists_false, or_false, false_or, exists_const, exists_eq, exists_eq', Bool.not_true, Bool.not_false, Bool.false_eq_true, if_true, if_false, ite_true, ite_false])
/-! ### the mirror -/
def isIntD : PyData → Bool
  | .int _ => true
  | .bool _ => true
  | _ => false
def isBoolD : PyData → Bool
  | .bool _ => true
  | _ => false
def isTupD : PyData → Bool
  | .tuple _ => true
  | _ => false
def isNumD : PyData → Bool
  | .int _ => true
  | _ => false
def pairOf : PyData → Option (Int × Int)
  | .tuple [.int a, .int b] => some (a, b)
  | _ => none
def isPairD (d : PyData) : Bool :=
  match pairOf d with
  | some q => decide (q.1 ≤ q.2)
  | none => false
def stepD (d e : PyData) : Bool :=
  match pairOf d, pairOf e with
  | some q, some r => decide (q.2 + 2 ≤ r.1)
  | _, _ => false
def stepsD : List PyData → List Bool
  | d :: e :: r => stepD d e :: stepsD (e :: r)
  | _ => []
def isRangesD : PyData → Bool
  | .tuple ds => ds.all isPairD && (stepsD ds).all id
  | _ => false
theorem pairOf_len {ds : List PyData} (h : ds.length ≠ 2) : pairOf (.tuple ds) = none := by
  unfold pairOf
  split
  · rename_i e
    cases e
    exact absurd rfl h
  · rfl
theorem _root_.L2.Same.seqT {K : PySem.W.Frag} {H H' : Hp} {a : Addr} {xs : List V} (e : Same H H') (h : SqT K H a xs) : SqT K H' a xs := by
  rcases h with (h | ⟨o, h⟩) | h
  · exact .inl (.inl (e _ _ h))
  · exact .inl (.inr ⟨o, e _ _ h⟩)
  · exact .inr h
theorem DqAll.length {b : Bool} {p : Addr} {H : Hp} : ∀ {vs : List V} {ds : List PyData}, DqAll b p H vs ds → vs.length = ds.length
  | _, _, .nil => rfl
  | _, _, .cons _ t => congrArg Nat.succ (DqAll.length t)
theorem DqAll.get {b : Bool} {p : Addr} {H : Hp} : ∀ {vs : List V} {ds : List PyData} {i : Nat} {v : V}, DqAll b p H vs ds → vs[i]? = some v → ∃ d, ds[i]? = some d ∧ Dq b p H v d
  | _, _, _, _, .nil, e => by simp at e
  | _, _, 0, _, .cons h _, e => by
    simp at e
    subst e
    exact ⟨_, rfl, h⟩
  | _, _, i + 1, _, .cons _ t, e => by
    obtain ⟨d, e1, e2⟩ := DqAll.get (i := i) t (by simpa using e)
    exact ⟨d, by simpa using e1, e2⟩
mutual
theorem Dq.keep {b : Bool} {p : Addr} {H H' : Hp} (k : Kp p H H') : ∀ (d : PyData) (v : V), Dq b p H v d → Dq b p H' v d
  | .none, _, h => by cases h; exact .non
  | .bool x, _, h => by cases h; exact .bl x
  | .int x, _, h => by cases h; exact .int x
  | .str x, _, h => by cases h; exact .str x
  | .list ds, _, h => by
    cases h with
    | lst g ne sm ha => exact .lst (k _ _ ne g) ne sm (Dq.keepAll k ds _ ha)
  | .tuple ds, _, h => by
    cases h with
    | tup g ne ha => exact .tup (k _ _ ne g) ne (Dq.keepAll k ds _ ha)
  | .dict kvs, _, h => by
    cases h with
    | dc0 t g ne => exact .dc0 t (k _ _ ne g) ne
    | @dc1 a x v d t g ne hd => exact .dc1 t (k _ _ ne g) ne (Dq.keep k d v hd)
theorem Dq.keepAll {b : Bool} {p : Addr} {H H' : Hp} (k : Kp p H H') : ∀ (ds : List PyData) (vs : List V), DqAll b p H vs ds → DqAll b p H' vs ds
  | [], _, h => by cases h; exact .nil
  | d :: ds, _, h => by
    cases h with
    | cons h1 h2 => exact .cons (Dq.keep k d _ h1) (Dq.keepAll k ds _ h2)
end
theorem Dq.same {b : Bool} {p : Addr} {H H' : Hp} {d : PyData} {v : V} (h : Dq b p H v d) (s : Same H H') : Dq b p H' v d := Dq.keep (Kp.of s) d v h
theorem DqAll.same {b : Bool} {p : Addr} {H H' : Hp} {ds : List PyData} {vs : List V} (h : DqAll b p H vs ds) (s : Same H H') : DqAll b p H' vs ds := Dq.keepAll (Kp.of s) ds vs h
theorem stepsD_len : ∀ ds : List PyData, (stepsD ds).length = ds.length - 1
  | [] => rfl
  | [_] => rfl
  | d :: e :: r => by
    have ih := stepsD_len (e :: r)
    unfold stepsD
    rw [List.length_cons, ih]
    simp
theorem stepsD_get : ∀ {ds : List PyData} {i : Nat} {d e : PyData}, ds[i]? = some d → ds[i + 1]? = some e → (stepsD ds)[i]? = some (stepD d e)
  | [], _, _, _, h, _ => by simp at h
  | [_], 0, _, _, _, h => by simp at h
  | [_], i + 1, _, _, h, _ => by simp at h
  | a :: b :: r, 0, d, e, h, h2 => by
    simp at h h2
    subst h h2
    rfl
  | a :: b :: r, i + 1, d, e, h, h2 => by
    unfold stepsD
    simpa using stepsD_get (ds := b :: r) (i := i) (by simpa using h) (by simpa using h2)
theorem pair_of {ds : List PyData} {i : Nat} {d : PyData} (al : ds.all isPairD = true) (h : ds[i]? = some d) : ∃ l r, pairOf d = some (l, r) := by
  have q := List.all_eq_true.mp al d (List.mem_of_getElem? h)
  unfold isPairD at q
  split at q
  · rename_i z e
    exact ⟨z.1, z.2, e⟩
  · cases q
theorem Dq.pair {b : Bool} {p : Addr} {H : Hp} {v : V} {d : PyData} {l r : Int} (h : Dq b p H v d) (e : pairOf d = some (l, r)) : ∃ t, v = .ref t ∧ H t = some (.tup [.int l, .int r]) := by
  unfold pairOf at e
  split at e
  · cases e
    cases h with
    | tup g ne ha =>
      cases ha with
      | cons h1 t1 =>
        cases t1 with
        | cons h2 t2 =>
          cases h1
          cases h2
          cases t2
          exact ⟨_, rfl, g⟩
  · cases e
def loD (d : PyData) : Int :=
  match pairOf d with
  | some q => q.1
  | none => 0
def hiD (d : PyData) : Int :=
  match pairOf d with
  | some q => q.2
  | none => 0
def inOne (n : Int) (d : PyData) : Bool :=
  match pairOf d with
  | some q => decide (q.1 ≤ n) && decide (n ≤ q.2)
  | none => false
def inD (ds : List PyData) (n : Int) : Bool := ds.any (inOne n)
theorem pair_lohi {d : PyData} {l h : Int} (e : pairOf d = some (l, h)) : loD d = l ∧ hiD d = h ∧ ∀ n, inOne n d = (decide (l ≤ n) && decide (n ≤ h)) := by
  unfold loD hiD inOne
  rw [e]
  exact ⟨rfl, rfl, fun _ => rfl⟩
structure Rgs (ds : List PyData) : Prop where
  pr : ∀ i, i < ds.length → pairOf (ds.getD i .none) = some (loD (ds.getD i .none), hiD (ds.getD i .none))
  le : ∀ i, i < ds.length → loD (ds.getD i .none) ≤ hiD (ds.getD i .none)
  st : ∀ i, i + 1 < ds.length → hiD (ds.getD i .none) + 2 ≤ loD (ds.getD (i + 1) .none)
theorem getD_at {ds : List PyData} {i : Nat} (h : i < ds.length) : ds[i]? = some (ds.getD i .none) := by
  rw [List.getD_eq_getElem?_getD, List.getElem?_eq_getElem h]
  rfl
theorem rgs_of {ds : List PyData} (h : isRangesD (.tuple ds) = true) : Rgs ds := by
  have h' : (ds.all isPairD && (stepsD ds).all id) = true := h
  obtain ⟨h1, h2⟩ := Bool.and_eq_true_iff.mp h'
  have pr : ∀ i, i < ds.length → pairOf (ds.getD i .none) = some (loD (ds.getD i .none), hiD (ds.getD i .none)) := fun i hi => by
    obtain ⟨l, r, e⟩ := pair_of h1 (getD_at hi)
    obtain ⟨e1, e2, _⟩ := pair_lohi e
    rw [e1, e2]
    exact e
  refine ⟨pr, fun i hi => ?_, fun i hi => ?_⟩
  · have q := List.all_eq_true.mp h1 _ (List.mem_of_getElem? (getD_at hi))
    unfold isPairD at q
    rw [pr i hi] at q
    exact of_decide_eq_true q
  · have g := stepsD_get (getD_at (show i < ds.length by omega)) (getD_at hi)
    have q := List.all_eq_true.mp h2 _ (List.mem_of_getElem? g)
    unfold stepD at q
    rw [pr i (by omega), pr (i + 1) hi] at q
    exact of_decide_eq_true q
theorem Rgs.up {ds : List PyData} (r : Rgs ds) : ∀ (j i : Nat), i ≤ j → j < ds.length → loD (ds.getD i .none) ≤ loD (ds.getD j .none) ∧ hiD (ds.getD i .none) ≤ hiD (ds.getD j .none)
  | 0, i, h, _ => by
    have e : i = 0 := by omega
    rw [e]
    exact ⟨Int.le_refl _, Int.le_refl _⟩
  | j + 1, i, h, hj => by
    by_cases e : i = j + 1
    · rw [e]
      exact ⟨Int.le_refl _, Int.le_refl _⟩
    · have ih := r.up j i (by omega) (by omega)
      have s1 := r.st j hj
      have s2 := r.le j (by omega)
      have s3 := r.le (j + 1) hj
      omega
theorem Rgs.find {ds : List PyData} (r : Rgs ds) {n : Int} {f : Nat} (hf : f ≤ ds.length) (h1 : ∀ i, i < f → hiD (ds.getD i .none) < n) (h2 : ∀ i, f ≤ i → i < ds.length → n ≤ hiD (ds.getD i .none)) :
    inD ds n = (decide (f < ds.length) && decide (loD (ds.getD f .none) ≤ n)) := by
  have one : ∀ i, i < ds.length → inOne n (ds.getD i .none) = (decide (loD (ds.getD i .none) ≤ n) && decide (n ≤ hiD (ds.getD i .none))) := fun i hi => (pair_lohi (r.pr i hi)).2.2 n
  by_cases hl : f < ds.length ∧ loD (ds.getD f .none) ≤ n
  · rw [decide_eq_true hl.1, decide_eq_true hl.2]
    refine List.any_eq_true.mpr ⟨ds.getD f .none, List.mem_of_getElem? (getD_at hl.1), ?_⟩
    rw [one f hl.1, decide_eq_true hl.2, decide_eq_true (h2 f (Nat.le_refl _) hl.1)]
    rfl
  · have e : (decide (f < ds.length) && decide (loD (ds.getD f .none) ≤ n)) = false := by
      rw [← Bool.decide_and]
      exact decide_eq_false hl
    rw [e]
    refine List.any_eq_false.mpr fun d hd => ?_
    obtain ⟨i, hi, e⟩ := List.getElem_of_mem hd
    have ed : d = ds.getD i .none := by
      have := getD_at hi
      rw [List.getElem?_eq_getElem hi, e] at this
      exact Option.some.inj this
    rw [ed, one i hi]
    by_cases lt : i < f
    · rw [decide_eq_false (show ¬ n ≤ hiD (ds.getD i .none) by have := h1 i lt; omega), Bool.and_false]
      exact Bool.false_ne_true
    · have u := (r.up i f (by omega) hi).1
      have nl : ¬ loD (ds.getD i .none) ≤ n := fun z => hl ⟨by omega, by omega⟩
      rw [decide_eq_false nl, Bool.false_and]
      exact Bool.false_ne_true
def gap : L2.St → Nat
  | [_, _, some (.int x), some (.int y), _] => (y - x).toNat
  | _ => 0
/-! ### rules -/
theorem isiD {X : Cx} {b : Bool} {p : Addr} {H : Hp} {v : V} {d : PyData} (h : Dq b p H v d) {T : String} {r : Bool} (e : ∀ t, TyX X.K H v (.type t) → t ∈ ["NoneType", "bool", "int", "str", "list", "tuple", "dict"] → kitB t T = some r) : ∃ t, TyX X.K H v t ∧ PySem.W.kitOne X.K t (.type T) = some r := by
  cases h with
  | non => exact ⟨_, .base .non, kit_ty (e _ (.base .non) (by decide))⟩
  | bl x => exact ⟨_, .base (.bl x), kit_ty (e _ (.base (.bl x)) (by decide))⟩
  | int x => exact ⟨_, .base (.int x), kit_ty (e _ (.base (.int x)) (by decide))⟩
  | str x => exact ⟨_, .base (.str x), kit_ty (e _ (.base (.str x)) (by decide))⟩
  | lst g _ _ _ => exact ⟨_, .base (.lst g), kit_ty (e _ (.base (.lst g)) (by decide))⟩
  | tup g _ _ => exact ⟨_, .base (.tup g), kit_ty (e _ (.base (.tup g)) (by decide))⟩
  | dc0 _ g _ => exact ⟨_, .base (.dK g), kit_ty (e _ (.base (.dK g)) (by decide))⟩
  | dc1 _ g _ _ => exact ⟨_, .base (.dK g), kit_ty (e _ (.base (.dK g)) (by decide))⟩
theorem tyD {K : PySem.W.Frag} {b : Bool} {p : Addr} {H : Hp} {v : V} {d : PyData} (h : Dq b p H v d) : ∃ t, TyX K H v (.type t) ∧ kitB t "int" = some (isIntD d) ∧ kitB t "bool" = some (isBoolD d) ∧ kitB t "tuple" = some (isTupD d) := by
  cases h with
  | non => exact ⟨_, .base .non, by decide +kernel, by decide +kernel, by decide +kernel⟩
  | bl x => exact ⟨_, .base (.bl x), by show kitB "bool" "int" = some true; decide +kernel, by show kitB "bool" "bool" = some true; decide +kernel, by show kitB "bool" "tuple" = some false; decide +kernel⟩
  | int x => exact ⟨_, .base (.int x), by show kitB "int" "int" = some true; decide +kernel, by show kitB "int" "bool" = some false; decide +kernel, by show kitB "int" "tuple" = some false; decide +kernel⟩
  | str x => exact ⟨_, .base (.str x), by show kitB "str" "int" = some false; decide +kernel, by show kitB "str" "bool" = some false; decide +kernel, by show kitB "str" "tuple" = some false; decide +kernel⟩
  | lst g _ _ _ => exact ⟨_, .base (.lst g), by show kitB "list" "int" = some false; decide +kernel, by show kitB "list" "bool" = some false; decide +kernel, by show kitB "list" "tuple" = some false; decide +kernel⟩
  | tup g _ _ => exact ⟨_, .base (.tup g), by show kitB "tuple" "int" = some false; decide +kernel, by show kitB "tuple" "bool" = some false; decide +kernel, by show kitB "tuple" "tuple" = some true; decide +kernel⟩
  | dc0 _ g _ => exact ⟨_, .base (.dK g), by show kitB "dict" "int" = some false; decide +kernel, by show kitB "dict" "bool" = some false; decide +kernel, by show kitB "dict" "tuple" = some false; decide +kernel⟩
  | dc1 _ g _ _ => exact ⟨_, .base (.dK g), by show kitB "dict" "int" = some false; decide +kernel, by show kitB "dict" "bool" = some false; decide +kernel, by show kitB "dict" "tuple" = some false; decide +kernel⟩
section
variable {X : Cx}
theorem call_isiInt : CallR X (.builtin "isinstance") (fun xs H Q => ∃ v d b p, xs = [v, .ty "int"] ∧ Dq b p H v d ∧ Q (.bl (isIntD d)) H) := by
  intro pins s σ H xs us Q I r h
  obtain ⟨v, d, b, p, e, hd, q⟩ := h
  obtain ⟨t, ty, k1, k2, k3⟩ := tyD (K := X.K) hd
  exact call_isi pins s σ H xs us Q I r ⟨v, _, _, _, _, e, .ty _, ty, kit_ty k1, q⟩
theorem call_isiBool : CallR X (.builtin "isinstance") (fun xs H Q => ∃ v d b p, xs = [v, .ty "bool"] ∧ Dq b p H v d ∧ Q (.bl (isBoolD d)) H) := by
  intro pins s σ H xs us Q I r h
  obtain ⟨v, d, b, p, e, hd, q⟩ := h
  obtain ⟨t, ty, k1, k2, k3⟩ := tyD (K := X.K) hd
  exact call_isi pins s σ H xs us Q I r ⟨v, _, _, _, _, e, .ty _, ty, kit_ty k2, q⟩
theorem call_isiTup : CallR X (.builtin "isinstance") (fun xs H Q => ∃ v d b p, xs = [v, .ty "tuple"] ∧ Dq b p H v d ∧ Q (.bl (isTupD d)) H) := by
  intro pins s σ H xs us Q I r h
  obtain ⟨v, d, b, p, e, hd, q⟩ := h
  obtain ⟨t, ty, k1, k2, k3⟩ := tyD (K := X.K) hd
  exact call_isi pins s σ H xs us Q I r ⟨v, _, _, _, _, e, .ty _, ty, kit_ty k3, q⟩
end
/-! ### pairs as tuples of two numbers -/
def prD (q : Int × Int) : PyData := .tuple [.int q.1, .int q.2]
theorem pairOf_pr (q : Int × Int) : pairOf (prD q) = some q := rfl
/-- v is a tuple of the two numbers q -/
def PrAt (H : Hp) (v : V) (q : Int × Int) : Prop := ∃ t, v = .ref t ∧ H t = some (.tup [.int q.1, .int q.2])
abbrev PrAll (H : Hp) : List V → List (Int × Int) → Prop := Paired (PrAt H)
/-- tuples stay -/
def TK (H H' : Hp) : Prop := ∀ b xs, H b = some (.tup xs) → H' b = some (.tup xs)
theorem TK.refl (H : Hp) : TK H H := fun _ _ h => h
theorem TK.trans {H H1 H2 : Hp} (a : TK H H1) (b : TK H1 H2) : TK H H2 := fun c xs h => b c xs (a c xs h)
theorem TK.of {H H' : Hp} (s : Same H H') : TK H H' := fun b xs h => s b _ h
theorem TK.kp {p : Addr} {H H' : Hp} (k : Kp p H H') {ys : List V} (e : H p = some (.lst ys)) : TK H H' := fun b xs h => k b _ (fun z => by rw [z, e] at h; cases h) h
theorem TK.put {l : Addr} {H : Hp} {ys : List V} {o : HO} (e : H l = some (.lst ys)) : TK H (upd H l o) := fun b xs h => by
  rw [upd_ne (fun z => by rw [z, e] at h; cases h)]
  exact h
theorem PrAll.tk {H H' : Hp} {xs : List V} {ps : List (Int × Int)} (h : PrAll H xs ps) (k : TK H H') : PrAll H' xs ps := Paired.mono (fun v q ⟨t, e1, e2⟩ => ⟨t, e1, k _ _ e2⟩) h
theorem PrAll.len {H : Hp} {xs : List V} {ps : List (Int × Int)} (h : PrAll H xs ps) : xs.length = ps.length := Paired.length h
theorem PrAll.snoc {H : Hp} {xs : List V} {ps : List (Int × Int)} {v : V} {q : Int × Int} (h : PrAll H xs ps) (k : PrAt H v q) : PrAll H (xs ++ [v]) (ps ++ [q]) := Paired.snoc h k
theorem PrAll.dq {b : Bool} {p : Addr} {H : Hp} {ys : List V} (e : H p = some (.lst ys)) : ∀ {xs : List V} {ps : List (Int × Int)}, PrAll H xs ps → DqAll b p H xs (ps.map prD)
  | _, _, .nil => .nil
  | _, _, .cons ⟨t, e1, e2⟩ r => by
    subst e1
    exact .cons (.tup e2 (fun z => by rw [z, e] at e2; cases e2) (.cons (.int _) (.cons (.int _) .nil))) (PrAll.dq e r)
theorem Kp.putNew {p l : Addr} {H H' : Hp} {o : HO} (k : Kp p H H') (hl : H l = none) : Kp p H (upd H' l o) := fun b u n e => by
  rw [upd_ne (ne_of_none e hl)]
  exact k b u n e
theorem Pot.eq {p : Addr} {H H' : Hp} {m : Nat} (h : Pot H p m) (e : H' p = H p) : Pot H' p m := by
  obtain ⟨a, b, c, g, r⟩ := h
  exact ⟨a, b, c, e.trans g, r⟩
theorem menu6 {w a b c : Int} (hw : 0 ≤ w) (ha : 0 ≤ a ∧ a ≤ 5) (hb : 0 ≤ b ∧ b ≤ 5) (hc : 0 ≤ c ∧ c ≤ 5) {x : V} (h : x ∈ [V.int 0, V.int 0, V.int a, V.int b, V.int c, V.int w]) : ∃ v, x = .int v ∧ 0 ≤ v ∧ v ≤ w + 5 := by
  simp only [List.mem_cons, List.not_mem_nil, or_false] at h
  rcases h with rfl | rfl | rfl | rfl | rfl | rfl
  · exact ⟨0, rfl, by omega, by omega⟩
  · exact ⟨0, rfl, by omega, by omega⟩
  · exact ⟨a, rfl, by omega, by omega⟩
  · exact ⟨b, rfl, by omega, by omega⟩
  · exact ⟨c, rfl, by omega, by omega⟩
  · exact ⟨w, rfl, by omega, by omega⟩
theorem menu5 {w a b : Int} (hw : 0 ≤ w) (ha : 0 ≤ a ∧ a ≤ 5) (hb : 0 ≤ b ∧ b ≤ 5) {x : V} (h : x ∈ [V.int 0, V.int 0, V.int a, V.int b, V.int w]) : ∃ v, x = .int v ∧ 0 ≤ v ∧ v ≤ w + 5 := by
  simp only [List.mem_cons, List.not_mem_nil, or_false] at h
  rcases h with rfl | rfl | rfl | rfl | rfl
  · exact ⟨0, rfl, by omega, by omega⟩
  · exact ⟨0, rfl, by omega, by omega⟩
  · exact ⟨a, rfl, by omega, by omega⟩
  · exact ⟨b, rfl, by omega, by omega⟩
  · exact ⟨w, rfl, by omega, by omega⟩
theorem pair_intro : ∀ {es : List PyData}, es.length = 2 → es.all isNumD = true → ∃ q, pairOf (.tuple es) = some q
  | [], h, _ => by cases h
  | [_], h, _ => by cases h
  | a :: b :: c :: r, h, _ => by simp at h
  | [a, b], _, h => by
    have h' : (isNumD a && (isNumD b && true)) = true := h
    cases a with
    | int x =>
      cases b with
      | int y => exact ⟨(x, y), rfl⟩
      | none => cases h'
      | bool _ => cases h'
      | str _ => cases h'
      | list _ => cases h'
      | tuple _ => cases h'
      | dict _ => cases h'
    | none => cases h'
    | bool _ => cases h'
    | str _ => cases h'
    | list _ => cases h'
    | tuple _ => cases h'
    | dict _ => cases h'
theorem pair_some {es : List PyData} {q : Int × Int} (h : pairOf (.tuple es) = some q) : es.length = 2 ∧ es.all isNumD = true := by
  unfold pairOf at h
  split at h
  · rename_i e
    cases e
    exact ⟨rfl, rfl⟩
  · cases h
theorem not_pair {d : PyData} (h : pairOf d = none) : isPairD d = false := by
  unfold isPairD
  rw [h]
theorem not_ranges {ds : List PyData} {i : Nat} {d : PyData} (e : ds[i]? = some d) (h : isPairD d = false) : isRangesD (.tuple ds) = false := by
  have n : ds.all isPairD = false := by
    cases q : ds.all isPairD with
    | false => rfl
    | true =>
      have := List.all_eq_true.mp q d (List.mem_of_getElem? e)
      rw [h] at this
      cases this
  show (ds.all isPairD && (stepsD ds).all id) = false
  rw [n]
  rfl
end Pf

/-! Range sets as lists of pairs: what is in them, that each set of numbers has one, and what the program's functions make of them. No Python here. -/
namespace Rng
abbrev Prs := List (Int × Int)
/-- ascending pairs that do not touch, from k upwards -/
def From (k : Int) : Prs → Prop
  | [] => True
  | q :: r => k ≤ q.1 ∧ q.1 ≤ q.2 ∧ From (q.2 + 2) r
/-- a range set -/
def Rg (ps : Prs) : Prop := ∃ k, From k ps
def In (n : Int) (ps : Prs) : Prop := ∃ q, q ∈ ps ∧ q.1 ≤ n ∧ n ≤ q.2
theorem From.down {k j : Int} {ps : Prs} (h : From k ps) (l : j ≤ k) : From j ps := by
  cases ps with
  | nil => trivial
  | cons q r => exact ⟨by have := h.1; omega, h.2⟩
theorem In.nil {n : Int} : ¬ In n [] := fun ⟨_, m, _⟩ => List.not_mem_nil m
theorem In.cons {n : Int} {q : Int × Int} {r : Prs} : In n (q :: r) ↔ (q.1 ≤ n ∧ n ≤ q.2) ∨ In n r := by
  constructor
  · rintro ⟨z, m, h⟩
    rcases List.mem_cons.mp m with e | m
    · exact Or.inl (e ▸ h)
    · exact Or.inr ⟨z, m, h⟩
  · rintro (h | ⟨z, m, h⟩)
    · exact ⟨q, List.mem_cons_self, h⟩
    · exact ⟨z, List.mem_cons_of_mem _ m, h⟩
theorem In.app {n : Int} {r s : Prs} : In n (r ++ s) ↔ In n r ∨ In n s := by
  constructor
  · rintro ⟨z, m, h⟩
    rcases List.mem_append.mp m with m | m
    · exact Or.inl ⟨z, m, h⟩
    · exact Or.inr ⟨z, m, h⟩
  · rintro (⟨z, m, h⟩ | ⟨z, m, h⟩)
    · exact ⟨z, List.mem_append_left _ m, h⟩
    · exact ⟨z, List.mem_append_right _ m, h⟩
theorem From.ge {k n : Int} : ∀ {ps : Prs}, From k ps → In n ps → k ≤ n
  | [], _, h => (In.nil h).elim
  | q :: r, ⟨h1, h2, h3⟩, h => by
    rcases In.cons.mp h with h | h
    · omega
    · have := From.ge h3 h
      omega
/-- each set of numbers has one range set -/
theorem From.one : ∀ {k j : Int} {ps qs : Prs}, From k ps → From j qs → (∀ n, In n ps ↔ In n qs) → ps = qs
  | _, _, [], [], _, _, _ => rfl
  | _, _, [], q :: s, _, h, e => (In.nil ((e q.1).mpr (In.cons.mpr (Or.inl ⟨Int.le_refl _, h.2.1⟩)))).elim
  | _, _, p :: r, [], h, _, e => (In.nil ((e p.1).mp (In.cons.mpr (Or.inl ⟨Int.le_refl _, h.2.1⟩)))).elim
  | _, _, p :: r, q :: s, ⟨a1, a2, a3⟩, ⟨b1, b2, b3⟩, e => by
    have low : ∀ {p : Int × Int} {r : Prs} {n : Int}, p.1 ≤ p.2 → From (p.2 + 2) r → In n (p :: r) → p.1 ≤ n := fun {p r n} h f g => by
      rcases In.cons.mp g with g | g
      · exact g.1
      · have := f.ge g
        omega
    have hd : p.1 = q.1 := by
      have x1 := low b2 b3 ((e p.1).mp (In.cons.mpr (Or.inl ⟨Int.le_refl _, a2⟩)))
      have x2 := low a2 a3 ((e q.1).mpr (In.cons.mpr (Or.inl ⟨Int.le_refl _, b2⟩)))
      omega
    have gap : ∀ {p : Int × Int} {r : Prs}, From (p.2 + 2) r → ¬ In (p.2 + 1) (p :: r) := fun {p r} f g => by
      rcases In.cons.mp g with g | g
      · omega
      · have := f.ge g
        omega
    have tl : p.2 = q.2 := by
      rcases Int.lt_trichotomy p.2 q.2 with c | c | c
      · exact (gap a3 ((e (p.2 + 1)).mpr (In.cons.mpr (Or.inl ⟨by omega, by omega⟩)))).elim
      · exact c
      · exact (gap b3 ((e (q.2 + 1)).mp (In.cons.mpr (Or.inl ⟨by omega, by omega⟩)))).elim
    have pq : p = q := Prod.ext hd tl
    subst pq
    have rest : r = s := From.one a3 b3 fun n => by
      have en := e n
      constructor
      · intro g
        have ge := a3.ge g
        rcases In.cons.mp (en.mp (In.cons.mpr (Or.inr g))) with z | z
        · omega
        · exact z
      · intro g
        have ge := b3.ge g
        rcases In.cons.mp (en.mpr (In.cons.mpr (Or.inr g))) with z | z
        · omega
        · exact z
    rw [rest]
theorem Rg.one {ps qs : Prs} (h : Rg ps) (g : Rg qs) (e : ∀ n, In n ps ↔ In n qs) : ps = qs := by
  obtain ⟨_, h⟩ := h
  obtain ⟨_, g⟩ := g
  exact h.one g e
/-! ### both -/
def cutTo (p q : Int × Int) : Prs := if max p.1 q.1 ≤ min p.2 q.2 then [(max p.1 q.1, min p.2 q.2)] else []
def both : Prs → Prs → Prs
  | [], _ => []
  | _ :: _, [] => []
  | p :: r, q :: s => cutTo p q ++ (if p.2 < q.2 then both r (q :: s) else both (p :: r) s)
termination_by x y => x.length + y.length
theorem in_cut {n : Int} {p q : Int × Int} : In n (cutTo p q) ↔ (p.1 ≤ n ∧ n ≤ p.2) ∧ q.1 ≤ n ∧ n ≤ q.2 := by
  unfold cutTo
  split
  · rename_i h
    constructor
    · intro g
      rcases In.cons.mp g with g | g
      · simp only at g
        omega
      · exact (In.nil g).elim
    · intro g
      exact In.cons.mpr (Or.inl ⟨by show max p.1 q.1 ≤ n; omega, by show n ≤ min p.2 q.2; omega⟩)
  · rename_i h
    constructor
    · exact fun g => (In.nil g).elim
    · intro g
      omega
theorem both_in (n : Int) : ∀ (x y : Prs) (k j : Int), From k x → From j y → (In n (both x y) ↔ In n x ∧ In n y)
  | [], y, _, _, _, _ => by
    unfold both
    exact ⟨fun g => (In.nil g).elim, fun g => (In.nil g.1).elim⟩
  | p :: r, [], _, _, _, _ => by
    unfold both
    exact ⟨fun g => (In.nil g).elim, fun g => (In.nil g.2).elim⟩
  | p :: r, q :: s, k, j, f, g => by
    unfold both
    rw [In.app, in_cut]
    by_cases c : p.2 < q.2
    · rw [if_pos c, both_in n r (q :: s) _ _ f.2.2 g, In.cons, In.cons]
      constructor
      · rintro (h | h)
        · exact ⟨Or.inl h.1, Or.inl h.2⟩
        · exact ⟨Or.inr h.1, h.2⟩
      · rintro ⟨h | h, h2⟩
        · rcases h2 with h2 | h2
          · exact Or.inl ⟨h, h2⟩
          · have := g.2.2.ge h2
            omega
        · exact Or.inr ⟨h, h2⟩
    · rw [if_neg c, both_in n (p :: r) s _ _ f g.2.2, In.cons, In.cons]
      constructor
      · rintro (h | h)
        · exact ⟨Or.inl h.1, Or.inl h.2⟩
        · exact ⟨h.1, Or.inr h.2⟩
      · rintro ⟨h1, h | h⟩
        · rcases h1 with h1 | h1
          · exact Or.inl ⟨h1, h⟩
          · have := f.2.2.ge h1
            omega
        · exact Or.inr ⟨h1, h⟩
termination_by x y => x.length + y.length
theorem both_from : ∀ (x y : Prs) (k j : Int), From k x → From j y → From (max k j) (both x y)
  | [], y, _, _, _, _ => by
    unfold both
    trivial
  | p :: r, [], _, _, _, _ => by
    unfold both
    trivial
  | p :: r, q :: s, k, j, f, g => by
    have f' := f
    have g' := g
    obtain ⟨f1, f2, f3⟩ := f
    obtain ⟨g1, g2, g3⟩ := g
    unfold both
    by_cases c : p.2 < q.2
    · rw [if_pos c]
      have ih := both_from r (q :: s) (p.2 + 2) q.1 f3 ⟨Int.le_refl _, g2, g3⟩
      unfold cutTo
      split
      · refine ⟨by show max k j ≤ max p.1 q.1; omega, by show max p.1 q.1 ≤ min p.2 q.2; omega, ?_⟩
        exact ih.down (by show min p.2 q.2 + 2 ≤ max (p.2 + 2) q.1; omega)
      · exact ih.down (by omega)
    · rw [if_neg c]
      have ih := both_from (p :: r) s p.1 (q.2 + 2) ⟨Int.le_refl _, f2, f3⟩ g3
      unfold cutTo
      split
      · refine ⟨by show max k j ≤ max p.1 q.1; omega, by show max p.1 q.1 ≤ min p.2 q.2; omega, ?_⟩
        exact ih.down (by show min p.2 q.2 + 2 ≤ max p.1 (q.2 + 2); omega)
      · exact ih.down (by omega)
termination_by x y => x.length + y.length
/-! ### united -/
/-- pairs with their ends in order, ascending by their beginnings, from k upwards -/
def Asc (k : Int) : Prs → Prop
  | [] => True
  | q :: r => k ≤ q.1 ∧ q.1 ≤ q.2 ∧ Asc q.1 r
theorem Asc.down {k j : Int} {ps : Prs} (h : Asc k ps) (l : j ≤ k) : Asc j ps := by
  cases ps with
  | nil => trivial
  | cons q r => exact ⟨by have := h.1; omega, h.2⟩
def pour (l h : Int) : Prs → Prs
  | [] => [(l, h)]
  | q :: r => if q.1 > h + 1 then (l, h) :: pour q.1 q.2 r else pour l (max h q.2) r
theorem pour_spec : ∀ (r : Prs) (l h : Int), l ≤ h → Asc l r → From l (pour l h r) ∧ ∀ n, In n (pour l h r) ↔ (l ≤ n ∧ n ≤ h) ∨ In n r
  | [], l, h, lh, _ => by
    unfold pour
    exact ⟨⟨Int.le_refl _, lh, trivial⟩, fun n => In.cons⟩
  | q :: r, l, h, lh, ⟨a1, a2, a3⟩ => by
    unfold pour
    by_cases c : q.1 > h + 1
    · rw [if_pos c]
      obtain ⟨i1, i2⟩ := pour_spec r q.1 q.2 a2 a3
      refine ⟨⟨Int.le_refl _, lh, i1.down (by show h + 2 ≤ q.1; omega)⟩, fun n => ?_⟩
      rw [In.cons, In.cons, i2]
    · rw [if_neg c]
      obtain ⟨i1, i2⟩ := pour_spec r l (max h q.2) (by omega) (a3.down a1)
      refine ⟨i1, fun n => ?_⟩
      rw [i2, In.cons]
      constructor
      · rintro (g | g)
        · by_cases z : n ≤ h
          · exact Or.inl ⟨g.1, z⟩
          · exact Or.inr (Or.inl ⟨by omega, by omega⟩)
        · exact Or.inr (Or.inr g)
      · rintro (g | g | g)
        · exact Or.inl ⟨g.1, by omega⟩
        · exact Or.inl ⟨by omega, by omega⟩
        · exact Or.inr g
def united : Prs → Prs
  | [] => []
  | q :: r => pour q.1 q.2 r
theorem united_spec {ps : Prs} {k : Int} (h : Asc k ps) : Rg (united ps) ∧ ∀ n, In n (united ps) ↔ In n ps := by
  cases ps with
  | nil => exact ⟨⟨0, trivial⟩, fun n => Iff.rfl⟩
  | cons q r =>
    obtain ⟨i1, i2⟩ := pour_spec r q.1 q.2 h.2.1 h.2.2
    exact ⟨⟨_, i1⟩, fun n => by
      show In n (pour q.1 q.2 r) ↔ _
      rw [i2, In.cons]⟩
/-! ### gaps -/
/-- the numbers from s to high that are not in inner, whose pairs lie from s upwards -/
def holes (s high : Int) : Prs → Prs
  | [] => if s ≤ high then [(s, high)] else []
  | q :: r => (if s ≤ q.1 - 1 then [(s, q.1 - 1)] else []) ++ holes (q.2 + 1) high r
theorem holes_spec (high : Int) : ∀ (r : Prs) (s : Int), From s r → (∀ n, In n r → n ≤ high) → From s (holes s high r) ∧ ∀ n, In n (holes s high r) ↔ (s ≤ n ∧ n ≤ high) ∧ ¬ In n r
  | [], s, _, _ => by
    unfold holes
    split
    · rename_i c
      refine ⟨⟨Int.le_refl _, c, trivial⟩, fun n => ?_⟩
      rw [In.cons]
      exact ⟨fun g => ⟨g.elim id fun z => (In.nil z).elim, In.nil⟩, fun g => Or.inl g.1⟩
    · rename_i c
      refine ⟨trivial, fun n => ⟨fun g => (In.nil g).elim, fun g => ?_⟩⟩
      omega
  | q :: r, s, ⟨a1, a2, a3⟩, hh => by
    have hi : q.2 ≤ high := hh q.2 (In.cons.mpr (Or.inl ⟨a2, Int.le_refl _⟩))
    obtain ⟨i1, i2⟩ := holes_spec high r (q.2 + 1) (a3.down (by omega)) (fun n g => hh n (In.cons.mpr (Or.inr g)))
    have mid : ∀ n, In n ((if s ≤ q.1 - 1 then [(s, q.1 - 1)] else []) ++ holes (q.2 + 1) high r) ↔ (s ≤ n ∧ n ≤ high) ∧ ¬ In n (q :: r) := fun n => by
      rw [In.app, i2, In.cons]
      constructor
      · rintro (g | g)
        · have g' : s ≤ n ∧ n ≤ q.1 - 1 := by
            split at g
            · rcases In.cons.mp g with g | g
              · exact g
              · exact (In.nil g).elim
            · exact (In.nil g).elim
          refine ⟨⟨by omega, by omega⟩, ?_⟩
          rintro (z | z)
          · omega
          · have := a3.ge z
            omega
        · refine ⟨⟨by omega, by omega⟩, ?_⟩
          rintro (z | z)
          · omega
          · exact g.2 z
      · rintro ⟨⟨g1, g2⟩, g3⟩
        by_cases c : n < q.1
        · left
          rw [if_pos (by omega)]
          exact In.cons.mpr (Or.inl ⟨g1, by show n ≤ q.1 - 1; omega⟩)
        · right
          refine ⟨⟨?_, g2⟩, fun z => g3 (Or.inr z)⟩
          apply Classical.byContradiction
          intro z
          exact g3 (Or.inl ⟨by omega, by omega⟩)
    refine ⟨?_, mid⟩
    show From s ((if s ≤ q.1 - 1 then [(s, q.1 - 1)] else []) ++ holes (q.2 + 1) high r)
    split
    · rename_i c
      exact ⟨Int.le_refl _, c, i1.down (by show q.1 - 1 + 2 ≤ q.2 + 1; omega)⟩
    · exact i1.down (by omega)
end Rng

set_option Elab.async false
set_option linter.all false
set_option maxRecDepth 100000
/-! sorted(t) of a tuple of pairs. -/
namespace SrtO
open PySem PyProof.Rows Srt
section
variable {prog : Program} {w : World} {A : Around} {E : Value → Shared → Prop} {s : Shared}
theorem sorted_tupP {t : Addr} {o : Obj} {n : Nat} {vs : List Value} {k : Value → Int × Int} {Q : Value → Shared → Prop} (ho : s.heap.get? t = some o) (hc : o.cls = .type "tuple") (hd : o.data = .seq vs.toArray n)
    (hz : vs.length ≤ sizeLine) (hp : ∀ v ∈ vs, IsPair s.heap v (k v).1 (k v).2)
    (h : ∀ (h' : Heap) (d : Addr) (out : List Value), Srtd (fun v u => lexB (k v) (k u)) out → Stb (fun v u => lexB (k v) (k u)) out vs → ∀ h1 : Heap, (∀ b o, s.heap.get? b = some o → h1.get? b = some o) → (∀ b o, h1.get? b = some o → h'.get? b = some o) → h1.objs.size ≤ d →
      (∃ n, h'.get? d = some (seqObj "list" out.toArray n)) → Q (.ref d) { s with heap := h' }) :
    wpAny (model prog w) A (call (.builtin "sorted") [.ref t]) Q E s := by
  refine Calls.call_function_entry kind_sorted plain_sorted entry_sorted (args_sorted1 _) ?_
  unfold Builtin.«sorted»
  refine wpAny_bind (m := checkCount "sorted" 1 1 _) (wpAny_pure ?_)
  refine wpAny_bind (wpAny_collect_seq t (.inr rfl) ho hc hd (fun h1 k1 => ?_) (by rw [List.size_toArray]; exact hz))
  have e0 : vs.toArray.toList = vs := by simp
  rw [e0]
  refine wpAny_bind (wpAny_newList ?_ hz)
  have at1 : (h1.push (seqObj "list" vs.toArray 0)).get? h1.objs.size = some (seqObj "list" vs.toArray 0) := Heap.get?_push_size _ rfl
  have old : ∀ b o, h1.get? b = some o → b ≠ h1.objs.size ∧ (h1.push (seqObj "list" vs.toArray 0)).get? b = some o := fun b o e => ⟨Nat.ne_of_lt (Heap.lt_size e), Heap.get?_push_of_some _ e⟩
  refine wpAny_bind (wpAny_holding (wpAny_call_entry slot_list_sort ⟨_, at1, rfl⟩ entry_list_sort (list_sort_ord (swo_lex k) at1 hz (fun h2 => ?_) fun out hs hb => ⟨_, rfl, ?_⟩) (args_list_sort _)))
  · refine pairs_sortableO (by omega) (fun v hv => (hp v hv).keeps fun b o e _ => (old b o (k1 b o e)).2) fun o e c => ?_
    have z : some o = some (seqObj "list" vs.toArray 0) := e.symm.trans at1
    cases z
    exact absurd (Value.type.inj c) (by decide)
  · refine wpAny_pure ⟨_, rfl, h _ _ out hs hb h1 k1 (fun b o e => ?_) (Nat.le_refl _) (sortedHeap_at at1)⟩
    obtain ⟨x1, x2⟩ := old b o e
    exact (sortedHeap_old x1 (Heap.lt_size x2)).trans x2
end
end SrtO
namespace L2
open PySem PySem.Spec PyProof.Rows
/-- sorted(t) of a tuple of pairs: k says which -/
def rSortTP (K : PySem.W.Frag) : List V → Hp → VK → Prop := fun vs H Q => ∃ (a : Addr) (xs : List V) (k : V → Int × Int), vs = [V.ref a] ∧ SqT K H a xs ∧ (∀ x ∈ xs, ∃ t, x = V.ref t ∧ H t = some (.tup [.int (k x).1, .int (k x).2])) ∧
  ∀ ys p, SrtO.Srtd (ltP k) ys → SrtO.Stb (ltP k) ys xs → H p = none → Q (.ref p) (upd H p (.lst ys))
theorem cr_sortTP {X : Cx} : CallR X (.builtin "sorted") (rSortTP X.K) := by
  intro pins s σ H vs us Q I r h
  obtain ⟨a, xs, k, rfl, hs, hx, q⟩ := h
  obtain ⟨its, rv, ⟨o, ho, hc, n, hd⟩, hz⟩ := I.tuple hs
  obtain ⟨u, rfl, ru⟩ := vals1 r
  cases ru
  have len := rv.length
  obtain ⟨e1, e2⟩ := refs_back rv fun x m => (hx x m).imp fun _ z => z.1
  refine SrtO.sorted_tupP (k := fun u => k (backV u)) ho hc hd (by omega) (fun v hv => ?_) fun h' d out h1 h2 hm km kp hd' hn => ?_
  · obtain ⟨t, rfl⟩ := e2 v hv
    have hmem : V.ref t ∈ xs := e1 ▸ List.mem_map.mpr ⟨Value.ref t, hv, rfl⟩
    obtain ⟨t', e, ht⟩ := hx _ hmem
    cases e
    obtain ⟨_, its2, r2, o2, ho2, hc2, n2, hd2⟩ := I.hok _ _ ht
    obtain ⟨u1, u2, rfl, ⟨t1, rfl⟩, ⟨t2, rfl⟩⟩ := vals2 r2
    exact ⟨t, o2, t1, t2, n2, rfl, ho2, hc2, hd2⟩
  · obtain ⟨n2, hn⟩ := hn
    have all : ∀ u ∈ out, ∃ a, u = Value.ref a := fun u hu => e2 u (h2.perm.subset hu)
    have stb : SrtO.Stb (ltP k) (out.map backV) xs := e1 ▸ SrtO.Stb.map (ltP_swo k) backV h2
    have I1 : Inv X pins σ H { s with heap := hm, toks := s.toks } := I.kept (t' := s.toks) km
    have z : (out.map backV).length ≤ sizeLine := by
      rw [stb.len]
      omega
    exact ⟨.ref d, upd H d (.lst (out.map backV)), I1.laid (t' := s.toks) kp hd' ⟨z, out, n2, vals_back all, hn⟩, rfl, q _ d (SrtO.srtd_map h1) stb (I1.hok.fresh hd')⟩
end L2

set_option Elab.async false
set_option linter.all false
set_option maxRecDepth 100000
/-! set(l) of a list of whole numbers: what the set's order needs to be known of is kept. -/
namespace L2
open PySem PySem.Spec PyProof.Rows
/-- a set that was just made -/
abbrev so0 (w : World) : Obj := { cls := .type "set", dict := none, data := .set #[] 0 (.fresh 0 0 (!w.params.followText "set-order")) }
section
variable {P : Program} {w : World} {A : Around} {E : Value → Shared → Prop} {s : Shared}
theorem nat_beyond {n m : Nat} (e : m = n + 1) : n ≠ m := by omega
set_option maxHeartbeats 3200000 in
theorem set_of_list {a : Addr} {xs : Array Value} {ns : List Int} {Q : Value → Shared → Prop} (quiet : A.handled = none) (la : s.heap.IsList a xs) (iv : IntsAre xs.toList ns) (few : ns.length + 1 < scanBound)
    (q : ∀ (g : Heap) (tk c : Nat), SetR w g s.heap.objs.size (fun j => decide (j ∈ ns)) c → c ≤ ns.length → (∀ b o, s.heap.get? b = some o → g.get? b = some o) → Q (.ref s.heap.objs.size) { s with heap := g, toks := tk }) :
    wpAny (model P w) A (call (.type "set") [.ref a]) Q E s := by
  have size : xs.size = ns.length := (Array.length_toList (xs := xs)).symm.trans iv.length
  obtain ⟨_, _, mro⟩ := F.called_set.mro
  have made := F.called_set.made
  have sub := F.called_set.sub
  have nt := F.called_set.notType
  have cc := F.called_set.canCreate
  have tc := F.typeCall_set_1 (.ref a)
  have item : ∀ (i : Nat) (v : Value), xs[i]? = some v → ∃ k t, ns[i]? = some k ∧ v = .int k t := fun i v hv => by
    obtain ⟨t, e⟩ := IntsAre.int_at iv i v (by rw [Array.getElem?_toList]; exact hv)
    have hi := (Array.getElem?_eq_some_iff.mp hv).1
    have z : ns[i]? = some ns[i] := List.getElem?_eq_getElem (by omega)
    exact ⟨_, t, z, by rw [e, List.getD_eq_getElem?_getD, z]; rfl⟩
  refine wpAny_call (codeAny_of_tree (wpAny_pure ⟨Code.quiet_builtin _ (by decide +kernel), codeAny_builtin F.entry_type_call ?_⟩))
  rw [Around.under_plain (weight_type_call_type "set" [.ref a] []) rfl]
  repeat any_goals first | assumption | wp_step
  refine codeAny_mono (code_set_led1 (E := E) (Q₁ := fun r z => r = .ref s.heap.objs.size ∧ z = { s with heap := s.heap.push (so0 w) }) (.ref a) ⟨rfl, rfl⟩) ?_
  intro r s₁ hr
  match r, hr with
  | .error _, hr => exact hr
  | .ok .next, hr => exact hr.elim
  | .ok .brk, hr => exact hr.elim
  | .ok .cont, hr => exact hr.elim
  | .ok (.ret obj), hr =>
    obtain ⟨rfl, rfl⟩ := hr
    have at0 : (s.heap.push (so0 w)).get? s.heap.objs.size = some (so0 w) := Heap.get?_push_size _ rfl
    have typ : Shared.TypeIs { s with heap := s.heap.push (so0 w) } (.ref s.heap.objs.size) "set" := ⟨_, at0, rfl⟩
    have lk := F.called_set.init.lookup
    have bd := F.called_set.init.bind (.ref s.heap.objs.size)
    repeat any_goals first | assumption | wp_step
    refine codeAny_mono (codeAny_call_builtin (R := wants (fun v z => v = .none ∧ ∃ g tk c, z = { s with heap := g, toks := tk } ∧ SetR w g s.heap.objs.size (fun j => decide (j ∈ ns)) c ∧ c ≤ ns.length ∧
      (∀ b o, s.heap.get? b = some o → g.get? b = some o)) E) F.called_set.init.plain F.entry_set_init (check_set_init_1 typ ?_)) ?_
    · obtain ⟨⟨_, dict, _, slots⟩, got, rfl, n, rfl⟩ := la
      have inn : a < s.heap.objs.size := Heap.lt_size got
      have got1 := Heap.get?_push_of_some (so0 w) got
      have la1 : (s.heap.push (so0 w)).IsList a xs := ⟨_, got1, rfl, n, rfl⟩
      have s1 := F.sub_list_set
      have s2 := F.sub_list_frozenset
      have s3 : (Value.type "list" == Value.type "dict") = false := by decide
      unfold Builtin.«set.__init__» noKeywords Builtin.Frozenset.updateFrom
      generalize walk : pyIter = PI
      wp_walk
      subst walk
      have up : (s.heap.push (so0 w)).objs.size = s.heap.objs.size + 1 := Heap.size_push ..
      refine wpAny_pyIter_list la1 (wpAny_bind (wpAny_runValue ?_))
      refine set_update_ints ((Walks.list (A := A.in1.in1.in1) (by simp [quiet]) _ a (by rw [up]; exact Nat.ne_of_lt (Nat.lt_succ_of_lt inn)) xs).toS) s.heap.objs.size (by simp only [up, List.mem_cons, List.not_mem_nil, or_false, not_or]; exact ⟨Nat.ne_of_lt (Nat.lt_succ_self _), Nat.ne_of_gt inn⟩) ns size few item (xs.size - 0) 0 _ (by omega) (Nat.zero_le _)
        ⟨⟨_, Heap.get?_push_size _ rfl, rfl, rfl⟩, la1.push _⟩ ⟨0, Nat.le_refl 0, setR_new_at (Heap.get?_push_of_some _ at0)⟩ ?_
      rintro ⟨g, g2, d2, tk, os2⟩ c moved cl done
      obtain rfl : g2 = s.gens := moved.gens
      obtain rfl : d2 = s.drawn := moved.drawn
      obtain rfl : os2 = s.os := moved.os
      refine wpAny_pure (wpAny_pure ⟨rfl, g, tk, c, rfl, done, by omega, fun b o e => ?_⟩)
      have hb := Heap.lt_size e
      refine moved.heap b o ?_ (Heap.get?_push_of_some _ (Heap.get?_push_of_some _ e))
      simp only [up, List.mem_cons, List.not_mem_nil, or_false, not_or]
      exact ⟨Nat.ne_of_lt hb, Nat.ne_of_lt (Nat.lt_succ_of_lt hb)⟩
    · intro r₂ s₂ hr₂
      match r₂, hr₂ with
      | .error _, hr₂ => exact hr₂
      | .ok .next, hr₂ => exact hr₂.elim
      | .ok .brk, hr₂ => exact hr₂.elim
      | .ok .cont, hr₂ => exact hr₂.elim
      | .ok (.ret _), hr₂ =>
        obtain ⟨rfl, g, tk, c, rfl, done, cl, keep⟩ := hr₂
        repeat any_goals first | assumption | wp_step
        exact q _ _ _ done cl keep
end
/-- set(l) -/
def rSetLI (K : PySem.W.Frag) (w : World) : List V → Hp → VK → Prop := fun xs H Q => ∃ (l : Addr) (ns : List Int), xs = [V.ref l] ∧ SqL K H l (ns.map V.int) ∧ ns.length < 64 ∧
  ∀ a c, H a = none → c ≤ ns.length → Q (.ref a) (upd H a (SetO w a (fun j => decide (j ∈ ns)) c))
theorem cr_setLI {X : Cx} (hc : X.calm = true) : CallR X (.type "set") (rSetLI X.K X.w) := by
  intro pins s σ H xs us Q I r h
  obtain ⟨l, ns, rfl, hs, h64, q⟩ := h
  obtain ⟨its, rv, pl, hz⟩ := I.list hs
  rw [Vals.ref1 r]
  refine set_of_list (I.ok.hd hc) pl.isList (ns := ns) (by simpa using rv.ints) (by unfold scanBound; omega) fun g tk c done cl keep => ?_
  exact ⟨.ref _, upd H s.heap.objs.size (SetO X.w s.heap.objs.size (fun j => decide (j ∈ ns)) c), I.laid (t' := tk) keep (Nat.le_refl _) (setO_new done), rfl, q _ c (I.hok.fresh (Nat.le_refl _)) cl⟩
end L2

set_option Elab.async false
set_option linter.all false
set_option maxRecDepth 100000
/-! Lambdas of one parameter, handed to a def that calls them: what they answer, told of the state. -/
namespace Pf
open PySem PySem.Spec PyProof.Rows L2 LamX NdefX
/-- from the state s on the function at f answers the whole number n by p n -/
structure Ans (P : Program) (w : World) (K : PySem.W.Frag) (mg : Str → Option Value) (base : Heap) (k : Nat) (f : Addr) (p : Int → Bool) (s : Shared) (H : Hp) (fs : List Addr) : Prop where
  here : ∀ (s1 : Shared) (H1 : Hp), Un fs [] H H1 s.heap s1.heap → PySem.W.FnAt f s1.heap
  run : ∀ (A : Around) (outer : List Env) (s1 : Shared) (H1 : Hp) (n : Int) (u : Value) (Q : VK), A.guards = some [] → Room k A → Env0 P w K mg base A outer s1 H1 → Un fs [] H H1 s.heap s1.heap → L2.Same H H1 → RelV (.int n) u →
    (∀ H2, L2.Same H1 H2 → Q (.bl (p n)) H2) → codeAny (model P w) A (.call (.ref f) ⟨[u], []⟩) (CR CX0 outer P w H1 s1 Q noErr) s1
section
variable {X : Cx} {i j k : Nat} {x : Str} {f : Addr} {p : Int → Bool} {e : Expr} {t : TA} {p1 p2 : Pos}
def tAns (i : Nat) (f : Addr) (p : Int → Bool) (H0 : Hp) (t : TA) : TE := fun σ H Q => σ[i]? = some (some (.ref f)) ∧ t σ H fun vs H1 => ∃ n, vs = [V.int n] ∧ L2.Same H0 H1 ∧ ∀ H2, L2.Same H1 H2 → Q (.bl (p n)) H2
theorem pe_ans (C : Ans X.prog X.w X.K X.mg X.base k f p X.s_0 X.H_0 X.fs) (hex : X.ex = []) (hr : X.A.guards = some [] ∧ Room j X.A) (hk : k ≤ j) (hN : X.N[i]? = some x) (hv : Vis X.env.scope x) (ha : PA X [e] t)
    (hd : (x == ("__debug__" : Str)) = false := by decide) (hcd : (x == ("__classdict__" : Str)) = false := by decide) (he : starEach [e] X.env = (false, eval e X.env) :: starEach [] X.env := by rfl) :
    PE X (.Call (.Name x p1) [e] [] p2) (tAns i f p X.H_0 t) := by
  refine ⟨fun pins s σ H Q I h => ?_⟩
  obtain ⟨hs, ht⟩ := h
  refine wpAny_Call_Name_kw (thn ((pe_var (pos := p1) hN hv hd hcd).run pins s σ H (fun v H1 => v = .ref f ∧ H1 = H) I ⟨.ref f, hs, rfl, rfl⟩) ?_)
  rintro u s1 ⟨v, H1, I1, r1, rfl, rfl⟩
  obtain rfl : u = Value.ref f := r1
  have un1 : Un X.fs [] X.H_0 H1 X.s_0.heap s1.heap := hex ▸ I1.base
  refine PySem.W.callWith_F (first := []) (C.here _ _ un1) ?_ he rfl
  refine thn (ha.run p2 pins s1 σ H1 _ I1 ht) ?_
  rintro us s2 ⟨vs, H2, I2, r2, n, rfl, sm, q⟩
  obtain ⟨u2, rfl, r3⟩ := vals1 r2
  have un2 : Un X.fs [] X.H_0 H2 X.s_0.heap s2.heap := hex ▸ I2.base
  refine ⟨C.here _ _ un2, ?_⟩
  refine wpAny_call (codeAny_mono (C.run X.A X.stack s2 H2 n u2 Q hr.1 (hr.2.mono hk) I2.env0 un2 sm r3 q) ?_)
  intro res s' z
  match res, z with
  | .error e, z => exact pass0 pins σ H2 s2 e s' I2 z
  | .ok (.ret u), z => exact I2.after z
  | .ok .next, z => exact z.elim
  | .ok .brk, z => exact z.elim
  | .ok .cont, z => exact z.elim
end
/-- what the body of a lambda of one parameter makes of its parameter and of what it captured -/
theorem ans_made {X : Cx} {pins : List (Addr × Obj)} {σ : L2.St} {H : Hp} {s : Shared} {f c' : Addr} {pm ctv : Value} {params : Arguments} {body : Expr} {scope : Scope} {k : Nat} {x : Str} {N fr : List Str} {js : List Nat} {p : Int → Bool} {tb : TE}
    (I : Inv X pins σ H s) (hf : s.heap.get? f = some (PySem.W.kla_obj "<lambda>" (X.env.qual ++ "<lambda>") params body scope (cloFrom X.env.cells scope.names []) pm c' ctv)) (hfn : H f = none) (hfr : f ∉ frs X.stack)
    (hco : H c' = some (CodeO c' (X.env.qual ++ "<lambda>"))) (S : NScope N [x] fr scope) (cp : Caps X (cloFrom X.env.cells scope.names []) fr js)
    (hbind : ∀ u, bindArgs (PySem.W.kla_fn "<lambda>" (X.env.qual ++ "<lambda>") params body scope (cloFrom X.env.cells scope.names []) pm (.ref c') ctv) ⟨[u], []⟩ = pure [(x, u)])
    (hbody : ∀ (A : Around) (outer : List Env) (s : Shared) (H : Hp), (A.deeper (envF ⟨"<lambda>", X.env.qual ++ "<lambda>", params, [], scope, cloFrom X.env.cells scope.names [], c'⟩ f s.heap.objs.size)).guards = some [] →
      Room k (A.deeper (envF ⟨"<lambda>", X.env.qual ++ "<lambda>", params, [], scope, cloFrom X.env.cells scope.names [], c'⟩ f s.heap.objs.size)) →
      PE (ncx CX0 X.prog X.w X.K X.mg X.base N ⟨"<lambda>", X.env.qual ++ "<lambda>", params, [], scope, cloFrom X.env.cells scope.names [], c'⟩ f A outer s H noErr) body tb)
    (read : ∀ n H1 R, L2.Same H H1 → (∀ H2, L2.Same H1 H2 → R (.bl (p n)) H2) → tb (startF N [.int n] (js.map (slotAt σ))) H1 R) :
    Ans X.prog X.w X.K X.mg X.base (k + 1) f p s H (frs X.stack) := by
  have keep : ∀ (s1 : Shared) (H1 : Hp), Un (frs X.stack) [] H H1 s.heap s1.heap → s1.heap.get? f = some (PySem.W.kla_obj "<lambda>" (X.env.qual ++ "<lambda>") params body scope (cloFrom X.env.cells scope.names []) pm c' ctv) := fun s1 H1 un => un.keep f _ hf hfn hfr (fun z => nomatch z)
  refine ⟨fun s1 H1 un => ⟨_, _, _, _, keep s1 H1 un⟩, fun A outer s1 H1 n u Q hg hr e0 un sm ru q => ?_⟩
  have lim : s1.heap.NoLimit := e0.mod.nolimit.keeps fun b o e => (e0.bs b o e).1
  have C0 := cells_of I cp
  have C1 : CellsAt (cloFrom X.env.cells scope.names []) fr (js.map (slotAt σ)) s1.heap H1 := by
    have cell : ∀ {c : Addr} {v : Option Value}, H c = none → s.heap.IsCell c v → H1 c = none ∧ s1.heap.IsCell c v := fun {c v} nn ⟨o, ho, hd⟩ => by
      obtain ⟨sl, z⟩ := un.any ho nn (fun z => nomatch z)
      exact ⟨un.free c o ho nn (fun z => nomatch z), _, z, hd⟩
    refine ⟨C0.len, fun y c e => ?_, C0.inj, fun i y e => ?_⟩
    · obtain ⟨z1, v, z2⟩ := C0.all y c e
      exact ⟨(cell z1 z2).1, v, (cell z1 z2).2⟩
    · obtain ⟨c, z1, z2⟩ := C0.has i y e
      refine ⟨c, z1, fun v hv => ?_⟩
      obtain ⟨w', r, z3⟩ := z2 v hv
      exact ⟨w', r, (cell (C0.all y c z1).1 z3).2⟩
  obtain ⟨⟨oc, vs, t, hoc, hdc, hvc⟩, _, _⟩ := e0.hok c' _ (sm _ _ hco)
  refine PySem.W.kla_callFunE hr.depth (keep s1 H1 un) rfl S.co S.gen rfl ⟨c', oc, vs, t, rfl, hoc, hdc, hvc⟩ ?_
  rw [hbind u]
  refine wpAny_pure (wpAny_newFunctionEnv S.nocell (fun y hy => ?_) (fun h₁ hns hsb => ⟨lim.fresh _ hsb, ?_⟩) S.kind)
  · obtain rfl : y = (x, u) := List.mem_singleton.mp hy
    exact S.par x (List.mem_singleton.mpr rfl)
  have kp : ∀ b o, s1.heap.get? b = some o → h₁.get? b = some o := fun b o e => hsb.extBut b o (Nat.ne_of_lt (Heap.lt_size e)) (Heap.get?_push_of_some _ e)
  have J := inv_startN (CX := CX0) (F := ⟨"<lambda>", X.env.qual ++ "<lambda>", params, [], scope, cloFrom X.env.cells scope.names [], c'⟩) (f := f) (E := noErr) (us := [u]) (vs := [.int n]) (tk := s1.toks + 1) S hr.hd e0 rfl (.cons ru .nil) C1 hns kp
  show codeAny _ _ (.expr body (envF ⟨"<lambda>", X.env.qual ++ "<lambda>", params, [], scope, cloFrom X.env.cells scope.names [], c'⟩ f s1.heap.objs.size)) _ _
  refine PySem.W.kla_codeExpr (wpAny_mono ((hbody A outer s1 H1 (guards_deeper hg) (hr.deeper _)).run [] _ _ H1 Q J (read n H1 Q sm q)) ?_ (fun e s' hq => hq))
  rintro v s' ⟨w', H', J', rv, q'⟩
  exact ⟨w', H', J'.os, J'.bare, J'.base, J'.hok, rv, q'⟩
/-- a def of two parameters that calls the second one -/
structure CalL (P : Program) (w : World) (K : PySem.W.Frag) (mg : Str → Option Value) (base : Heap) (j m : Nat) (x : Str) (sp : V → (Int → Bool) → Hp → VK → Prop) : Prop where
  is : ∃ (g : Addr) (fd : FuncData) (ps : List Str), mg x = some (.ref g) ∧ PySem.W.keepIn K (.ref g) = true ∧ Binds K fd ps [] ∧ ps.length = 2 ∧
    ∀ (A : Around) (outer : List Env) (s : Shared) (H : Hp) (args : Args) (f : Addr) (p : Int → Bool) (v : V) (u : Value) (Q : VK), A.guards = some [] → Room m A → Env0 P w K mg base A outer s H → BindsTo s fd args (ps.zip [u, .ref f]) → RelV v u →
      Ans P w K mg base j f p s H (frs outer) → sp v p H Q → codeAny (model P w) A (.call (.ref g) args) (CR CX0 outer P w H s Q noErr) s
/-- g(e, lambda x: body) -/
def tLam1 (T : List (Addr × Str)) (sp : V → (Int → Bool) → Hp → VK → Prop) (N : List Str) (js : List Nat) (tb te : TE) : TE := fun σ H Q => te σ H fun v H1 => Tabs T H1 ∧ ∃ p : Int → Bool, ∀ H2, ExtN H1 H2 → Tabs T H2 →
  (∀ n H3 (R : VK), L2.Same H2 H3 → (∀ H4, L2.Same H3 H4 → R (.bl (p n)) H4) → tb (startF N [.int n] (js.map (slotAt σ))) H3 R) ∧ sp v p H2 Q
theorem pe_lam1 {X : Cx} {T : List (Addr × Str)} {x y : Str} {c P : Addr} {i k m : Nat} {params : Arguments} {body : Expr} {scope : Scope} {N fr : List Str} {js : List Nat} {sp : V → (Int → Bool) → Hp → VK → Prop} {tb te : TE} {e : Expr} {pp lpos pos : Pos}
    (G : CalL X.prog X.w X.K X.mg X.base (k + 1) m x sp) (hr : X.A.guards = some [] ∧ Room i X.A) (hm : m ≤ i) (gl : Gl X x) (he : PE X e te)
    (TB : TabB X.base X.mg c P) (hcode : X.env.code = .ref c) (hmT : (P, X.env.qual ++ "<lambda>") ∈ T) (hu : ∀ p ∈ T, p.1 = P → p.2 = X.env.qual ++ "<lambda>") (S : NScope N [y] fr scope)
    (hfree : ∀ z ∈ scope.names, z.2 = .free → X.env.scope.names.lookup z.1 = some .cell ∨ X.env.scope.names.lookup z.1 = some .free) (hfr : ∀ z ∈ fr, (z, NameKind.free) ∈ scope.names) (hjs : js.map (fun j => X.N[j]?) = fr.map some)
    (hdef : defaultsOf params X.env = ([], []))
    (hbind : ∀ (q : Str) (cl : List (Str × Addr)) (pm cv ctv u : Value), bindArgs (PySem.W.kla_fn "<lambda>" q params body scope cl pm cv ctv) ⟨[u], []⟩ = pure [(y, u)])
    (hbody : ∀ (nm ql : Str) (cl : List (Str × Addr)) (c' f : Addr) (A : Around) (outer : List Env) (s : Shared) (H : Hp), ((A.deeper (envF ⟨nm, ql, params, [], scope, cl, c'⟩ f s.heap.objs.size)).guards = some [] ∧ Room k (A.deeper (envF ⟨nm, ql, params, [], scope, cl, c'⟩ f s.heap.objs.size))) →
      PE (ncx CX0 X.prog X.w X.K X.mg X.base N ⟨nm, ql, params, [], scope, cl, c'⟩ f A outer s H noErr) body tb)
    (hdb : (x == ("__debug__" : Str)) = false := by decide) (hs : starEach [e, .Lambda params body scope lpos] X.env = (false, eval e X.env) :: starEach [.Lambda params body scope lpos] X.env := by rfl) :
    PE X (.Call (.Name x pp) [e, .Lambda params body scope lpos] [] pos) (tLam1 T sp N js tb te) := by
  obtain ⟨g, fd, ps, hmx, kp, b, l2, run⟩ := G.is
  refine ⟨fun pins s σ H Q I h => ?_⟩
  refine Call_ (ld_glob I gl hmx ?_ hdb)
  refine PySem.W.callWith_K (h₀ := X.base) I.ok.mod.kin kp ?_ hs (by rfl)
  rw [hs]
  show wpAny _ _ (spliced ((false, eval e X.env) :: (false, eval (.Lambda params body scope lpos) X.env) :: backTo pos (starEach [] X.env))) _ _ s
  refine Calls.spliced_cons (thn (he.run pins s σ H _ I h) ?_)
  rintro u s1 ⟨v, H1, I1, rv, T1, p, q⟩
  have has : ∀ z ∈ scope.names, z.2 = .free → ∃ c, X.env.cells.lookup z.1 = some c := fun z hz e => (hfree z hz e).elim (fun k => I1.ok.has _ (.inl k)) fun k => I1.ok.has _ (.inr k)
  refine Calls.spliced_cons (lam_make2 I1 TB hcode hmT hu T1 hdef has fun f c' pm ctv H2 s2 I2 eN T2 hf hfn hfr' hco => Calls.spliced_nil ⟨I2.kIn, ?_⟩)
  obtain ⟨rd, q2⟩ := q H2 eN T2
  have ans := ans_made (p := p) I2 hf hfn hfr' hco S (Caps.made I2.ok hfree hfr hjs) (fun u => hbind _ _ _ _ _ u) (fun A outer s H h1 h2 => hbody _ _ _ _ f A outer s H ⟨h1, h2⟩) rd
  have bb := b s2 [u, .ref f] I2.kIn (by rw [List.append_nil]; exact l2.symm)
  rw [List.append_nil] at bb
  refine wpAny_call (codeAny_mono (run X.A X.stack s2 H2 _ f p v u Q hr.1 (hr.2.mono hm) I2.env0 bb rv ans q2) ?_)
  intro res s' z
  match res, z with
  | .error e, z => exact pass0 pins σ H2 s2 e s' I2 z
  | .ok (.ret u), z => exact I2.after z
  | .ok .next, z => exact z.elim
  | .ok .brk, z => exact z.elim
  | .ok .cont, z => exact z.elim
/-- such a def by its body -/
theorem calL_of {P : Program} {w : World} {K : PySem.W.Frag} {mg : Str → Option Value} {base : Heap} {x qual : Str} {st : Stmt} {f : Addr} {fd : FuncData} {N : List Str} {a b : Str} {j k : Nat} {sp : V → (Int → Bool) → Hp → VK → Prop} (F : Fun K x qual st f fd) (S : FnScope N [a, b] (defScope st)) (hm : mg x = some (.ref f)) (hb : Binds K fd [a, b] [])
    (bd : ∀ (cdv : Value) (A : Around) (outer : List Env) (s : Shared) (H : Hp) (h : Addr) (p : Int → Bool) (v : V) (Q : VK), (A.deeper (envOfC qual (defScope st) s.heap.objs.size f cdv)).guards = some [] →
      Room k (A.deeper (envOfC qual (defScope st) s.heap.objs.size f cdv)) → Ans P w K mg base j h p s H (frs outer) → sp v p H Q →
      ∃ t, PSs (cxOf CX0 P w K mg base N qual (defScope st) f cdv A outer s H noErr).nox (defBody st) t ∧ t { nx := fun _ H' => Q .non H', rt := Q } (start N [v, .ref h]) H) : CalL P w K mg base j (k + 1) x sp := by
  refine ⟨f, fd, [a, b], hm, F.kp, hb, rfl, ?_⟩
  obtain ⟨_, _, _, _, _, _, cdv, _, _, hfd, lk, hcd⟩ := F.ex
  subst hfd
  intro A outer s H args h p v u Q hg hr e0 bind rv ans promise
  refine run_ofS (CX := CX0) (E := noErr) (us := [u, .ref h]) (vs := [v, .ref h]) lk hcd S hr e0 bind (.cons rv (.cons rfl .nil)) rfl fun hr' => ?_
  obtain ⟨t, der, rd⟩ := bd cdv A outer s H h p v Q (guards_deeper hg) hr' ans promise
  exact ⟨t, der.nox, rd⟩
end Pf

set_option Elab.async false
set_option linter.all false
set_option maxRecDepth 100000
/-! The length of a text. -/
namespace Pf
open PySem PySem.Spec PyProof.Rows L2
def tlB : PyData → Bool
  | .tuple ds => decide (ds.length ≤ 1000)
  | _ => true
def szB (n k : Nat) (d : PyData) : Bool := d.showable && (decide (d.shown.length ≤ n) && (decide (d.depth ≤ k) && tlB d))
def Sz (n k : Nat) (d : PyData) : Prop := d.showable = true ∧ d.shown.length ≤ n ∧ d.depth ≤ k ∧ tlB d = true
theorem sz_of {n k : Nat} {d : PyData} (h : szB n k d = true) : Sz n k d := by
  unfold szB at h
  rw [Bool.and_eq_true, Bool.and_eq_true, Bool.and_eq_true] at h
  exact ⟨h.1, of_decide_eq_true h.2.1, of_decide_eq_true h.2.2.1, h.2.2.2⟩
theorem Sz.up {n k n' k' : Nat} {d : PyData} (h : Sz n k d) (hn : n ≤ n') (hk : k ≤ k') : Sz n' k' d := ⟨h.1, Nat.le_trans h.2.1 hn, Nat.le_trans h.2.2.1 hk, h.2.2.2⟩
theorem Sz.tl {n k : Nat} {d : PyData} (h : Sz n k d) : ∀ ds, d = .tuple ds → ds.length ≤ 1000 := fun ds e => by
  have q := h.2.2.2
  rw [e] at q
  exact of_decide_eq_true q
theorem Sz.fits {n k : Nat} {d : PyData} (h : Sz n k d) (hn : n ≤ sizeLine) (hk : k ≤ 60) : Fits d := ⟨h.1, Nat.le_trans h.2.1 hn, Nat.le_trans h.2.2.1 hk⟩
theorem Sz.all {n k : Nat} : ∀ {ds : List PyData}, (∀ d ∈ ds, Sz n k d) → PyData.showableAll ds = true ∧ ((PyData.shownAll ds).map (·.length)).sum ≤ ds.length * n ∧ (PyData.shownAll ds).length = ds.length ∧ PyData.depthAll ds ≤ k
  | [], _ => ⟨rfl, by simp [PyData.shownAll], rfl, Nat.zero_le _⟩
  | d :: ds, h => by
    obtain ⟨h1, h2, h3, _⟩ := h d List.mem_cons_self
    obtain ⟨i1, i2, i3, i4⟩ := Sz.all (ds := ds) fun e he => h e (List.mem_cons_of_mem _ he)
    refine ⟨?_, ?_, ?_, ?_⟩
    · simp only [PyData.showableAll, h1, i1, Bool.and_self]
    · simp only [PyData.shownAll, List.map_cons, List.sum_cons, List.length_cons, Nat.add_mul, Nat.one_mul]
      omega
    · simp only [PyData.shownAll, List.length_cons, i3]
    · simp only [PyData.depthAll]
      exact Nat.max_le.mpr ⟨h3, i4⟩
theorem Sz.tuple {n k : Nat} {ds : List PyData} (h : ∀ d ∈ ds, Sz n k d) (hl : ds.length ≤ 1000 := by simp) : Sz (ds.length * (n + 2) + 3) (k + 1) (.tuple ds) := by
  obtain ⟨i1, i2, i3, i4⟩ := Sz.all h
  refine ⟨by simp only [PyData.showable]; exact i1, ?_, by simp only [PyData.depth]; omega, decide_eq_true hl⟩
  have := tupleText_len_le (PyData.shownAll ds)
  simp only [PyData.shown]
  rw [Nat.mul_add]
  omega
theorem Sz.list {n k : Nat} {ds : List PyData} (h : ∀ d ∈ ds, Sz n k d) : Sz (ds.length * (n + 2) + 3) (k + 1) (.list ds) := by
  obtain ⟨i1, i2, i3, i4⟩ := Sz.all h
  refine ⟨by simp only [PyData.showable]; exact i1, ?_, by simp only [PyData.depth]; omega, rfl⟩
  have := listText_len_le (PyData.shownAll ds)
  simp only [PyData.shown]
  rw [Nat.mul_add]
  omega
theorem int_sz {i : Int} (h : i.natAbs < 10 ^ 40) : Sz 41 0 (.int i) := by
  have e := int_text_length_le10 (k := 40) (by decide) h
  have lg : i.natAbs.log2 < 1920 := by
    by_cases z : i.natAbs = 0
    · rw [z]
      decide
    · exact (Nat.log2_lt z).mpr (Nat.lt_of_lt_of_le h (by decide +kernel))
  refine ⟨by simp only [PyData.showable]; exact decide_eq_true lg, ?_, by simp only [PyData.depth]; omega, rfl⟩
  simp only [PyData.shown]
  rw [PySem.ofString_length]
  exact e
def Near (q : Int × Int) : Prop := q.1.natAbs < 10 ^ 40 ∧ q.2.natAbs < 10 ^ 40
theorem pr_sz {q : Int × Int} (h : Near q) : Sz 100 1 (prD q) := by
  refine (Sz.tuple (n := 41) (k := 0) fun e he => ?_).up (by simp only [List.length_cons, List.length_nil]; omega) (by omega)
  rcases List.mem_cons.mp he with e1 | he
  · rw [e1]
    exact int_sz h.1
  · rw [List.mem_singleton.mp he]
    exact int_sz h.2
theorem prs_sz {ps : List (Int × Int)} (h : ∀ q ∈ ps, Near q) : ∀ d ∈ ps.map prD, Sz 100 1 d := fun d hd => by
  obtain ⟨q, hq, e⟩ := List.mem_map.mp hd
  rw [← e]
  exact pr_sz (h q hq)
end Pf

set_option Elab.async false
set_option linter.all false
set_option maxRecDepth 100000
/-! Tables of code objects: a def that makes lambdas, and the law's call where tables are tracked. -/
namespace Pf
open PySem PySem.Spec PyProof.Rows L2 LamX NdefX
/-- all but what is at p and the tables stay -/
def Ke (p : Addr) (H H' : Hp) : Prop := ∀ b o, b ≠ p → (∀ ps, o ≠ HO.tbl ps) → H b = some o → H' b = some o
theorem Ke.refl (p : Addr) (H : Hp) : Ke p H H := fun _ _ _ _ h => h
theorem Ke.trans {p : Addr} {H H1 H2 : Hp} (a : Ke p H H1) (b : Ke p H1 H2) : Ke p H H2 := fun c o n m h => b c o n m (a c o n m h)
theorem Ke.kp {p : Addr} {H H' : Hp} (a : Kp p H H') : Ke p H H' := fun c o n _ h => a c o n h
theorem Ke.ext {p : Addr} {H H' : Hp} (a : ExtN H H') : Ke p H H' := fun c o _ m h => a c o h m
theorem Ke.same {p : Addr} {H H' : Hp} (a : Same H H') : Ke p H H' := fun c o _ _ h => a c o h
theorem ext_same {H H' : Hp} (a : Same H H') : ExtN H H' := fun c o h _ => a c o h
theorem TabS.kp {p P : Addr} {q : Str} {H H' : Hp} {xs : List V} (t : TabS H P q) (k : Kp p H H') (hp : H p = some (.lst xs)) : TabS H' P q := by
  obtain ⟨ps, h1, h2, h3⟩ := t
  refine ⟨ps, k _ _ (fun z => ?_) h1, h2, fun pos cv hc => ?_⟩
  · rw [z, hp] at h1
    cases h1
  · obtain ⟨c, e1, e2⟩ := h3 pos cv hc
    refine ⟨c, e1, k _ _ (fun z => ?_) e2⟩
    rw [z, hp] at e2
    unfold CodeO at e2
    cases e2
theorem Tabs.kp {p : Addr} {T : List (Addr × Str)} {H H' : Hp} {xs : List V} (t : Tabs T H) (k : Kp p H H') (hp : H p = some (.lst xs)) : Tabs T H' := fun z m => TabS.kp (t z m) k hp
theorem Tabs.same {T : List (Addr × Str)} {H H' : Hp} (t : Tabs T H) (s : Same H H') : Tabs T H' := Tabs.ext t s
theorem ext_tk {H H' : Hp} (e : ExtN H H') : TK H H' := fun b xs h => e b _ h fun _ z => nomatch z
theorem ke_tk {p : Addr} {H H' : Hp} {xs : List V} (e : Ke p H H') (hp : H p = some (.lst xs)) : TK H H' := fun b ys h => e b _ (fun z => by rw [z, hp] at h; cases h) (fun _ z => nomatch z) h
/-- the law's call where tables of code objects are tracked -/
theorem lawT {P : Program} {w : World} {K : PySem.W.Frag} {mg mb : Str → Option Value} {k : Nat} {fa a : Addr} {cs : List (Addr × Addr)} {fd : FuncData} {x : Str} {sp : Sp} {s₁ : Shared} {vs : List Value} {ns : List Int}
    (KX : K.In s₁.heap) (gn : s₁.heap.Ns mainGlobals mg) (bn : s₁.heap.Ns builtinsNs mb) (bb : ∀ x : Str, x ≠ "__name__" → mb x = bootBuiltins x) (nl : s₁.heap.NoLimit) (gens : s₁.gens = #[])
    (tabs : PySem.W.TabsAt cs s₁.heap) (loose : ∀ p ∈ cs, K.lookup p.2 = none)
    (bmod : ∃ (bm : Addr) (ob : Obj), mg "__builtins__" = some (.ref bm) ∧ bm ≠ builtinsNs ∧ s₁.heap.get? bm = some ob ∧ ob.cls = .type "module" ∧ ob.dict = some builtinsNs ∧ ob.data = .plain)
    (at_a : s₁.heap.get? a = some { cls := .type "list", data := .seq vs.toArray }) (iv : IntsAre vs ns) (few : ns.length ≤ sizeLine) (room : Room k callerA)
    (F : ∀ base : Heap, K.In base → base.Ns mainGlobals mg → (∀ p ∈ cs, TabB base mg p.1 p.2) → FnG P w K mg base k fa fd [x] sp) (bind : ∀ (s : Shared) (u : Value), BindsTo s fd ⟨[u], []⟩ [(x, u)])
    (goal : ∀ H : Hp, (∀ p ∈ cs, H p.2 = some (.tbl #[])) → SqL K H a (ns.map V.int) → sp [.ref a] H (fun v _ => v = .bl true) fun _ _ _ => False) :
    codeAny (model P w) callerA (.call (.ref fa) ⟨[.ref a], []⟩) (fun out t => out = .ok (.ret (.bool true)) ∧ OldK s₁.heap t.heap ∧ t.os = s₁.os ∧ AllBare t.gens) s₁ := by
  have rel := vals_ints iv
  have tabAt : ∀ b, b ∈ cs.map Prod.snd → s₁.heap.get? b = some (PySem.W.tabObj #[]) := fun b m => by
    obtain ⟨z, zm, rfl⟩ := List.mem_map.mp m
    exact (tabs z zm).2
  have isTab : ∀ z ∈ cs, z.2 ∈ cs.map Prod.snd := fun z zm => List.mem_map.mpr ⟨z, zm, rfl⟩
  have aOut : a ∉ cs.map Prod.snd := fun m => by
    have g := tabAt a m
    rw [at_a] at g
    exact nomatch (congrArg Obj.cls (Option.some.inj g))
  -- what is tracked: the tables; the script, unless it is an object of the written part
  obtain ⟨H, kind, sql, ok, gotT⟩ : ∃ H : Hp, (∀ b, H b = none ∨ (b ∈ cs.map Prod.snd ∧ H b = some (.tbl #[])) ∨ (b = a ∧ K.lookup a = none ∧ ∃ o xs, H b = some (.frz o (.lst xs)))) ∧ SqL K H a (ns.map V.int) ∧ HOk P w H s₁.heap ∧ ∀ z ∈ cs, H z.2 = some (.tbl #[]) := by
    cases look : K.lookup a with
    | some o =>
      have same := KX a o look
      rw [at_a] at same
      cases same
      refine ⟨fun b => if b ∈ cs.map Prod.snd then some (.tbl #[]) else none, fun b => ?_, .inr ⟨_, vs.toArray, _, look, rfl, rfl, rfl, by rw [List.size_toArray, iv.length]; exact few, by simpa using rel⟩, fun b u z => ?_, fun z zm => if_pos (isTab z zm)⟩
      · by_cases m : b ∈ cs.map Prod.snd
        · exact Or.inr (Or.inl ⟨m, if_pos m⟩)
        · exact Or.inl (if_neg m)
      · by_cases m : b ∈ cs.map Prod.snd
        · have e := (if_pos m).symm.trans z
          cases e
          exact tabAt b m
        · have e := (if_neg m).symm.trans z
          cases e
    | none =>
      refine ⟨fun b => if b ∈ cs.map Prod.snd then some (.tbl #[]) else if b = a then some (.frz { cls := .type "list", data := .seq vs.toArray } (.lst (ns.map V.int))) else none, fun b => ?_, .inl (.inr ⟨_, (if_neg aOut).trans (if_pos rfl)⟩), fun b u z => ?_, fun z zm => if_pos (isTab z zm)⟩
      · by_cases m : b ∈ cs.map Prod.snd
        · exact Or.inr (Or.inl ⟨m, if_pos m⟩)
        · by_cases e : b = a
          · exact Or.inr (Or.inr ⟨e, rfl, _, _, (if_neg m).trans (if_pos e)⟩)
          · exact Or.inl ((if_neg m).trans (if_neg e))
      · by_cases m : b ∈ cs.map Prod.snd
        · have e := (if_pos m).symm.trans z
          cases e
          exact tabAt b m
        · have z1 := (if_neg m).symm.trans z
          by_cases e : b = a
          · subst e
            have zz := (if_pos rfl).symm.trans z1
            cases zz
            exact ⟨at_a, by rw [List.length_map]; exact few, vs, _, rel, at_a⟩
          · have zz := (if_neg e).symm.trans z1
            cases zz
  have off : ∀ {b : Addr} {o : Obj}, s₁.heap.get? b = some o → (∀ xs n, o.data ≠ .seq xs n) → o ≠ PySem.W.tabObj #[] → H b = none := fun {b o} e n1 n2 => by
    rcases kind b with z | ⟨m, _⟩ | ⟨rfl, _, _⟩
    · exact z
    · rw [tabAt b m] at e
      exact (n2 (Option.some.inj e).symm).elim
    · rw [at_a] at e
      cases e
      exact (n1 _ _ rfl).elim
  have hid : ∀ {b : Addr} {o : Obj}, s₁.heap.get? b = some o → H b = none → (hidT s₁.heap H).get? b = some o := fun e n => hidT_get e n
  have ofData : ∀ {b : Addr} {o : Obj} {d : Data}, s₁.heap.get? b = some o → o.data = d → (∀ xs n, d ≠ .seq xs n) → d ≠ .fields #[] → (hidT s₁.heap H).get? b = some o := fun {b o d} e ed n1 n2 =>
    hid e (off e (fun xs n z => n1 xs n (ed.symm.trans z)) fun z => n2 (by rw [← ed, z]))
  have names : ∀ {b : Addr} {m : Str → Option Value}, s₁.heap.Ns b m → (hidT s₁.heap H).Ns b m := by
    rintro b m ⟨o, es, ep, e, d, r⟩
    exact ⟨o, es, ep, ofData e d (fun _ _ z => nomatch z) (fun z => nomatch z), d, r⟩
  have kin : K.In (hidT s₁.heap H) := by
    intro b o e
    refine hid (KX b o e) ?_
    rcases kind b with z | ⟨m, _⟩ | ⟨rfl, n, _⟩
    · exact z
    · obtain ⟨z, zm, rfl⟩ := List.mem_map.mp m
      rw [loose z zm] at e
      cases e
    · rw [n] at e
      cases e
  obtain ⟨mc, n1, n2⟩ := nl
  have env0 : Env0 P w K mg (hidT s₁.heap H) callerA [] s₁ H :=
    ⟨rfl, ⟨kin, names gn, ⟨mb, names bn, bb⟩, ⟨mc, names n1, n2⟩⟩, fun b o e => of_hidT e, Nat.le_of_eq (hidT_size _ _), trivial, fun b hb => (List.not_mem_nil hb).elim, ok, .of_eq gens⟩
  have tb : ∀ z ∈ cs, TabB (hidT s₁.heap H) mg z.1 z.2 := fun z zm => by
    obtain ⟨hd, tz⟩ := tabs z zm
    obtain ⟨og, eg, pg, ge, gd, _⟩ := gn
    refine ⟨?_, ?_, fun q => ?_⟩
    · obtain ⟨o, us, v1, v2, v3, v4, v5, v6, v7, at_o, cls, dat, w1, rest⟩ := hd
      refine ⟨o, us, v1, v2, v3, v4, v5, v6, v7, ofData at_o dat (fun _ _ q => nomatch q) (fun q => ?_), cls, dat, w1, rest⟩
      cases q
      simp at w1
    · obtain ⟨bm, ob, b1, b2, b3, b4, b5, b6⟩ := bmod
      refine ⟨bm, ob, b1, b2, fun q => ?_, fun q => ?_, ofData b3 b6 (fun _ _ q => nomatch q) (fun q => nomatch q), b4, b5, b6⟩
      · subst q
        rw [b3] at ge
        cases ge
        rw [b6] at gd
        cases gd
      · subst q
        rw [b3] at tz
        cases tz
        cases b6
    · rw [q, tz] at ge
      cases ge
      cases gd
  refine codeAny_mono ((F _ kin (names gn) tb).goes callerA [] s₁ H ⟨[.ref a], []⟩ [.ref a] [.ref a] _ _ rfl room env0 (bind s₁ (.ref a)) (.cons rfl .nil) (goal H gotT sql)) ?_
  intro res s' z
  match res, z with
  | .ok .next, z => exact z.elim
  | .ok .brk, z => exact z.elim
  | .ok .cont, z => exact z.elim
  | .ok (.ret u), ⟨v, H', os, bare, un, ok', rv, q⟩ =>
    have vt : v = V.bl true := q
    subst vt
    have ut : u = Value.bool true := rv
    subst ut
    have same : ∀ b o, b ∉ cs.map Prod.snd → s₁.heap.get? b = some o → s'.heap.get? b = some o := fun b o nm e => by
      rcases kind b with n | ⟨m, _⟩ | ⟨_, _, ob, xs, fz⟩
      · exact un.keep b o e n (fun m => (List.not_mem_nil m).elim) (by simp)
      · exact absurd m nm
      · have g1 := (ok b _ fz).1
        have g2 := (ok' b _ (un.frzs b ob _ fz)).1
        rw [e] at g1
        cases g1
        exact g2
    have grew : ∀ z ∈ cs, ∃ more : Array Value, s'.heap.get? z.2 = some (PySem.W.tabObj more) := fun z zm => by
      obtain ⟨more, e⟩ := un.tbls z.2 #[] (gotT z zm)
      exact ⟨_, ok' z.2 _ e⟩
    refine ⟨rfl, OldK.mk (fun b o e => ?_) (fun b o e => ?_), os, bare⟩
    · by_cases m : b ∈ cs.map Prod.snd
      · obtain ⟨z, zm, rfl⟩ := List.mem_map.mp m
        obtain ⟨more, g⟩ := grew z zm
        have e2 := (tabs z zm).2
        rw [e] at e2
        cases e2
        refine Or.inr (Or.inl ⟨((tabs z zm).1.tab e).isCodeTable, rfl, #[], more, rfl, ?_⟩)
        rw [Array.empty_append]
        exact g
      · exact Or.inl (same b o m e)
    · by_cases m : b ∈ cs.map Prod.snd
      · obtain ⟨z, zm, rfl⟩ := List.mem_map.mp m
        obtain ⟨more, g⟩ := grew z zm
        exact ⟨_, g⟩
      · exact ⟨o, same b o m e⟩
theorem loose_of {K : PySem.W.Frag} {h : Heap} {cs : List (Addr × Addr)} (X : K.In h) (no : PySem.W.noTabs K = true) (t : PySem.W.TabsAt cs h) : ∀ p ∈ cs, K.lookup p.2 = none := fun p m => by
  cases e : K.lookup p.2 with
  | none => rfl
  | some o =>
    have g := X _ _ e
    rw [(t p m).2] at g
    have q := List.all_eq_true.mp no _ (PySem.W.mem_of_lookupK e)
    rw [← Option.some.inj g] at q
    exact absurd (show false = true from q) Bool.false_ne_true
theorem walkT {l : PySem.W.OpenLaw} {k : Nat} {q : Program} {loose : List Str} {XP : (Str → Option Value) → Heap → Prop} {YP : World → Heap → Prop} {d : DefRec} {K : Params → PySem.W.Frag} {sp : List (Addr × Addr) → PySem.W.Frag → Sp} {x : Str}
    (hn : l.most = some 63) (hdf : d.params.defaults = []) (room : Room k callerA) (hY : ∀ (w : World) (h : Heap), YP w h → (K w.params).In h)
    (F : ∀ (w : World) (mg : Str → Option Value) (at_ : Addr) (top : Heap), YP w top → (K w.params).In top → top.Ns mainGlobals mg → mg d.name = some (.ref at_) →
      ∃ (fd : FuncData) (cs : List (Addr × Addr)), PySem.W.TabsAt cs top ∧ PySem.W.noTabs (K w.params) = true ∧ (∀ (s : Shared) (u : Value), BindsTo s fd ⟨[u], []⟩ [(x, u)]) ∧
        (∀ base : Heap, (K w.params).In base → base.Ns mainGlobals mg → (∀ p ∈ cs, TabB base mg p.1 p.2) → FnG l.prog w (K w.params) mg base k at_ fd [x] (sp cs (K w.params))))
    (goal : ∀ (K : PySem.W.Frag) (cs : List (Addr × Addr)) (H : Hp) (a : Addr) (ns : List Int), ns.length ≤ 63 → (∀ p ∈ cs, H p.2 = some (.tbl #[])) → SqL K H a (ns.map V.int) → sp cs K [.ref a] H (fun v _ => v = .bl true) fun _ _ _ => False) :
    PySem.W.WalkO q loose XP YP l.row.toRowW d [] (fun g args => PySem.call g args) := by
  refine Att.attach_call hn hdf ?_
  intro w _ _ mg mb fa o pm cd doc a _ ns top behind _ _ _ named script iv few gens
  obtain ⟨fd, cs, tabs, no, bind, made⟩ := F w mg fa _ behind (hY w _ behind) top.T.g named
  exact lawT (hY w _ behind) top.T.g top.T.b top.T.builtins top.T.nolimit gens tabs (loose_of (hY w _ behind) no tabs) top.T.bmain script iv (Nat.le_trans few (by decide)) room made bind fun H hT hS => goal _ cs H a ns few hT hS
/-- one table -/
theorem fin_mk {P : Program} {w : World} {K : PySem.W.Frag} {mg : Str → Option Value} {fa : Addr} {k : Nat} {x : Str} {h : Heap} {c A : Addr} {sp : List (Addr × Addr) → PySem.W.Frag → Sp}
    (made : ∃ fd : FuncData, (∀ (s : Shared) (u : Value), BindsTo s fd ⟨[u], []⟩ [(x, u)]) ∧ ∀ base : Heap, K.In base → base.Ns mainGlobals mg → (∀ p ∈ [(c, A)], TabB base mg p.1 p.2) → FnG P w K mg base k fa fd [x] (sp [(c, A)] K))
    (tab : h.get? A = some (PySem.W.tabObj #[])) (code : PySem.W.CodeHd h c A) (no : PySem.W.noTabs K = true) :
    ∃ (fd : FuncData) (cs : List (Addr × Addr)), PySem.W.TabsAt cs h ∧ PySem.W.noTabs K = true ∧ (∀ (s : Shared) (u : Value), BindsTo s fd ⟨[u], []⟩ [(x, u)]) ∧
      (∀ base : Heap, K.In base → base.Ns mainGlobals mg → (∀ p ∈ cs, TabB base mg p.1 p.2) → FnG P w K mg base k fa fd [x] (sp cs K)) := by
  obtain ⟨fd, a, b⟩ := made
  refine ⟨fd, [(c, A)], fun z m => ?_, no, a, b⟩
  rw [List.mem_singleton.mp m]
  exact ⟨code, tab⟩
end Pf

set_option Elab.async false
set_option linter.all false
set_option maxRecDepth 100000
/-! The text of the program and of the law. -/
namespace Pf
open PySem PySem.Spec PyProof.Rows L2
def topS (i : Nat) : Stmt := PySem.Challenge.pw_piecefacts_k02_two_range_sets.main.body.getD i (.Pass ⟨0, 0, 0, 0⟩)
structure Txt (mg : Str → Option Value) : Prop where
  b_abs : mg "abs" = none
  b_any : mg "any" = none
  b_int : mg "int" = none
  b_len : mg "len" = none
  b_list : mg "list" = none
  b_max : mg "max" = none
  b_min : mg "min" = none
  b_range : mg "range" = none
  b_repr : mg "repr" = none
  b_set : mg "set" = none
  b_sorted : mg "sorted" = none
  b_tuple : mg "tuple" = none
  b_zip : mg "zip" = none
end Pf

set_option Elab.async false
set_option linter.all false
set_option maxRecDepth 100000
/-! The program's range sets: both, united, gaps, either, without. -/
namespace Pf
open PySem PySem.Spec PyProof.Rows L2
local macro_rules | `(tactic| walk_at "rd") => `(tactic| simp only [tC1, tCK, tB, rNe, rEq, tChain, gTupV, gCons, gNil, Nat.sub_self, Nat.reduceSub, List.replicate_zero, List.replicate_succ, tTest, tIfS, tIf, tNot, tAnd, tOr, tAndV, tOrV, tNotV, tDrop, tNext, rIxV, rIxP,
  gSub, rSetL, tSl, tPart, tNoPart, rSl1, tAsg2, ipI, tDNewK, tBM, rAppend, wipe, rAllB, rAnyB, iTup, iList, RZ.iZipA, iRng1, iRng2, tYes, upd_same, at0, at1, at2, at20, at21, ixN30, ixN32, HO.lst.injEq, HO.tup.injEq, Nat.reduceAdd, tSeq, tAsg, tPar, tAug, tOp, tVar, tC, tCB, tCons, tNil, rI, rI0, rU, tUn, gName, tRet, tLst, tLstM, tTup, L2.start, List.map_cons, List.map_nil, List.length_cons, List.length_nil, List.replicate, List.cons_append,
  List.nil_append, List.set_cons_zero, List.set_cons_succ, List.getElem?_cons_zero, List.getElem?_cons_succ, Option.some.injEq, V.int.injEq, V.ref.injEq, V.bl.injEq, V.str.injEq, List.cons.injEq, exists_eq_left', exists_eq_left, exists_and_left, exists_and_right, and_true, true_and, reduceCtorEq, false_and,
  exists_false, or_false, false_or, exists_const, exists_eq, exists_eq', Bool.not_true, Bool.not_false, Bool.false_eq_true, if_true, if_false, ite_true, ite_false])
/-- at a stands a tuple of the pairs ps -/
def SetAt (H : Hp) (a : Addr) (ps : List (Int × Int)) : Prop := ∃ xs, H a = some (.tup xs) ∧ PrAll H xs ps
theorem SetAt.same {H H' : Hp} {a : Addr} {ps : List (Int × Int)} (h : SetAt H a ps) (s : Same H H') : SetAt H' a ps := by
  obtain ⟨xs, e, p⟩ := h
  exact ⟨xs, s _ _ e, p.tk (TK.of s)⟩
theorem PrAll.at {H : Hp} {xs : List V} {ps : List (Int × Int)} {i : Nat} (h : PrAll H xs ps) (hi : i < ps.length) : ∃ t, atI xs (i : Int) = some (.ref t) ∧ H t = some (.tup [.int ps[i].1, .int ps[i].2]) := by
  induction h generalizing i with
  | nil => exact absurd hi (Nat.not_lt_zero _)
  | @cons v q xs ps h1 _ ih =>
    cases i with
    | zero =>
      obtain ⟨t, e1, e2⟩ := h1
      exact ⟨t, atI_nat (j := 0) (by rw [e1]; rfl), e2⟩
    | succ i =>
      obtain ⟨t, e1, e2⟩ := ih (i := i) (by simpa using hi)
      refine ⟨t, ?_, e2⟩
      have hx : i < xs.length := by
        have := Paired.length ‹Paired (PrAt H) xs ps›
        have h2 : i < ps.length := by simpa using hi
        omega
      have e3 : atI xs (i : Int) = some xs[i] := atI_nat (List.getElem?_eq_getElem hx)
      rw [e3] at e1
      exact atI_nat (j := i + 1) (by rw [List.getElem?_cons_succ, List.getElem?_eq_getElem hx]; exact e1)
abbrev s_both : Stmt := topS 1
theorem sc_both : FnScope ["one", "other", "found", "k", "n", "low", "high"] ["one", "other"] (defScope s_both) := ⟨rfl, rfl, rfl, by decide +kernel, rfl, by decide +kernel, by decide +kernel⟩
abbrev s_either : Stmt := topS 2
theorem sc_either : FnScope ["one", "other"] ["one", "other"] (defScope s_either) := ⟨rfl, rfl, rfl, by decide +kernel, rfl, by decide +kernel, by decide +kernel⟩
abbrev s_without : Stmt := topS 3
theorem sc_without : FnScope ["one", "other"] ["one", "other"] (defScope s_without) := ⟨rfl, rfl, rfl, by decide +kernel, rfl, by decide +kernel, by decide +kernel⟩
abbrev s_united : Stmt := topS 4
theorem sc_united : FnScope ["pairs", "found", "low", "high", "next_low", "next_high"] ["pairs"] (defScope s_united) := ⟨rfl, rfl, rfl, by decide +kernel, rfl, by decide +kernel, by decide +kernel⟩
abbrev s_gaps : Stmt := topS 5
theorem sc_gaps : FnScope ["ranges", "low", "high", "inner", "starts", "ends", "pair", "start", "end"] ["ranges", "low", "high"] (defScope s_gaps) := ⟨rfl, rfl, rfl, by decide +kernel, rfl, by decide +kernel, by decide +kernel⟩
section
variable {base : Heap} {P : Program} {w : World} {mg : Str → Option Value} {K : PySem.W.Frag}
def sp_both : Sp := fun vs H Q _ => ∃ (a b : Addr) (ps qs : List (Int × Int)), vs = [.ref a, .ref b] ∧ SetAt H a ps ∧ SetAt H b qs ∧ ps.length ≤ 100000 ∧ qs.length ≤ 100000 ∧ ∀ (H' : Hp) (t : Addr), Same H H' → SetAt H' t (Rng.both ps qs) → Q (.ref t) H'
theorem both_drop {ps qs : List (Int × Int)} {k n : Nat} (hk : k < ps.length) (hn : n < qs.length) : Rng.both (ps.drop k) (qs.drop n) = Rng.cutTo ps[k] qs[n] ++ (if ps[k].2 < qs[n].2 then Rng.both (ps.drop (k + 1)) (qs.drop n) else Rng.both (ps.drop k) (qs.drop (n + 1))) := by
  rw [List.drop_eq_getElem_cons hk, List.drop_eq_getElem_cons hn, Rng.both]
theorem both_end {ps qs : List (Int × Int)} {k n : Nat} (h : ps.length ≤ k ∨ qs.length ≤ n) : Rng.both (ps.drop k) (qs.drop n) = [] := by
  rcases h with h | h
  · rw [List.drop_eq_nil_of_le h, Rng.both]
  · rw [List.drop_eq_nil_of_le h]
    cases ps.drop k with
    | nil => rw [Rng.both]
    | cons q r => rw [Rng.both]
theorem ifmax {i j : Int} : (if j > i then j else i) = max i j := by
  split <;> omega
theorem ifmin {i j : Int} : (if j < i then j else i) = min i j := by
  split <;> omega
def left2 (m n : Nat) : L2.St → Nat
  | [_, _, _, some (.int x), some (.int y), _, _] => (m - x).toNat + (n - y).toNat
  | _ => 0
theorem ok_both {f : Addr} {fd : FuncData} (F : Fun K "both" "both" s_both f fd) (T : Txt mg) : FnG P w K mg base 1 f fd ["one", "other"] sp_both := by
  refine okG F sc_both (fun vs H Q E h => ?_) (fun cdv A outer s H vs Q E hg hr h => ?_)
  · obtain ⟨a, b, ps, qs, rfl, _⟩ := h
    rfl
  · obtain ⟨a, b, ps, qs, rfl, ⟨xs, ea, pa⟩, ⟨ys, eb, pb⟩, la, lb, q⟩ := h
    refine ⟨_, (pss_cons (ps_set (i := 2) sc_both.nd rfl (Or.inl rfl) (pe_lst pa_nil))
        (pss_cons (ps_asg2 pe_int (pg_name (i := 3) sc_both.nd rfl (Or.inl rfl)) (pg_name (i := 4) sc_both.nd rfl (Or.inl rfl)))
        (pss_cons (ps_while PassesOwn.never (PW.pt (pw_and (pt_cmpR op_lt (pv 3) (pe_callB call_lenT (by rfl) T.b_len (by decide +kernel) (pa_cons (pv 0) pa_nil)) (nomark _)) (pw_and1 (pt_cmpR op_lt (pv 4) (pe_callB call_lenT (by rfl) T.b_len (by decide +kernel) (pa_cons (pv 1) pa_nil)) (nomark _))))) (pss_cons (ps_set (i := 5) sc_both.nd rfl (Or.inl rfl) (pe_callB (call_max2 rfl) (by rfl) T.b_max (by decide +kernel) (pa_cons (pe_ix ix_t (pe_ix ix_t (pv 0) (pv 3) (fun _ _ => rfl)) pe_int (fun _ _ => rfl)) (pa_cons (pe_ix ix_t (pe_ix ix_t (pv 1) (pv 4) (fun _ _ => rfl)) pe_int (fun _ _ => rfl)) pa_nil))))
        (pss_cons (ps_set (i := 6) sc_both.nd rfl (Or.inl rfl) (pe_callB (call_min2 rfl) (by rfl) T.b_min (by decide +kernel) (pa_cons (pe_ix ix_t (pe_ix ix_t (pv 0) (pv 3) (fun _ _ => rfl)) pe_int (fun _ _ => rfl)) (pa_cons (pe_ix ix_t (pe_ix ix_t (pv 1) (pv 4) (fun _ _ => rfl)) pe_int (fun _ _ => rfl)) pa_nil))))
        (pss_cons (ps_if (pt_cmpR op_le (pv 5) (pv 6) (nomark _)) (pss_one (ps_expr (pe_bm PySem.F.plainAttrs_list PySem.F.slot_list_append PySem.F.type_list_append mt_append (pv 2) (pa_cons (pe_tup (pa_cons (pv 5) (pa_cons (pv 6) pa_nil))) pa_nil)))) pss_nil)
        (pss_one (ps_if (pt_cmpR op_lt (pe_ix ix_t (pe_ix ix_t (pv 0) (pv 3) (fun _ _ => rfl)) pe_int (fun _ _ => rfl)) (pe_ix ix_t (pe_ix ix_t (pv 1) (pv 4) (fun _ _ => rfl)) pe_int (fun _ _ => rfl)) (nomark _)) (pss_one (ps_aug (i := 3) sc_both.nd rfl (Or.inl rfl) pe_int ip_add)) (pss_one (ps_aug (i := 4) sc_both.nd rfl (Or.inl rfl) pe_int ip_add))))))))
        (pss_one (ps_ret (pe_callTy call_tupleL (by rfl) T.b_tuple (by decide +kernel) (pa_cons (pv 2) pa_nil))))))), ?_⟩
    have xl := pa.len
    have yl := pb.len
    walk_at "rd"
    refine ⟨Nat.zero_le _, fun l nl => ?_⟩
    have s0 := new_same (o := HO.lst []) nl
    refine while_by (fun σ H' => ∃ (k n : Nat) (xf : List V) (rs : List (Int × Int)) (u v : Option V), σ = [some (.ref a), some (.ref b), some (.ref l), some (.int k), some (.int n), u, v] ∧ k ≤ ps.length ∧ n ≤ qs.length ∧ Same H H' ∧ H' l = some (.lst xf) ∧ PrAll H' xf rs ∧ rs.length ≤ k + n ∧ rs ++ Rng.both (ps.drop k) (qs.drop n) = Rng.both ps qs)
      (fun σ _ => left2 ps.length qs.length σ) ⟨0, 0, [], [], _, _, rfl, Nat.zero_le _, Nat.zero_le _, s0, upd_same, .nil, Nat.le_refl _, rfl⟩ ?_ ?_
    · rintro σ H1 ⟨k, n, xf, rs, u, v, rfl, hk, hn, s1, el, pr, hr2, eq⟩
      have ea1 := s1 _ _ ea
      have eb1 := s1 _ _ eb
      walk_at "rd"
      simp only [ea1, eb1, Option.some.injEq, HO.tup.injEq, exists_eq_left']
      have fin : (ps.length ≤ k ∨ qs.length ≤ n) → ∀ t, H1 t = none → Q (.ref t) (upd H1 t (.tup xf)) := fun h t nt => by
        rw [both_end h, List.append_nil] at eq
        rw [← eq] at q
        exact q _ t (s1.trans (new_same nt)) ⟨xf, upd_same, pr.tk (TK.of (new_same nt))⟩
      by_cases c1 : k < ps.length
      · rw [if_pos (decide_eq_true (by omega))]
        by_cases c2 : n < qs.length
        · rw [if_pos (decide_eq_true (by omega))]
          obtain ⟨ta, ia, ga⟩ := (pa.tk (TK.of s1)).at c1
          obtain ⟨tb, ib, gb⟩ := (pb.tk (TK.of s1)).at c2
          simp only [ia, ib, ga, gb, at20, at21, Option.some.injEq, V.ref.injEq, V.int.injEq, HO.tup.injEq, exists_eq_left']
          refine ⟨_, _, ⟨rfl, rfl⟩, _, _, ⟨rfl, rfl⟩, ?_⟩
          rw [ifmax, ifmin]
          have bd := both_drop c1 c2
          by_cases c3 : max ps[k].1 qs[n].1 ≤ min ps[k].2 qs[n].2
          · rw [if_pos (decide_eq_true c3)]
            refine ⟨Or.inl ⟨rfl, xf, SqL.of el⟩, by decide, fun T nT => ?_⟩
            have nlT : l ≠ T := ne_of_none el nT
            have sT := new_same (o := HO.tup [V.int (max ps[k].1 qs[n].1), V.int (min ps[k].2 qs[n].2)]) nT
            have lT := sT _ _ el
            have tB : TK H1 (upd (upd H1 T (HO.tup [V.int (max ps[k].1 qs[n].1), V.int (min ps[k].2 qs[n].2)])) l (HO.lst (xf ++ [V.ref T]))) := (TK.of sT).trans (TK.put lT)
            have xfl := pr.len
            refine ⟨xf, lT, Nat.lt_of_le_of_lt (show xf.length ≤ 200000 by omega) (by decide), ?_⟩
            have sHB : Same H (upd (upd H1 T (HO.tup [V.int (max ps[k].1 qs[n].1), V.int (min ps[k].2 qs[n].2)])) l (HO.lst (xf ++ [V.ref T]))) := fun c o e => by
              rw [upd_ne (ne_of_none e nl)]
              exact sT _ _ (s1 _ _ e)
            have lB : upd (upd H1 T (HO.tup [V.int (max ps[k].1 qs[n].1), V.int (min ps[k].2 qs[n].2)])) l (HO.lst (xf ++ [V.ref T])) l = some (.lst (xf ++ [V.ref T])) := upd_same
            have prB := (pr.tk tB).snoc (q := (max ps[k].1 qs[n].1, min ps[k].2 qs[n].2)) ⟨T, rfl, by rw [upd_ne nlT.symm, upd_same]⟩
            have eaB := tB _ _ ea1
            have ebB := tB _ _ eb1
            have gaB := tB _ _ ga
            have gbB := tB _ _ gb
            generalize upd (upd H1 T (HO.tup [V.int (max ps[k].1 qs[n].1), V.int (min ps[k].2 qs[n].2)])) l (HO.lst (xf ++ [V.ref T])) = HB at *
            simp only [eaB, ebB, gaB, gbB, ia, ib, at20, at21, Option.some.injEq, V.ref.injEq, V.int.injEq, HO.tup.injEq, exists_eq_left']
            have eqN : (rs ++ [(max ps[k].1 qs[n].1, min ps[k].2 qs[n].2)]) ++ (if ps[k].2 < qs[n].2 then Rng.both (ps.drop (k + 1)) (qs.drop n) else Rng.both (ps.drop k) (qs.drop (n + 1))) = Rng.both ps qs := by
              rw [← eq, bd, List.append_assoc]
              unfold Rng.cutTo
              rw [if_pos c3]
            have lenN : (rs ++ [(max ps[k].1 qs[n].1, min ps[k].2 qs[n].2)]).length ≤ k + n + 1 := by rw [List.length_append]; simp only [List.length_cons, List.length_nil]; omega
            by_cases c4 : ps[k].2 < qs[n].2
            · rw [if_pos c4] at eqN
              rw [if_pos (decide_eq_true c4)]
              refine ⟨⟨k + 1, n, ⟨rfl, rfl⟩, by omega, hn, sHB, _, prB, by omega, eqN⟩, ?_⟩
              show ((ps.length : Int) - ((k : Int) + 1)).toNat + ((qs.length : Int) - (n : Int)).toNat < ((ps.length : Int) - (k : Int)).toNat + ((qs.length : Int) - (n : Int)).toNat
              omega
            · rw [if_neg c4] at eqN
              rw [if_neg (fun z => c4 (of_decide_eq_true z))]
              refine ⟨⟨k, n + 1, ⟨rfl, rfl⟩, hk, by omega, sHB, _, prB, by omega, eqN⟩, ?_⟩
              show ((ps.length : Int) - (k : Int)).toNat + ((qs.length : Int) - ((n : Int) + 1)).toNat < ((ps.length : Int) - (k : Int)).toNat + ((qs.length : Int) - (n : Int)).toNat
              omega
          · rw [if_neg (fun z => c3 (of_decide_eq_true z))]
            have eqN : rs ++ (if ps[k].2 < qs[n].2 then Rng.both (ps.drop (k + 1)) (qs.drop n) else Rng.both (ps.drop k) (qs.drop (n + 1))) = Rng.both ps qs := by
              rw [← eq, bd]
              unfold Rng.cutTo
              rw [if_neg c3, List.nil_append]
            by_cases c4 : ps[k].2 < qs[n].2
            · rw [if_pos c4] at eqN
              rw [if_pos (decide_eq_true c4)]
              refine ⟨⟨k + 1, n, ⟨rfl, rfl⟩, by omega, hn, s1, xf, el, rs, pr, by omega, eqN⟩, ?_⟩
              show ((ps.length : Int) - ((k : Int) + 1)).toNat + ((qs.length : Int) - (n : Int)).toNat < ((ps.length : Int) - (k : Int)).toNat + ((qs.length : Int) - (n : Int)).toNat
              omega
            · rw [if_neg c4] at eqN
              rw [if_neg (fun z => c4 (of_decide_eq_true z))]
              refine ⟨⟨k, n + 1, ⟨rfl, rfl⟩, hk, by omega, s1, xf, el, rs, pr, by omega, eqN⟩, ?_⟩
              show ((ps.length : Int) - (k : Int)).toNat + ((qs.length : Int) - ((n : Int) + 1)).toNat < ((ps.length : Int) - (k : Int)).toNat + ((qs.length : Int) - (n : Int)).toNat
              omega
        · rw [if_neg (fun z => c2 (by have := of_decide_eq_true z; omega))]
          exact ⟨xf, el, fin (Or.inr (by omega))⟩
      · rw [if_neg (fun z => c1 (by have := of_decide_eq_true z; omega))]
        exact ⟨xf, el, fin (Or.inl (by omega))⟩
    · intro σ H Q Q' hq h
      obtain ⟨v, e1, x, e2, p1, y1, e3, e4, i, j, e5, e6, k, e7, r⟩ := h
      refine ⟨v, e1, x, e2, p1, y1, e3, e4, i, j, e5, e6, k, e7, ?_⟩
      cases k with
      | true =>
        obtain ⟨v, e1, x, e2, p1, y1, e3, e4, i, j, e5, e6, k, e7, r⟩ := r
        exact ⟨v, e1, x, e2, p1, y1, e3, e4, i, j, e5, e6, k, e7, hq _ _ r⟩
      | false => exact hq _ _ r
end
end Pf

set_option Elab.async false
set_option linter.all false
set_option maxRecDepth 100000
/-! The program's range sets: united. -/
namespace Pf
open PySem PySem.Spec PyProof.Rows L2
local macro_rules | `(tactic| walk_at "rd") => `(tactic| simp only [tC1, tCK, tB, rNe, rEq, tChain, gTupV, gCons, gNil, Nat.sub_self, Nat.reduceSub, List.replicate_zero, List.replicate_succ, tTest, tIfS, tIf, tNot, tAnd, tOr, tAndV, tOrV, tNotV, tDrop, tNext, rIxV, rIxP,
  gSub, rSetL, tSl, tPart, tNoPart, rSl1, tAsg2, ipI, tDNewK, tBM, rAppend, wipe, rAllB, rAnyB, iTup, iList, RZ.iZipA, iRng1, iRng2, tYes, upd_same, at0, at1, at2, at20, at21, ixN30, ixN32, HO.lst.injEq, HO.tup.injEq, Nat.reduceAdd, tSeq, tAsg, tPar, tAug, tOp, tVar, tC, tCB, tCons, tNil, rI, rI0, rU, tUn, gName, tRet, tLst, tLstM, tTup, L2.start, List.map_cons, List.map_nil, List.length_cons, List.length_nil, List.replicate, List.cons_append,
  List.nil_append, List.set_cons_zero, List.set_cons_succ, List.getElem?_cons_zero, List.getElem?_cons_succ, Option.some.injEq, V.int.injEq, V.ref.injEq, V.bl.injEq, V.str.injEq, List.cons.injEq, exists_eq_left', exists_eq_left, exists_and_left, exists_and_right, and_true, true_and, reduceCtorEq, false_and,
  exists_false, or_false, false_or, exists_const, exists_eq, exists_eq', Bool.not_true, Bool.not_false, Bool.false_eq_true, if_true, if_false, ite_true, ite_false])
theorem cut_tail (xs : List V) : cutV xs (some 1) none = xs.drop 1 := by
  have h1 : HT.sIx xs.length 0 (some 1) = min 1 xs.length := HT.sIx_nat xs.length 0 1
  have h2 : HT.sIx xs.length xs.length none = xs.length := HT.sIx_none ..
  unfold cutV
  rw [h1, h2]
  cases xs with
  | nil => rfl
  | cons y r =>
    rw [show min 1 (y :: r).length = 1 from Nat.min_eq_left (by simp)]
    exact List.take_of_length_le (by simp)
section
variable {base : Heap} {P : Program} {w : World} {mg : Str → Option Value} {K : PySem.W.Frag}
def sp_united : Sp := fun vs H Q _ => ∃ (a : Addr) (xs : List V) (ps : List (Int × Int)), vs = [.ref a] ∧ H a = some (.lst xs) ∧ PrAll H xs ps ∧ ps.length ≤ 100000 ∧ ∀ (H' : Hp) (t : Addr), Same H H' → SetAt H' t (Rng.united ps) → Q (.ref t) H'
theorem ok_united {f : Addr} {fd : FuncData} (F : Fun K "united" "united" s_united f fd) (T : Txt mg) : FnG P w K mg base 1 f fd ["pairs"] sp_united := by
  refine okG F sc_united (fun vs H Q E h => ?_) (fun cdv A outer s H vs Q E hg hr h => ?_)
  · obtain ⟨a, xs, ps, rfl, _⟩ := h
    rfl
  · obtain ⟨a, xs, ps, rfl, ea, pa, la, q⟩ := h
    refine ⟨_, (pss_cons (ps_if (pt_not (pt_truth (pv 0) (by intro _; rfl))) (pss_one (ps_ret (pe_tup pa_nil))) pss_nil)
        (pss_cons (ps_set (i := 1) sc_united.nd rfl (Or.inl rfl) (pe_lst pa_nil))
        (pss_cons (ps_asg (pe_ix ix_v (pv 0) pe_int (fun _ _ => rfl)) (pg_tupV (n := 2) rfl (pgs_cons (pg_name (i := 2) sc_united.nd rfl (Or.inl rfl)) (pgs_cons (pg_name (i := 3) sc_united.nd rfl (Or.inl rfl)) pgs_nil))))
        (pss_cons (ps_for PassesOwn.never rfl (pi_list (pe_slice sl_list (pv 0) (po_some pe_int) po_none)) (pg_tupV (n := 2) rfl (pgs_cons (pg_name (i := 4) sc_united.nd rfl (Or.inl rfl)) (pgs_cons (pg_name (i := 5) sc_united.nd rfl (Or.inl rfl)) pgs_nil))) (pss_one (ps_if (pt_cmpR op_gt (pv 4) (pe_op op_add (pv 3) pe_int) (nomark _)) (pss_cons (ps_expr (pe_bm PySem.F.plainAttrs_list PySem.F.slot_list_append PySem.F.type_list_append mt_append (pv 1) (pa_cons (pe_tup (pa_cons (pv 2) (pa_cons (pv 3) pa_nil))) pa_nil)))
        (pss_one (ps_par (i := 2) (j := 3) (by rfl) sc_united.nd rfl rfl (by decide) rfl rfl (pa_cons (pv 4) (pa_cons (pv 5) pa_nil)) (by rfl)))) (pss_one (ps_set (i := 3) sc_united.nd rfl (Or.inl rfl) (pe_callB (call_max2 rfl) (by rfl) T.b_max (by decide +kernel) (pa_cons (pv 3) (pa_cons (pv 5) pa_nil))))))))
        (pss_one (ps_ret (pe_tup (StX.pa_star (pv 1) (pa_cons (pe_tup (pa_cons (pv 2) (pa_cons (pv 3) pa_nil))) pa_nil))))))))), ?_⟩
    have xl := pa.len
    walk_at "rd"
    cases pa with
    | nil => exact ⟨false, .inl ⟨[], SqL.of ea, rfl⟩, iteT ⟨Nat.zero_le _, fun t nt => q _ t (new_same nt) ⟨[], upd_same, .nil⟩⟩⟩
    | @cons v q0 vs qs h0 pa2 =>
      obtain ⟨t0, rfl, e0⟩ := h0
      refine ⟨true, .inl ⟨_, SqL.of ea, rfl⟩, iteF ⟨Nat.zero_le _, fun l nl => ?_⟩⟩
      have sl := new_same (o := HO.lst []) nl
      refine ⟨_, sl _ _ ea, _, atI_nat (j := 0) rfl, t0, rfl, _, sl _ _ e0, rfl, _, _, rfl, _, _, rfl, rfl, ?_⟩
      refine ⟨.ref a, rfl, 1, rfl, a, _, rfl, SqL.of (sl _ _ ea), fun S nS => ?_⟩
      have sS := new_same (o := HO.lst (cutV (V.ref t0 :: vs) (some 1) none)) nS
      have eS : upd (upd H l (HO.lst [])) S (HO.lst (cutV (V.ref t0 :: vs) (some 1) none)) S = some (.lst vs) := by rw [upd_same, cut_tail]; rfl
      have lS := sS _ _ (show upd H l (HO.lst []) l = some (.lst []) from upd_same)
      have nlS : l ≠ S := ne_of_none upd_same nS
      have sHS := sl.trans sS
      generalize upd (upd H l (HO.lst [])) S (HO.lst (cutV (V.ref t0 :: vs) (some 1) none)) = H2 at *
      have qlen : qs.length ≤ 100000 := by simp only [List.length_cons] at la; omega
      have vlen := PrAll.len pa2
      refine ⟨S, rfl, ⟨_, SqL.of eS⟩, for_list (K := K) (xs := vs) (fun i σ H' => ∃ (lo hi : Int) (rs : List (Int × Int)) (xf : List V) (u z : Option V), σ = [some (.ref a), some (.ref l), some (.int lo), some (.int hi), u, z] ∧ Same H H' ∧ H' S = some (.lst vs) ∧ H' l = some (.lst xf) ∧ PrAll H' xf rs ∧ rs.length ≤ i ∧ rs ++ Rng.pour lo hi (qs.drop i) = Rng.pour q0.1 q0.2 qs)
        ⟨_, _, [], [], _, _, rfl, sHS, eS, lS, .nil, Nat.le_refl _, rfl⟩ (fun i σ H' _ ⟨_, _, _, _, _, _, _, _, e, _⟩ => SqL.of e) ?_ ?_⟩
      · rintro i x σ H3 hx ⟨lo, hi, rs, xf, u, z, rfl, s3, e3, l3, p3, n3, eq⟩
        have hi2 : i < vs.length := (List.getElem?_eq_some_iff.mp hx).1
        have hi3 : i < qs.length := by omega
        obtain ⟨t, it, gt⟩ := (PrAll.tk pa2 ((TK.of s3))).at hi3
        have ex : x = .ref t := by
          rw [atI_nat hx] at it
          exact Option.some.inj it
        subst ex
        have dr := List.drop_eq_getElem_cons hi3
        rw [dr] at eq
        walk_at "rd"
        simp only [gt, Option.some.injEq, HO.tup.injEq, exists_eq_left']
        refine ⟨rfl, _, _, rfl, _, _, rfl, rfl, _, rfl, ?_⟩
        have pd : Rng.pour lo hi (qs[i] :: qs.drop (i + 1)) = if qs[i].1 > hi + 1 then (lo, hi) :: Rng.pour qs[i].1 qs[i].2 (qs.drop (i + 1)) else Rng.pour lo (max hi qs[i].2) (qs.drop (i + 1)) := by rw [Rng.pour]
        rw [pd] at eq
        have xfl := PrAll.len p3
        by_cases c : hi + 1 < qs[i].1
        · rw [if_pos c] at eq
          rw [if_pos (decide_eq_true c)]
          refine ⟨Or.inl ⟨rfl, xf, SqL.of l3⟩, by decide, fun T nT => ?_⟩
          have sT := new_same (o := HO.tup [V.int lo, V.int hi]) nT
          have nlT : l ≠ T := ne_of_none l3 nT
          have nST : S ≠ T := ne_of_none e3 nT
          have tB : TK H3 (upd (upd H3 T (HO.tup [V.int lo, V.int hi])) l (HO.lst (xf ++ [V.ref T]))) := (TK.of sT).trans (TK.put (sT _ _ l3))
          have sB : Same H (upd (upd H3 T (HO.tup [V.int lo, V.int hi])) l (HO.lst (xf ++ [V.ref T]))) := fun d o e => by
            rw [upd_ne (ne_of_none e nl)]
            exact sT _ _ (s3 _ _ e)
          exact ⟨xf, sT _ _ l3, Nat.lt_of_le_of_lt (show xf.length ≤ 100000 by omega) (by decide), _, _, ⟨rfl, rfl⟩, _, _, ⟨rfl, rfl⟩, sB, by rw [upd_ne nlS.symm, upd_ne nST]; exact e3, rs ++ [(lo, hi)], (PrAll.tk p3 tB).snoc ⟨T, rfl, by rw [upd_ne nlT.symm, upd_same]⟩, by rw [List.length_append]; simp only [List.length_cons, List.length_nil]; omega, by rw [List.append_assoc]; exact eq⟩
        · rw [if_neg c] at eq
          rw [if_neg (fun g => c (of_decide_eq_true g))]
          exact ⟨_, _, ⟨rfl, rfl⟩, _, _, ⟨rfl, rfl⟩, s3, e3, rs, xf, l3, p3, by omega, by rw [ifmax]; exact eq⟩
      · rintro σ H3 ⟨lo, hi, rs, xf, u, z, rfl, s3, e3, l3, p3, n3, eq⟩
        rw [vlen, List.drop_length] at eq
        walk_at "rd"
        have xfl := PrAll.len p3
        refine ⟨.ref l, rfl, l, xf, rfl, .inr (SqL.of l3), _, rfl, _, rfl, by show 2 ≤ sizeLine; decide, fun T nT => ⟨?_, fun t nt => ?_⟩⟩
        · rw [List.length_append]
          simp only [List.length_cons, List.length_nil]
          exact Nat.le_trans (show _ ≤ 200000 by omega) (by decide)
        · have sT := new_same (o := HO.tup [V.int lo, V.int hi]) nT
          have st := new_same (o := HO.tup (xf ++ [V.ref T])) nt
          refine q _ t (s3.trans (sT.trans st)) ⟨xf ++ [V.ref T], upd_same, ?_⟩
          show PrAll _ _ (Rng.pour q0.1 q0.2 qs)
          rw [← eq]
          exact (PrAll.tk p3 (TK.of (sT.trans st))).snoc ⟨T, rfl, st _ _ upd_same⟩
end
end Pf

set_option Elab.async false
set_option linter.all false
set_option maxRecDepth 100000
/-! The program's range sets: gaps, without. -/
namespace Pf
open PySem PySem.Spec PyProof.Rows L2
local macro_rules | `(tactic| walk_at "rd") => `(tactic| simp only [tC1, tCK, tB, rNe, rEq, tChain, gTupV, gCons, gNil, Nat.sub_self, Nat.reduceSub, List.replicate_zero, List.replicate_succ, tTest, tIfS, tIf, tNot, tAnd, tOr, tAndV, tOrV, tNotV, tDrop, tNext, rIxV, rIxP,
  gSub, rSetL, tSl, tPart, tNoPart, rSl1, tAsg2, ipI, tDNewK, tBM, rAppend, wipe, rAllB, rAnyB, iTup, iList, RZ.iZipA, iRng1, iRng2, tYes, upd_same, at0, at1, at2, at20, at21, ixN30, ixN32, HO.lst.injEq, HO.tup.injEq, Nat.reduceAdd, tSeq, tAsg, tPar, tAug, tOp, tVar, tC, tCB, tCons, tNil, rI, rI0, rU, tUn, gName, tRet, tLst, tLstM, tTup, L2.start, List.map_cons, List.map_nil, List.length_cons, List.length_nil, List.replicate, List.cons_append,
  List.nil_append, List.set_cons_zero, List.set_cons_succ, List.getElem?_cons_zero, List.getElem?_cons_succ, Option.some.injEq, V.int.injEq, V.ref.injEq, V.bl.injEq, V.str.injEq, List.cons.injEq, exists_eq_left', exists_eq_left, exists_and_left, exists_and_right, and_true, true_and, reduceCtorEq, false_and,
  exists_false, or_false, false_or, exists_const, exists_eq, exists_eq', Bool.not_true, Bool.not_false, Bool.false_eq_true, if_true, if_false, ite_true, ite_false])
def startsOf (low : Int) (inner : List (Int × Int)) : List Int := low :: inner.map (fun q => q.2 + 1)
def endsOf (high : Int) (inner : List (Int × Int)) : List Int := inner.map (fun q => q.1 - 1) ++ [high]
theorem holes_zip (high : Int) : ∀ (inner : List (Int × Int)) (low : Int), ((startsOf low inner).zip (endsOf high inner)).filter (fun q => decide (q.1 ≤ q.2)) = Rng.holes low high inner
  | [], low => by
    show [(low, high)].filter _ = _
    unfold Rng.holes
    by_cases c : low ≤ high
    · rw [if_pos c]
      simp [c]
    · rw [if_neg c]
      simp [c]
  | q :: r, low => by
    have ih := holes_zip high r (q.2 + 1)
    show ((low, q.1 - 1) :: ((startsOf (q.2 + 1) r).zip (endsOf high r))).filter _ = _
    unfold Rng.holes
    rw [List.filter_cons, ih]
    by_cases c : low ≤ q.1 - 1
    · rw [if_pos c, if_pos (decide_eq_true c)]
      rfl
    · rw [if_neg c, if_neg (fun z => c (of_decide_eq_true z))]
      rfl
section
variable {base : Heap} {P : Program} {w : World} {mg : Str → Option Value} {K : PySem.W.Frag}
def sp_gaps : Sp := fun vs H Q _ => ∃ (a : Addr) (ps : List (Int × Int)) (low high : Int), vs = [.ref a, .int low, .int high] ∧ SetAt H a ps ∧ ps.length ≤ 50000 ∧ ∀ (H' : Hp) (t : Addr), Same H H' → SetAt H' t (Rng.holes low high (Rng.both ps [(low, high)])) → Q (.ref t) H'
theorem both_len : ∀ (x y : List (Int × Int)), (Rng.both x y).length ≤ x.length + y.length
  | [], y => by
    unfold Rng.both
    exact Nat.zero_le _
  | p :: r, [] => by
    unfold Rng.both
    exact Nat.zero_le _
  | p :: r, q :: s => by
    unfold Rng.both
    have hc : (Rng.cutTo p q).length ≤ 1 := by
      unfold Rng.cutTo
      split
      · exact Nat.le_refl _
      · exact Nat.zero_le _
    rw [List.length_append]
    split
    · have := both_len r (q :: s)
      simp only [List.length_cons] at this ⊢
      omega
    · have := both_len (p :: r) s
      simp only [List.length_cons] at this ⊢
      omega
termination_by x y => x.length + y.length
theorem ok_gaps {f : Addr} {fd : FuncData} (F : Fun K "gaps" "gaps" s_gaps f fd) (T : Txt mg) (C_both : Cal P w K mg base 1 "both" sp_both) : FnG P w K mg base 2 f fd ["ranges", "low", "high"] sp_gaps := by
  refine okG F sc_gaps (fun vs H Q E h => ?_) (fun cdv A outer s H vs Q E hg hr h => ?_)
  · obtain ⟨a, ps, low, high, rfl, _⟩ := h
    rfl
  · obtain ⟨a, ps, low, high, rfl, pa, la, q⟩ := h
    replace hr := And.intro hg hr
    refine ⟨_, (pss_cons (ps_set (i := 3) sc_gaps.nd rfl (Or.inl rfl) (pe_c C_both hr (by decide) (by rfl) (pa_cons (pv 0) (pa_cons (pe_tup (pa_cons (pe_tup (pa_cons (pv 1) (pa_cons (pv 2) pa_nil))) pa_nil)) pa_nil))))
        (pss_cons (ps_set (i := 4) sc_gaps.nd rfl (Or.inl rfl) (pe_op op_cat (pe_lst (pa_cons (pv 1) pa_nil)) (pe_lc (own := [("pair", 6)]) (g := gName 6) (tt := tYes) rfl sc_gaps.nd (pi_tup (pv 3)) (blkOk_by (own := [("pair", 6)]) (N := ["ranges", "low", "high", "inner", "starts", "ends", "pair", "start", "end"]) (sc := defScope s_gaps) (by decide +kernel)) (fun _ _ _ _ _ => (pg_name (i := 6) sc_gaps.nd rfl (Or.inl rfl))) (fun _ _ _ _ _ => pts_nil) (fun _ _ _ _ _ => (pe_op op_add (pe_ix ix_t (pv 6) pe_int (fun _ _ => rfl)) pe_int)))))
        (pss_cons (ps_set (i := 5) sc_gaps.nd rfl (Or.inl rfl) (pe_op op_cat (pe_lc (own := [("pair", 6)]) (g := gName 6) (tt := tYes) rfl sc_gaps.nd (pi_tup (pv 3)) (blkOk_by (own := [("pair", 6)]) (N := ["ranges", "low", "high", "inner", "starts", "ends", "pair", "start", "end"]) (sc := defScope s_gaps) (by decide +kernel)) (fun _ _ _ _ _ => (pg_name (i := 6) sc_gaps.nd rfl (Or.inl rfl))) (fun _ _ _ _ _ => pts_nil) (fun _ _ _ _ _ => (pe_op op_sub (pe_ix ix_t (pv 6) pe_int (fun _ _ => rfl)) pe_int))) (pe_lst (pa_cons (pv 2) pa_nil))))
        (pss_one (ps_ret (pe_callTy call_tupleL (by rfl) T.b_tuple (by decide +kernel) (pa_cons (pe_lc (own := [("start", 7), ("end", 8)]) (g := gTupV 2 (gCons (gName 7) (gCons (gName 8) gNil))) rfl sc_gaps.nd (pi_zip (by rfl) T.b_zip (pa_cons (pv 4) (pa_cons (pv 5) pa_nil))) (blkOk_by (own := [("start", 7), ("end", 8)]) (N := ["ranges", "low", "high", "inner", "starts", "ends", "pair", "start", "end"]) (sc := defScope s_gaps) (by decide +kernel)) (fun _ _ _ _ _ => (pg_tupV (n := 2) rfl (pgs_cons (pg_name (i := 7) sc_gaps.nd rfl (Or.inl rfl)) (pgs_cons (pg_name (i := 8) sc_gaps.nd rfl (Or.inl rfl)) pgs_nil)))) (fun _ _ _ _ _ => pts_one (pt_cmpR op_le (pv 7) (pv 8) (nomark _))) (fun _ _ _ _ _ => (pe_tup (pa_cons (pv 7) (pa_cons (pv 8) pa_nil))))) pa_nil))))))), ?_⟩
    walk_at "rd"
    refine ⟨by decide, fun A1 n1 => ⟨by decide, fun A2 n2 => ?_⟩⟩
    have s1 := new_same (o := HO.tup [V.int low, V.int high]) n1
    have s2 := new_same (o := HO.tup [V.ref A1]) n2
    have one : SetAt (upd (upd H A1 (HO.tup [V.int low, V.int high])) A2 (HO.tup [V.ref A1])) A2 [(low, high)] := ⟨_, upd_same, .cons ⟨A1, rfl, s2 _ _ upd_same⟩ .nil⟩
    have s12 := s1.trans s2
    generalize upd (upd H A1 (HO.tup [V.int low, V.int high])) A2 (HO.tup [V.ref A1]) = H2 at *
    have rl := both_len ps [(low, high)]
    refine ⟨a, A2, ps, [(low, high)], rfl, pa.same s12, one, by omega, by show 1 ≤ 100000; decide, fun H3 t s3 ⟨xi, ei, pi⟩ => ⟨by decide, fun B nB => ?_⟩⟩
    simp only [List.length_cons, List.length_nil] at rl
    have q' := q
    generalize Rng.both ps [(low, high)] = rs at *
    have sB := new_same (o := HO.lst [V.int low]) nB
    have eB : upd H3 B (HO.lst [V.int low]) B = some (HO.lst [V.int low]) := upd_same
    generalize upd H3 B (HO.lst [V.int low]) = H4 at *
    have il := PrAll.len pi
    have big : (60000 : Nat) ≤ sizeLine := by decide
    have ei4 := sB _ _ ei
    have pi4 := PrAll.tk pi (TK.of sB)
    have s14 := s12.trans (s3.trans sB)
    refine ⟨.ref t, rfl, t, rfl, ⟨xi, SqT.of ei4⟩, lcMap (walk_tup (xs := xi)) ((rs.map (fun q => q.2 + 1)).map V.int) (by simp [il]) (by omega) (fun H5 s5 => s5.seqT (SqT.of ei4)) (fun i x H5 H6 y R ho s5 hy kk => ?_) (fun H5 D1 hD1 s5 hL1 => ?_)⟩
    · obtain ⟨rfl, hx⟩ := hy
      have hi : i < rs.length := by
        have := (List.getElem?_eq_some_iff.mp hx).1
        omega
      obtain ⟨u, iu, gu⟩ := (PrAll.tk pi4 (TK.of s5)).at hi
      have ex : x = .ref u := by
        rw [atI_nat hx] at iu
        exact Option.some.inj iu
      subst ex
      have ey : y = .int (rs[i].2 + 1) := by
        rw [List.getElem?_map, List.getElem?_map, List.getElem?_eq_getElem hi] at ho
        exact (Option.some.inj ho).symm
      subst ey
      refine ⟨rfl, ?_⟩
      walk_at "rd"
      simp only [gu, at20, at21, Option.some.injEq, HO.tup.injEq, exists_eq_left']
      exact ⟨_, rfl, kk _ (Same.refl _)⟩
    · refine ⟨B, D1, _, _, rfl, rfl, s5 _ _ eB, hL1, by simp; omega, fun C1 nC1 => ?_⟩
      have sC1 := new_same (o := HO.lst ([V.int low] ++ (rs.map (fun q => q.2 + 1)).map V.int)) nC1
      have eC1 : upd H5 C1 (HO.lst ([V.int low] ++ (rs.map (fun q => q.2 + 1)).map V.int)) C1 = some (HO.lst ((startsOf low rs).map V.int)) := upd_same
      generalize upd H5 C1 (HO.lst ([V.int low] ++ (rs.map (fun q => q.2 + 1)).map V.int)) = H6 at *
      have s16 := s14.trans (s5.trans sC1)
      have ei6 := sC1 _ _ (s5 _ _ ei4)
      have pi6 := PrAll.tk pi4 (TK.of (s5.trans sC1))
      clear s5 sC1 hL1
      refine ⟨.ref t, rfl, t, rfl, ⟨xi, SqT.of ei6⟩, lcMap (walk_tup (xs := xi)) ((rs.map (fun q => q.1 - 1)).map V.int) (by simp [il]) (by omega) (fun H7 s7 => s7.seqT (SqT.of ei6)) (fun i x H7 H8 y R ho s7 hy kk => ?_) (fun H7 D2 hD2 s7 hL2 => ⟨by decide, fun E1 nE1 => ?_⟩)⟩
      · obtain ⟨rfl, hx⟩ := hy
        have hi : i < rs.length := by
          have := (List.getElem?_eq_some_iff.mp hx).1
          omega
        obtain ⟨u, iu, gu⟩ := (PrAll.tk pi6 (TK.of s7)).at hi
        have ex : x = .ref u := by
          rw [atI_nat hx] at iu
          exact Option.some.inj iu
        subst ex
        have ey : y = .int (rs[i].1 - 1) := by
          rw [List.getElem?_map, List.getElem?_map, List.getElem?_eq_getElem hi] at ho
          exact (Option.some.inj ho).symm
        subst ey
        refine ⟨rfl, ?_⟩
        walk_at "rd"
        simp only [gu, at20, at21, Option.some.injEq, HO.tup.injEq, exists_eq_left']
        exact ⟨_, rfl, kk _ (Same.refl _)⟩
      · have sE1 := new_same (o := HO.lst [V.int high]) nE1
        refine ⟨D2, E1, _, _, rfl, rfl, sE1 _ _ hL2, upd_same, by simp; omega, fun C2 nC2 => ?_⟩
        have sC2 := new_same (o := HO.lst ((rs.map (fun q => q.1 - 1)).map V.int ++ [V.int high])) nC2
        have eC2 : upd (upd H7 E1 (HO.lst [V.int high])) C2 (HO.lst ((rs.map (fun q => q.1 - 1)).map V.int ++ [V.int high])) C2 = some (HO.lst ((endsOf high rs).map V.int)) := by
          rw [upd_same]
          unfold endsOf
          rw [List.map_append]
          rfl
        have s7C := s7.trans (sE1.trans sC2)
        generalize upd (upd H7 E1 (HO.lst [V.int high])) C2 (HO.lst ((rs.map (fun q => q.1 - 1)).map V.int ++ [V.int high])) = H8 at *
        have eC18 := s7C _ _ eC1
        have s18 := s16.trans s7C
        refine ⟨.ref C1, rfl, .ref C2, rfl, C1, C2, _, _, rfl, SqL.of eC18, SqL.of eC2, fun D3 nD3 => lc_it (walk_zip rfl) (fun i H' => ∃ (xf : List V) (os : List (Int × Int)), Same H8 H' ∧ H' D3 = some (.lst xf) ∧ PrAll H' xf os ∧ os = (((startsOf low rs).zip (endsOf high rs)).take i).filter (fun q => decide (q.1 ≤ q.2)))
          ⟨[], [], new_same nD3, upd_same, .nil, rfl⟩ (fun i H' _ ⟨_, _, ss, _, _, _⟩ => ⟨SqL.of (ss _ _ eC18), SqL.of (ss _ _ eC2)⟩) ?_ ?_⟩
        · rintro i x H9 H10 hi ⟨xf, os, ss, ef, pf, eo⟩ ⟨T, x1, x2, rfl, nT, rfl, g1, g2⟩
          have pick : ∀ {l : List Int} {y : V}, (l.map V.int)[i]? = some y → ∃ n, l[i]? = some n ∧ y = .int n := fun {l y} h => by
            rw [List.getElem?_map] at h
            cases e : l[i]? with
            | none => rw [e] at h; cases h
            | some n => rw [e] at h; exact ⟨n, rfl, (Option.some.inj h).symm⟩
          obtain ⟨sv, hs1, rfl⟩ := pick g1
          obtain ⟨ev, he1, rfl⟩ := pick g2
          have zz : ((startsOf low rs).zip (endsOf high rs))[i]? = some (sv, ev) := List.getElem?_zip_eq_some.mpr ⟨hs1, he1⟩
          have tk1 : ((startsOf low rs).zip (endsOf high rs)).take (i + 1) = ((startsOf low rs).zip (endsOf high rs)).take i ++ [(sv, ev)] := by
            rw [List.take_add_one, zz]
            rfl
          have sT := new_same (o := HO.tup [V.int sv, V.int ev]) nT
          have xfl : xf.length ≤ 60000 := by
            rw [PrAll.len pf, eo]
            refine Nat.le_trans (List.length_filter_le _ _) ?_
            rw [List.length_take, List.length_zip]
            unfold startsOf
            simp only [List.length_cons, List.length_map]
            omega
          refine ⟨T, _, rfl, upd_same, rfl, _, _, rfl, _, _, rfl, rfl, rfl, ?_⟩
          walk_at "rd"
          by_cases c : sv ≤ ev
          · rw [if_pos (decide_eq_true c)]
            refine ⟨by decide, fun U nU => ?_⟩
            have sU := new_same (o := HO.tup [V.int sv, V.int ev]) nU
            have efU := sU _ _ (sT _ _ ef)
            have nDU : D3 ≠ U := ne_of_none (sT _ _ ef) nU
            have tkB : TK H9 (upd (upd (upd H9 T (HO.tup [V.int sv, V.int ev])) U (HO.tup [V.int sv, V.int ev])) D3 (HO.lst (xf ++ [V.ref U]))) := (TK.of (sT.trans sU)).trans (TK.put efU)
            refine ⟨xf, efU, Nat.lt_of_le_of_lt xfl (by decide), fun d o e => ?_, os ++ [(sv, ev)], (PrAll.tk pf tkB).snoc ⟨U, rfl, by rw [upd_ne nDU.symm, upd_same]⟩, ?_⟩
            · rw [upd_ne (ne_of_none e nD3)]
              exact sU _ _ (sT _ _ (ss _ _ e))
            · rw [tk1, List.filter_append, ← eo]
              simp [c]
          · rw [if_neg (fun g => c (of_decide_eq_true g))]
            refine ⟨ss.trans sT, xf, sT _ _ ef, os, PrAll.tk pf (TK.of sT), ?_⟩
            rw [tk1, List.filter_append, ← eo]
            simp [c]
        · rintro H9 ⟨xf, os, ss, ef, pf, eo⟩
          refine ⟨D3, rfl, xf, ef, fun l nl => q _ l (s18.trans (ss.trans (new_same nl))) ⟨xf, upd_same, ?_⟩⟩
          have eo2 : os = Rng.holes low high rs := by
            rw [eo, ← holes_zip high rs low, List.take_of_length_le (by rw [List.length_zip, List.length_map, List.length_map]; exact Nat.le_refl _)]
          rw [← eo2]
          exact PrAll.tk pf (TK.of (new_same nl))
end
end Pf

set_option Elab.async false
set_option linter.all false
set_option maxRecDepth 100000
/-! The program's range sets: without; either: the sorted sum. -/
namespace Pf
open PySem PySem.Spec PyProof.Rows L2
local macro_rules | `(tactic| walk_at "rd") => `(tactic| simp only [tC1, tCK, tB, rNe, rEq, tChain, gTupV, gCons, gNil, Nat.sub_self, Nat.reduceSub, List.replicate_zero, List.replicate_succ, tTest, tIfS, tIf, tNot, tAnd, tOr, tAndV, tOrV, tNotV, tDrop, tNext, rIxV, rIxP,
  gSub, rSetL, tSl, tPart, tNoPart, rSl1, tAsg2, ipI, tDNewK, tBM, rAppend, wipe, rAllB, rAnyB, iTup, iList, RZ.iZipA, iRng1, iRng2, tYes, upd_same, at0, at1, at2, at20, at21, ixN30, ixN32, HO.lst.injEq, HO.tup.injEq, Nat.reduceAdd, tSeq, tAsg, tPar, tAug, tOp, tVar, tC, tCB, tCons, tNil, rI, rI0, rU, tUn, gName, tRet, tLst, tLstM, tTup, L2.start, List.map_cons, List.map_nil, List.length_cons, List.length_nil, List.replicate, List.cons_append,
  List.nil_append, List.set_cons_zero, List.set_cons_succ, List.getElem?_cons_zero, List.getElem?_cons_succ, Option.some.injEq, V.int.injEq, V.ref.injEq, V.bl.injEq, V.str.injEq, List.cons.injEq, exists_eq_left', exists_eq_left, exists_and_left, exists_and_right, and_true, true_and, reduceCtorEq, false_and,
  exists_false, or_false, false_or, exists_const, exists_eq, exists_eq', Bool.not_true, Bool.not_false, Bool.false_eq_true, if_true, if_false, ite_true, ite_false])
/-- the range set of the numbers in one and not in the other -/
def withoutM (ps qs : List (Int × Int)) : List (Int × Int) :=
  match ps.head?, ps.getLast? with
  | some q, some r => Rng.both ps (Rng.holes q.1 r.2 (Rng.both qs [(q.1, r.2)]))
  | _, _ => []
section
variable {base : Heap} {P : Program} {w : World} {mg : Str → Option Value} {K : PySem.W.Frag}
def sp_without : Sp := fun vs H Q _ => ∃ (a b : Addr) (ps qs : List (Int × Int)), vs = [.ref a, .ref b] ∧ SetAt H a ps ∧ SetAt H b qs ∧ ps.length ≤ 40000 ∧ qs.length ≤ 40000 ∧ ∀ (H' : Hp) (t : Addr), Same H H' → SetAt H' t (withoutM ps qs) → Q (.ref t) H'
theorem PrAll.lastAt {H : Hp} {xs : List V} {ps : List (Int × Int)} (h : PrAll H xs ps) (hi : ps.length - 1 < ps.length) : ∃ t, atI xs (-1) = some (.ref t) ∧ H t = some (.tup [.int ps[ps.length - 1].1, .int ps[ps.length - 1].2]) := by
  have len := PrAll.len h
  obtain ⟨t, e1, e2⟩ := h.at hi
  refine ⟨t, ?_, e2⟩
  have hx : ps.length - 1 < xs.length := by omega
  rw [atI_nat (List.getElem?_eq_getElem hx)] at e1
  have ea : atI xs (-1) = xs[ps.length - 1]? := by
    unfold atI ixN
    rw [if_neg (by decide), if_pos (by omega)]
    show xs[((-1 : Int) + xs.length).toNat]? = _
    congr 1
    omega
  rw [ea, List.getElem?_eq_getElem hx, e1]
theorem holes_len (high : Int) : ∀ (r : List (Int × Int)) (s : Int), (Rng.holes s high r).length ≤ r.length + 1
  | [], s => by
    unfold Rng.holes
    split
    · exact Nat.le_refl _
    · exact Nat.zero_le _
  | q :: r, s => by
    unfold Rng.holes
    have ih := holes_len high r (q.2 + 1)
    rw [List.length_append]
    split
    · simp only [List.length_cons, List.length_nil]
      omega
    · simp only [List.length_cons, List.length_nil]
      omega
theorem ok_without {f : Addr} {fd : FuncData} (F : Fun K "without" "without" s_without f fd) (T : Txt mg) (C_both : Cal P w K mg base 1 "both" sp_both) (C_gaps : Cal P w K mg base 2 "gaps" sp_gaps) : FnG P w K mg base 3 f fd ["one", "other"] sp_without := by
  refine okG F sc_without (fun vs H Q E h => ?_) (fun cdv A outer s H vs Q E hg hr h => ?_)
  · obtain ⟨a, b, ps, qs, rfl, _⟩ := h
    rfl
  · obtain ⟨a, b, ps, qs, rfl, ⟨xs, ea, pa⟩, pb, la, lb, q⟩ := h
    replace hr := And.intro hg hr
    refine ⟨_, (pss_cons (ps_if (pt_not (pt_truth (pv 0) (by intro _; rfl))) (pss_one (ps_ret (pe_tup pa_nil))) pss_nil)
        (pss_one (ps_ret (pe_c C_both hr (by decide) (by rfl) (pa_cons (pv 0) (pa_cons (pe_c C_gaps hr (by decide) (by rfl) (pa_cons (pv 1) (pa_cons (pe_ix ix_t (pe_ix ix_t (pv 0) pe_int (fun _ _ => rfl)) pe_int (fun _ _ => rfl)) (pa_cons (pe_ix ix_t (pe_ix ix_t (pv 0) (pe_un un_neg pe_int) (fun _ _ => rfl)) pe_int (fun _ _ => rfl)) pa_nil)))) pa_nil)))))), ?_⟩
    walk_at "rd"
    cases pa with
    | nil => exact ⟨false, .inr (.inl ⟨[], SqT.of ea, rfl⟩), iteT ⟨Nat.zero_le _, fun t nt => q _ t (new_same nt) ⟨[], upd_same, .nil⟩⟩⟩
    | @cons v q0 vs qs0 h0 pa2 =>
      have pa : PrAll H (v :: vs) (q0 :: qs0) := .cons h0 pa2
      obtain ⟨t0, e1, e0⟩ := h0
      have hi : (q0 :: qs0).length - 1 < (q0 :: qs0).length := by simp
      obtain ⟨t1, e3, e4⟩ := pa.lastAt hi
      have ew : withoutM (q0 :: qs0) qs = Rng.both (q0 :: qs0) (Rng.holes q0.1 (q0 :: qs0)[(q0 :: qs0).length - 1].2 (Rng.both qs [(q0.1, (q0 :: qs0)[(q0 :: qs0).length - 1].2)])) := by
        unfold withoutM
        rw [List.getLast?_eq_getElem?, List.getElem?_eq_getElem hi]
        rfl
      rw [ew] at q
      generalize (q0 :: qs0)[(q0 :: qs0).length - 1] = qz at *
      refine ⟨true, .inr (.inl ⟨_, SqT.of ea, rfl⟩), iteF ⟨_, ea, _, atI_nat (j := 0) rfl, t0, e1, _, e0, _, at20, _, ea, _, e3, t1, rfl, _, e4, _, at21, b, qs, _, _, rfl, pb, by omega, fun H1 t s1 st => ?_⟩⟩
      have l1 := holes_len qz.2 (Rng.both qs [(q0.1, qz.2)]) q0.1
      have l2 := both_len qs [(q0.1, qz.2)]
      simp only [List.length_cons, List.length_nil] at l2
      exact ⟨a, t, _, _, rfl, ⟨_, s1 _ _ ea, PrAll.tk pa (TK.of s1)⟩, st, by omega, by omega, fun H2 u s2 su => q H2 u (s1.trans s2) su⟩
end
end Pf

set_option Elab.async false
set_option linter.all false
set_option maxRecDepth 100000
/-! The program's range sets: either; pairs sorted. -/
namespace Pf
open PySem PySem.Spec PyProof.Rows L2
local macro_rules | `(tactic| walk_at "rd") => `(tactic| simp only [tC1, tCK, tB, rNe, rEq, tChain, gTupV, gCons, gNil, Nat.sub_self, Nat.reduceSub, List.replicate_zero, List.replicate_succ, tTest, tIfS, tIf, tNot, tAnd, tOr, tAndV, tOrV, tNotV, tDrop, tNext, rIxV, rIxP,
  gSub, rSetL, tSl, tPart, tNoPart, rSl1, tAsg2, ipI, tDNewK, tBM, rAppend, wipe, rAllB, rAnyB, iTup, iList, RZ.iZipA, iRng1, iRng2, tYes, upd_same, at0, at1, at2, at20, at21, ixN30, ixN32, HO.lst.injEq, HO.tup.injEq, Nat.reduceAdd, tSeq, tAsg, tPar, tAug, tOp, tVar, tC, tCB, tCons, tNil, rI, rI0, rU, tUn, gName, tRet, tLst, tLstM, tTup, L2.start, List.map_cons, List.map_nil, List.length_cons, List.length_nil, List.replicate, List.cons_append,
  List.nil_append, List.set_cons_zero, List.set_cons_succ, List.getElem?_cons_zero, List.getElem?_cons_succ, Option.some.injEq, V.int.injEq, V.ref.injEq, V.bl.injEq, V.str.injEq, List.cons.injEq, exists_eq_left', exists_eq_left, exists_and_left, exists_and_right, and_true, true_and, reduceCtorEq, false_and,
  exists_false, or_false, false_or, exists_const, exists_eq, exists_eq', Bool.not_true, Bool.not_false, Bool.false_eq_true, if_true, if_false, ite_true, ite_false])
/-- the two numbers of a pair -/
def kV (H : Hp) : V → Int × Int
  | .ref t => match H t with
    | some (.tup [.int a, .int b]) => (a, b)
    | _ => (0, 0)
  | _ => (0, 0)
theorem PrAt.kV {H : Hp} {v : V} {q : Int × Int} (h : PrAt H v q) : kV H v = q := by
  obtain ⟨t, rfl, e⟩ := h
  unfold Pf.kV
  simp only [e]
theorem PrAll.kV {H : Hp} : ∀ {xs : List V} {ps : List (Int × Int)}, PrAll H xs ps → xs.map (kV H) = ps
  | _, _, .nil => rfl
  | _, _, .cons h t => by rw [List.map_cons, PrAt.kV h, PrAll.kV t]
theorem PrAll.mem {H : Hp} : ∀ {xs : List V} {ps : List (Int × Int)}, PrAll H xs ps → ∀ x ∈ xs, PrAt H x (Pf.kV H x)
  | _, _, .nil => fun _ z => (List.not_mem_nil z).elim
  | _, _, .cons h t => fun x z => by
    rcases List.mem_cons.mp z with e | z
    · rw [e, PrAt.kV h]
      exact h
    · exact PrAll.mem t x z
theorem PrAll.of {H : Hp} : ∀ {xs : List V}, (∀ x ∈ xs, PrAt H x (Pf.kV H x)) → PrAll H xs (xs.map (Pf.kV H))
  | [], _ => .nil
  | x :: xs, h => .cons (h x List.mem_cons_self) (PrAll.of fun y z => h y (List.mem_cons_of_mem _ z))
theorem PrAll.app {H : Hp} : ∀ {xs : List V} {ps : List (Int × Int)} {ys : List V} {qs : List (Int × Int)}, PrAll H xs ps → PrAll H ys qs → PrAll H (xs ++ ys) (ps ++ qs)
  | _, _, _, _, .nil, k => k
  | _, _, _, _, .cons h t, k => .cons h (PrAll.app t k)
theorem asc_of {rs : List (Int × Int)} (h : rs.Pairwise fun p q => p.1 ≤ q.1) (o : ∀ q ∈ rs, q.1 ≤ q.2) : ∃ j, Rng.Asc j rs := by
  have go : ∀ (l : List (Int × Int)) (j : Int), (l.Pairwise fun p q => p.1 ≤ q.1) → (∀ q ∈ l, j ≤ q.1) → (∀ q ∈ l, q.1 ≤ q.2) → Rng.Asc j l := by
    intro l
    induction l with
    | nil => exact fun _ _ _ _ => trivial
    | cons q r ih =>
      intro j hp hj ho
      obtain ⟨h1, h2⟩ := List.pairwise_cons.mp hp
      exact ⟨hj q List.mem_cons_self, ho q List.mem_cons_self, ih q.1 h2 h1 fun z m => ho z (List.mem_cons_of_mem _ m)⟩
  cases rs with
  | nil => exact ⟨0, trivial⟩
  | cons q r =>
    obtain ⟨h1, h2⟩ := List.pairwise_cons.mp h
    exact ⟨q.1, Int.le_refl _, o q List.mem_cons_self, go r q.1 h2 h1 fun z m => o z (List.mem_cons_of_mem _ m)⟩
theorem in_perm {rs ps : List (Int × Int)} (h : rs.Perm ps) (n : Int) : Rng.In n rs ↔ Rng.In n ps :=
  ⟨fun ⟨q, m, z⟩ => ⟨q, h.mem_iff.mp m, z⟩, fun ⟨q, m, z⟩ => ⟨q, h.mem_iff.mpr m, z⟩⟩
/-- pairs sorted: what comes of them -/
theorem sorted_prs {H : Hp} {xs ys : List V} {ps : List (Int × Int)} (h : PrAll H xs ps) (s : SrtO.Srtd (ltP (kV H)) ys) (b : SrtO.Stb (ltP (kV H)) ys xs) (o : ∀ q ∈ ps, q.1 ≤ q.2) :
    ∃ rs, PrAll H ys rs ∧ rs.Perm ps ∧ (rs.Pairwise fun p q => p.1 ≤ q.1) ∧ ∃ j, Rng.Asc j rs := by
  have pm : (ys.map (kV H)).Perm ps := by
    have := b.perm.map (kV H)
    rw [h.kV] at this
    exact this
  have pw : (ys.map (kV H)).Pairwise fun p q => p.1 ≤ q.1 := by
    rw [List.pairwise_map]
    refine List.Pairwise.imp (fun {x y} z => ?_) s
    have z' : SrtO.lexB (kV H y) (kV H x) = false := z
    have := SrtO.lexB_no.mp z'
    omega
  exact ⟨_, PrAll.of fun y m => h.mem y (b.perm.mem_iff.mp m), pm, pw, asc_of pw fun q m => o q (pm.mem_iff.mp m)⟩
theorem pour_len : ∀ (r : List (Int × Int)) (l h : Int), (Rng.pour l h r).length ≤ r.length + 1
  | [], _, _ => by
    unfold Rng.pour
    exact Nat.le_refl _
  | q :: r, l, h => by
    unfold Rng.pour
    split
    · have := pour_len r q.1 q.2
      simp only [List.length_cons]
      omega
    · have := pour_len r l (max h q.2)
      simp only [List.length_cons]
      omega
theorem united_len (ps : List (Int × Int)) : (Rng.united ps).length ≤ ps.length := by
  cases ps with
  | nil => exact Nat.le_refl _
  | cons q r => exact pour_len r q.1 q.2
section
variable {base : Heap} {P : Program} {w : World} {mg : Str → Option Value} {K : PySem.W.Frag}
def sp_either : Sp := fun vs H Q _ => ∃ (a b : Addr) (ps qs : List (Int × Int)), vs = [.ref a, .ref b] ∧ SetAt H a ps ∧ SetAt H b qs ∧ ps.length ≤ 40000 ∧ qs.length ≤ 40000 ∧ (∀ q ∈ ps, q.1 ≤ q.2) ∧ (∀ q ∈ qs, q.1 ≤ q.2) ∧
  ∀ (H' : Hp) (t : Addr) (rs : List (Int × Int)), Same H H' → SetAt H' t rs → Rng.Rg rs → (∀ n, Rng.In n rs ↔ Rng.In n ps ∨ Rng.In n qs) → rs.length ≤ ps.length + qs.length → Q (.ref t) H'
theorem ok_either {f : Addr} {fd : FuncData} (F : Fun K "either" "either" s_either f fd) (T : Txt mg) (C_united : Cal P w K mg base 1 "united" sp_united) : FnG P w K mg base 2 f fd ["one", "other"] sp_either := by
  refine okG F sc_either (fun vs H Q E h => ?_) (fun cdv A outer s H vs Q E hg hr h => ?_)
  · obtain ⟨a, b, ps, qs, rfl, _⟩ := h
    rfl
  · obtain ⟨a, b, ps, qs, rfl, ⟨xs, ea, pa⟩, ⟨ys, eb, pb⟩, la, lb, oa, ob, q⟩ := h
    replace hr := And.intro hg hr
    refine ⟨_, (pss_one (ps_ret (pe_c C_united hr (by decide) (by rfl) (pa_cons (pe_callB cr_sortTP (by rfl) T.b_sorted (by decide +kernel) (pa_cons (pe_op op_catA (pv 0) (pv 1)) pa_nil)) pa_nil)))), ?_⟩
    have xl := pa.len
    have yl := pb.len
    have big : (100000 : Nat) ≤ sizeLine := by decide
    -- behind the sum
    have fin : ∀ (H1 : Hp) (u : Addr) (zs : List V), Same H H1 → H1 u = some (.tup zs) → PrAll H1 zs (ps ++ qs) → rSortTP K [.ref u] H1 (fun v H2 => sp_united [v] H2 Q noErr) := by
      intro H1 u zs s1 eu pz
      refine ⟨u, zs, kV H1, rfl, SqT.of eu, fun x m => ?_, fun os l so sb nl => ?_⟩
      · obtain ⟨t, e1, e2⟩ := pz.mem x m
        exact ⟨t, e1, e2⟩
      · obtain ⟨rs, pr, pm, _, j, asc⟩ := sorted_prs pz so sb fun z m => (List.mem_append.mp m).elim (oa z) (ob z)
        have s2 := new_same (o := HO.lst os) nl
        obtain ⟨g1, g2⟩ := Rng.united_spec asc
        have rl : rs.length = ps.length + qs.length := by rw [pm.length_eq, List.length_append]
        refine ⟨l, os, rs, rfl, upd_same, PrAll.tk pr (TK.of s2), by omega, fun H3 t s3 st => q H3 t _ (s1.trans (s2.trans s3)) st g1 (fun n => ?_) (by have := united_len rs; omega)⟩
        rw [g2, in_perm pm, Rng.In.app]
    walk_at "rd"
    refine ⟨a, b, xs, ys, rfl, rfl, SqT.of ea, SqT.of eb, by omega, fun e => ?_, fun e1 e2 => ?_, fun e1 e2 p np => ?_⟩
    · subst e
      cases pa
      exact fin H b ys (Same.refl H) eb pb
    · subst e2
      cases pb
      exact fin H a xs (Same.refl H) ea (by rw [List.append_nil]; exact pa)
    · have s1 := new_same (o := HO.tup (xs ++ ys)) np
      exact fin _ p _ s1 upd_same (PrAll.tk (pa.app pb) (TK.of s1))
end
end Pf

set_option Elab.async false
set_option linter.all false
set_option maxRecDepth 100000
/-! The law's own draws. -/
namespace Pf
open PySem PySem.Spec PyProof.Rows L2
local macro_rules | `(tactic| walk_at "rd") => `(tactic| simp only [tC1, tCK, tB, rNe, rEq, tChain, gTupV, gCons, gNil, Nat.sub_self, Nat.reduceSub, List.replicate_zero, List.replicate_succ, tTest, tIfS, tIf, tNot, tAnd, tOr, tAndV, tOrV, tNotV, tDrop, tNext, rIxV, rIxP,
  gSub, rSetL, tSl, tPart, tNoPart, rSl1, tAsg2, ipI, tDNewK, tBM, rAppend, wipe, rAllB, rAnyB, iTup, iList, RZ.iZipA, iRng1, iRng2, tYes, upd_same, at0, at1, at2, at20, at21, ixN30, ixN32, HO.lst.injEq, HO.tup.injEq, Nat.reduceAdd, tSeq, tAsg, tPar, tAug, tOp, tVar, tC, tCB, tCons, tNil, rI, rI0, rU, tUn, gName, tRet, tLst, tLstM, tTup, L2.start, List.map_cons, List.map_nil, List.length_cons, List.length_nil, List.replicate, List.cons_append,
  List.nil_append, List.set_cons_zero, List.set_cons_succ, List.getElem?_cons_zero, List.getElem?_cons_succ, Option.some.injEq, V.int.injEq, V.ref.injEq, V.bl.injEq, V.str.injEq, List.cons.injEq, exists_eq_left', exists_eq_left, exists_and_left, exists_and_right, and_true, true_and, reduceCtorEq, false_and,
  exists_false, or_false, false_or, exists_const, exists_eq, exists_eq', Bool.not_true, Bool.not_false, Bool.false_eq_true, if_true, if_false, ite_true, ite_false])
abbrev s__law_pot : Stmt := topS 7
theorem sc__law_pot : FnScope ["_law_script", "_law_k", "_law_cell", "_law_own"] ["_law_script", "_law_k"] (defScope s__law_pot) := ⟨rfl, rfl, rfl, by decide +kernel, rfl, by decide +kernel, by decide +kernel⟩
abbrev s__law_draw : Stmt := topS 8
theorem sc__law_draw : FnScope ["_law_pot_here", "_law_many", "_law_digit", "_law_prime", "_law_made_here"] ["_law_pot_here", "_law_many"] (defScope s__law_draw) := ⟨rfl, rfl, rfl, by decide +kernel, rfl, by decide +kernel, by decide +kernel⟩
abbrev s__law_any : Stmt := topS 9
theorem sc__law_any : FnScope ["_law_pot_here", "_law_items"] ["_law_pot_here", "_law_items"] (defScope s__law_any) := ⟨rfl, rfl, rfl, by decide +kernel, rfl, by decide +kernel, by decide +kernel⟩
section
variable {base : Heap} {P : Program} {w : World} {mg : Str → Option Value} {K : PySem.W.Frag}
def sp_pot (K : PySem.W.Frag) : Sp := fun vs H Q _ => ∃ (a : Addr) (ns : List Int) (k : Nat), vs = [.ref a, .int k] ∧ SqL K H a (ns.map V.int) ∧ ns.length ≤ 63 ∧ k ≤ 63 ∧ ∀ H' p, Same H H' → H p = none → Pot H' p 0 → Q (.ref p) H'
theorem ok_pot {f : Addr} {fd : FuncData} (F : Fun K "_law_pot" "_law_pot" s__law_pot f fd) (T : Txt mg) : FnG P w K mg base 1 f fd ["_law_script", "_law_k"] (sp_pot K) := by
  refine okG F sc__law_pot (fun vs H Q E h => ?_) (fun cdv A outer s H vs Q E hg hr h => ?_)
  · obtain ⟨a, ns, k, rfl, _⟩ := h
    rfl
  · obtain ⟨a, ns, k, rfl, hS, hlen, hk, q⟩ := h
    replace hr := And.intro hg hr
    refine ⟨_, (pss_cons (ps_set (i := 2) sc__law_pot.nd rfl (Or.inl rfl) (pe_ifExp (pt_cmpR op_lt (pv 1) (pe_callB call_len_seq (by rfl) T.b_len (by decide +kernel) (pa_cons (pv 0) pa_nil)) (nomark _)) (pe_ix ix_list (pv 0) (pv 1) (fun _ _ => rfl)) (pe_op op_add (pe_op op_mul pe_int (pv 1)) pe_int)))
        (pss_cons (ps_set (i := 3) sc__law_pot.nd rfl (Or.inl rfl) (pe_op op_mul (pe_op op_mod (pe_callTy call_intI (by rfl) T.b_int (by decide +kernel) (pa_cons (pe_callB call_abs (by rfl) T.b_abs (by decide +kernel) (pa_cons (pv 2) pa_nil)) pa_nil)) (pe_op op_powW (pe_op op_powW pe_int pe_int) pe_int)) (pe_callTy call_int1 (by rfl) T.b_int (by decide +kernel) (pa_cons (pe_cmpR op_ge (pe_callB call_abs (by rfl) T.b_abs (by decide +kernel) (pa_cons (pv 2) pa_nil)) (pe_op op_powW pe_int pe_int) (nomark _)) pa_nil))))
        (pss_one (ps_ret (pe_lst (pa_cons (pv 3) (pa_cons (pe_op op_mod (pe_callTy call_intI (by rfl) T.b_int (by decide +kernel) (pa_cons (pe_op op_add (pe_op op_add (pe_op op_mul (pe_op op_mod (pe_callTy call_intI (by rfl) T.b_int (by decide +kernel) (pa_cons (pv 2) pa_nil)) pe_int) pe_int) (pe_op op_mul (pe_op op_mul pe_int (pv 1)) (pv 1))) pe_int) pa_nil)) pe_int) (pa_cons pe_int pa_nil)))))))), ?_⟩
    refine ⟨.int k, rfl, .ref a, rfl, a, _, rfl, .inl hS, (k : Int), _, rfl, rfl, _, rfl, ?_⟩
    refine ite2 (fun e => ?_) (fun e => ?_)
    · have hlt : k < ns.length := by
        have := of_decide_eq_true e
        rw [List.length_map] at this
        omega
      refine ⟨.ref a, rfl, .int k, rfl, a, _, (k : Int), _, rfl, rfl, hS, cell_at hlt, ?_⟩
      generalize ns[k] = c
      walk_at "rd"
      refine ⟨pot_c1, pot_c2, pot_c3, pot_c4, pot_c5, by decide, pot_c6 c, pot_c7 9241 (by decide) hk, pot_c8 hk, by decide, by decide, fun p hp => q _ p (new_same hp) hp (pot_made H p _ _ _)⟩
    · walk_at "rd"
      refine ⟨pot_c7 11 (by decide) hk, pot_c1, pot_c2, pot_c3, pot_c4, pot_c5, by decide, pot_c6 _, pot_c7 9241 (by decide) hk, pot_c8 hk, by decide, by decide, fun p hp => q _ p (new_same hp) hp (pot_made H p _ _ _)⟩
def sp_draw : Sp := fun vs H Q _ => ∃ (p : Addr) (many : Int) (m : Nat), vs = [.ref p, .int many] ∧ Pot H p m ∧ m < 1000000 ∧ 1 ≤ many ∧ many.natAbs < 2 ^ 200 ∧
  ∀ (H' : Hp) (r : Int), Kp p H H' → Pot H' p (m + 1) → 0 ≤ r → r < many → Q (.int r) H'
theorem ok_draw {f : Addr} {fd : FuncData} (F : Fun K "_law_draw" "_law_draw" s__law_draw f fd) (T : Txt mg) : FnG P w K mg base 1 f fd ["_law_pot_here", "_law_many"] sp_draw := by
  refine okG F sc__law_draw (fun vs H Q E h => ?_) (fun cdv A outer s H vs Q E hg hr h => ?_)
  · obtain ⟨p, many, m, rfl, _⟩ := h
    rfl
  · obtain ⟨p, many, m, rfl, ⟨a, b, c, e, h1, h2, h3, h4, h5, h6⟩, hm, hn, hn2, q⟩ := h
    replace hr := And.intro hg hr
    refine ⟨_, (pss_cons (ps_if (pt_cmpR op_gt (pe_ix ix_v (pv 0) pe_int (fun _ _ => rfl)) pe_int (nomark _)) (pss_cons (ps_set (i := 2) sc__law_draw.nd rfl (Or.inl rfl) (pe_op op_mod (pe_callTy call_intI (by rfl) T.b_int (by decide +kernel) (pa_cons (pe_ix ix_v (pv 0) pe_int (fun _ _ => rfl)) pa_nil)) (pv 1)))
        (pss_cons (ps_asg (pe_op op_fdivW (pe_ix ix_v (pv 0) pe_int (fun _ _ => rfl)) (pv 1)) (pg_sub (pv 0) pe_int set_list))
        (pss_one (ps_ret (pv 2))))) pss_nil)
        (pss_cons (ps_asg (pe_op op_add (pe_ix ix_v (pv 0) pe_int (fun _ _ => rfl)) pe_int) (pg_sub (pv 0) pe_int set_list))
        (pss_cons (ps_set (i := 3) sc__law_draw.nd rfl (Or.inl rfl) (pe_ix ix_v (pe_lst (pa_cons pe_int (pa_cons pe_int (pa_cons pe_int (pa_cons pe_int (pa_cons pe_int pa_nil)))))) (pe_op op_mod (pe_callTy call_intI (by rfl) T.b_int (by decide +kernel) (pa_cons (pe_ix ix_v (pv 0) pe_int (fun _ _ => rfl)) pa_nil)) pe_int) (fun _ _ => rfl)))
        (pss_cons (ps_set (i := 4) sc__law_draw.nd rfl (Or.inl rfl) (pe_op op_mod (pe_callTy call_intI (by rfl) T.b_int (by decide +kernel) (pa_cons (pe_op op_pow (pe_op op_add (pe_op op_add (pe_ix ix_v (pv 0) pe_int (fun _ _ => rfl)) (pe_op op_mul (pe_op op_mul pe_int (pe_ix ix_v (pv 0) pe_int (fun _ _ => rfl))) (pe_ix ix_v (pv 0) pe_int (fun _ _ => rfl)))) pe_int) pe_int) pa_nil)) (pv 3)))
        (pss_cons (ps_set (i := 4) sc__law_draw.nd rfl (Or.inl rfl) (pe_op op_mod (pe_callTy call_intI (by rfl) T.b_int (by decide +kernel) (pa_cons (pe_op op_mul (pv 4) (pe_op op_add (pe_op op_mod (pe_callTy call_intI (by rfl) T.b_int (by decide +kernel) (pa_cons (pv 4) pa_nil)) pe_int) (pe_op op_mul pe_int (pe_ix ix_v (pv 0) pe_int (fun _ _ => rfl))))) pa_nil)) pe_int))
        (pss_one (ps_ret (pe_op op_mod (pe_callTy call_intI (by rfl) T.b_int (by decide +kernel) (pa_cons (pe_op op_fdivW (pv 4) pe_int) pa_nil)) (pv 1))))))))), ?_⟩
    walk_at "rd"
    simp only [e, Option.some.injEq, HO.lst.injEq, exists_eq_left']
    walk_at "rd"
    refine ite2 (fun g => ?_) (fun g => ?_)
    · refine ⟨hn, wide_div hn hn2 (by decide) (by decide), q _ _ Kp.put ⟨_, _, _, upd_same, Int.ediv_nonneg h1 (by omega), ?_, h3, h4, h5, by omega⟩ (Int.emod_nonneg _ (by omega)) (Int.emod_lt_of_pos _ hn)⟩
      have le : a / many ≤ a := Int.ediv_le_self _ h1
      have ge := Int.ediv_nonneg h1 (show 0 ≤ many by omega)
      exact wide_le ge le h2
    · refine ⟨by decide, fun r nr => ?_⟩
      have npr : p ≠ r := fun z => by
        rw [z, upd_same] at nr
        cases nr
      have e2 : ∀ o, upd (upd H p (HO.lst [V.int a, V.int b, V.int (c + 1)])) r o p = some (.lst [V.int a, V.int b, V.int (c + 1)]) := fun o => by rw [upd_ne npr, upd_same]
      simp only [e2, Option.some.injEq, HO.lst.injEq, exists_eq_left']
      walk_at "rd"
      obtain ⟨d, d0, d1, ed⟩ := five (Int.emod_nonneg (c + 1) (by decide : (5 : Int) ≠ 0)) (Int.emod_lt_of_pos (c + 1) (by decide))
      simp only [ed, Option.some.injEq, exists_eq_left', e2, HO.lst.injEq]
      walk_at "rd"
      have t0 : 0 ≤ c + 1 := by omega
      have t1 : c + 1 ≤ 1000000 := by omega
      have t2 : (c + 1) * (c + 1) ≤ 1000000 * 1000000 := Int.mul_le_mul t1 t1 t0 (by decide)
      have t3 : 0 ≤ (c + 1) * (c + 1) := Int.mul_nonneg t0 t0
      have t4 : 99991 * (c + 1) * (c + 1) = 99991 * ((c + 1) * (c + 1)) := Int.mul_assoc _ _ _
      have m0 := Int.emod_nonneg ((b + 99991 * (c + 1) * (c + 1) + 61) ^ Int.toNat 3) (show d ≠ 0 by omega)
      have m1 := Int.emod_lt_of_pos ((b + 99991 * (c + 1) * (c + 1) + 61) ^ Int.toNat 3) d0
      refine ⟨by decide, Or.inl (by decide), Or.inr (by omega), ⟨by decide, by decide, by omega⟩, d0, by decide, Or.inl (by decide), Or.inl (by omega), by decide, ⟨by decide, by decide⟩, hn,
        q _ _ (Kp.trans Kp.put (Kp.new nr)) ⟨_, _, _, e2 _, h1, h2, h3, h4, t0, by omega⟩ (Int.emod_nonneg _ (by omega)) (Int.emod_lt_of_pos _ hn)⟩
def sp_any : Sp := fun vs H Q _ => ∃ (p l : Addr) (xs : List V) (m : Nat), vs = [.ref p, .ref l] ∧ Pot H p m ∧ m < 1000000 ∧ l ≠ p ∧ H l = some (.lst xs) ∧ xs ≠ [] ∧ xs.length < 2 ^ 20 ∧
  ∀ (H' : Hp) (x : V), Kp p H H' → Pot H' p (m + 1) → x ∈ xs → Q x H'
theorem ok_any {f : Addr} {fd : FuncData} (F : Fun K "_law_any" "_law_any" s__law_any f fd) (T : Txt mg) (C__law_draw : Cal P w K mg base 1 "_law_draw" sp_draw) : FnG P w K mg base 2 f fd ["_law_pot_here", "_law_items"] sp_any := by
  refine okG F sc__law_any (fun vs H Q E h => ?_) (fun cdv A outer s H vs Q E hg hr h => ?_)
  · obtain ⟨p, l, xs, m, rfl, _⟩ := h
    rfl
  · obtain ⟨p, l, xs, m, rfl, hp, hm, nlp, e, ne, hz, q⟩ := h
    replace hr := And.intro hg hr
    refine ⟨_, (pss_one (ps_ret (pe_ix ix_v (pv 1) (pe_c C__law_draw hr (by decide) (by rfl) (pa_cons (pv 0) (pa_cons (pe_callB call_lenL (by rfl) T.b_len (by decide +kernel) (pa_cons (pv 1) pa_nil)) pa_nil))) (fun _ _ => rfl)))), ?_⟩
    walk_at "rd"
    simp only [e, Option.some.injEq, HO.lst.injEq, exists_eq_left']
    have pos : 0 < xs.length := List.length_pos_iff.mpr ne
    refine ⟨p, _, m, rfl, hp, hm, by omega, Nat.lt_of_lt_of_le (show ((xs.length : Nat) : Int).natAbs < 2 ^ 20 by simpa using hz) (by decide), fun H1 r k1 p1 r0 r1 => ?_⟩
    have e1 := k1 _ _ nlp e
    obtain ⟨x, hx, mx⟩ := atI_some r0 r1
    exact ⟨_, r, rfl, e1, x, hx, q _ _ k1 p1 mx⟩
end
end Pf

set_option Elab.async false
set_option linter.all false
set_option maxRecDepth 100000
/-! The law's own spans, and whether a number is in them. -/
namespace Pf
open PySem PySem.Spec PyProof.Rows L2
local macro_rules | `(tactic| walk_at "rd") => `(tactic| simp only [tC1, tCK, tB, rNe, rEq, tChain, gTupV, gCons, gNil, Nat.sub_self, Nat.reduceSub, List.replicate_zero, List.replicate_succ, tTest, tIfS, tIf, tNot, tAnd, tOr, tAndV, tOrV, tNotV, tDrop, tNext, rIxV, rIxP,
  gSub, rSetL, tSl, tPart, tNoPart, rSl1, tAsg2, ipI, tDNewK, tBM, rAppend, wipe, rAllB, rAnyB, iTup, iList, RZ.iZipA, iRng1, iRng2, tYes, upd_same, at0, at1, at2, at20, at21, ixN30, ixN32, HO.lst.injEq, HO.tup.injEq, Nat.reduceAdd, tSeq, tAsg, tPar, tAug, tOp, tVar, tC, tCB, tCons, tNil, rI, rI0, rU, tUn, gName, tRet, tLst, tLstM, tTup, L2.start, List.map_cons, List.map_nil, List.length_cons, List.length_nil, List.replicate, List.cons_append,
  List.nil_append, List.set_cons_zero, List.set_cons_succ, List.getElem?_cons_zero, List.getElem?_cons_succ, Option.some.injEq, V.int.injEq, V.ref.injEq, V.bl.injEq, V.str.injEq, List.cons.injEq, exists_eq_left', exists_eq_left, exists_and_left, exists_and_right, and_true, true_and, reduceCtorEq, false_and,
  exists_false, or_false, false_or, exists_const, exists_eq, exists_eq', Bool.not_true, Bool.not_false, Bool.false_eq_true, if_true, if_false, ite_true, ite_false])
abbrev s__law_spans : Stmt := topS 10
theorem sc__law_spans : FnScope ["_law_pot_here", "_law_most", "_law_low", "_law_high", "_law_wide", "_law_found", "_law_here", "_law_turn", "_law_end"] ["_law_pot_here", "_law_most", "_law_low", "_law_high"] (defScope s__law_spans) := ⟨rfl, rfl, rfl, by decide +kernel, rfl, by decide +kernel, by decide +kernel⟩
abbrev s__law_in : Stmt := topS 11
theorem sc__law_in : FnScope ["_law_spans_here", "_law_number", "_law_low", "_law_high"] ["_law_spans_here", "_law_number"] (defScope s__law_in) := ⟨rfl, rfl, rfl, by decide +kernel, rfl, by decide +kernel, by decide +kernel⟩
section
variable {base : Heap} {P : Program} {w : World} {mg : Str → Option Value} {K : PySem.W.Frag}
theorem from_snoc {a b : Int} : ∀ {k : Int} {ps : List (Int × Int)}, Rng.From k ps → (∀ q ∈ ps, q.2 + 2 ≤ a) → k ≤ a → a ≤ b → Rng.From k (ps ++ [(a, b)])
  | _, [], _, _, h, l => ⟨h, l, trivial⟩
  | _, q :: r, ⟨h1, h2, h3⟩, u, h, l => ⟨h1, h2, from_snoc h3 (fun z m => u z (List.mem_cons_of_mem _ m)) (u q List.mem_cons_self) l⟩
def sp_spans : Sp := fun vs H Q _ => ∃ (p : Addr) (most : Nat) (low high : Int) (m : Nat), vs = [.ref p, .int most, .int low, .int high] ∧ Pot H p m ∧ m + 100 < 1000000 ∧ most ≤ 20 ∧ -(2 ^ 110) < low ∧ low ≤ high ∧ high < 2 ^ 110 ∧
  ∀ (H' : Hp) (t : Addr) (xs : List V) (ps : List (Int × Int)), Kp p H H' → Pot H' p (m + 60) → H' t = some (.tup xs) → PrAll H' xs ps → ps.length ≤ most → Rng.From low ps → (∀ q ∈ ps, q.2 ≤ high) → Q (.ref t) H'
theorem ok_spans {f : Addr} {fd : FuncData} (F : Fun K "_law_spans" "_law_spans" s__law_spans f fd) (T : Txt mg) (C__law_draw : Cal P w K mg base 1 "_law_draw" sp_draw) (C__law_any : Cal P w K mg base 2 "_law_any" sp_any) :
    FnG P w K mg base 3 f fd ["_law_pot_here", "_law_most", "_law_low", "_law_high"] sp_spans := by
  refine okG F sc__law_spans (fun vs H Q E h => ?_) (fun cdv A outer s H vs Q E hg hr h => ?_)
  · obtain ⟨p, most, low, high, m, rfl, _⟩ := h
    rfl
  · obtain ⟨p, most, low, high, m, rfl, hp, hm, h1, h2, h3, h4, q⟩ := h
    replace hr := And.intro hg hr
    refine ⟨_, (pss_cons (ps_set (i := 4) sc__law_spans.nd rfl (Or.inl rfl) (pe_op op_fdivW (pe_op op_sub (pv 3) (pv 2)) pe_int))
        (pss_cons (ps_par (i := 5) (j := 6) (by rfl) sc__law_spans.nd rfl rfl (by decide) rfl rfl (pa_cons (pe_lst pa_nil) (pa_cons (pe_op op_add (pv 2) (pe_c C__law_draw hr (by decide) (by rfl) (pa_cons (pv 0) (pa_cons (pe_op op_add pe_int (pe_op op_fdivW (pe_op op_sub (pv 3) (pv 2)) pe_int)) pa_nil)))) pa_nil)) (by rfl))
        (pss_cons (ps_for PassesOwn.never rfl (pi_range1 (by rfl) T.b_range (pa_cons (pe_c C__law_draw hr (by decide) (by rfl) (pa_cons (pv 0) (pa_cons (pe_op op_add (pv 1) pe_int) pa_nil))) pa_nil)) (pg_name (i := 7) sc__law_spans.nd rfl (Or.inl rfl)) (pss_cons (ps_set (i := 8) sc__law_spans.nd rfl (Or.inl rfl) (pe_op op_add (pv 6) (pe_c C__law_any hr (by decide) (by rfl) (pa_cons (pv 0) (pa_cons (pe_lst (pa_cons pe_int (pa_cons pe_int (pa_cons pe_int (pa_cons pe_int (pa_cons pe_int (pa_cons (pv 4) pa_nil))))))) pa_nil)))))
        (pss_one (ps_if (pt_cmpR op_le (pv 8) (pv 3) (nomark _)) (pss_cons (ps_expr (pe_bm PySem.F.plainAttrs_list PySem.F.slot_list_append PySem.F.type_list_append mt_append (pv 5) (pa_cons (pe_tup (pa_cons (pv 6) (pa_cons (pv 8) pa_nil))) pa_nil)))
        (pss_one (ps_set (i := 6) sc__law_spans.nd rfl (Or.inl rfl) (pe_op op_add (pe_op op_add (pv 8) pe_int) (pe_c C__law_any hr (by decide) (by rfl) (pa_cons (pv 0) (pa_cons (pe_lst (pa_cons pe_int (pa_cons pe_int (pa_cons pe_int (pa_cons pe_int (pa_cons (pv 4) pa_nil)))))) pa_nil))))))) pss_nil))))
        (pss_one (ps_ret (pe_callTy call_tupleL (by rfl) T.b_tuple (by decide +kernel) (pa_cons (pv 5) pa_nil))))))), ?_⟩
    walk_at "rd"
    refine ⟨⟨by decide, by decide⟩, Nat.zero_le _, fun l hl => ⟨⟨by decide, by decide⟩, ?_⟩⟩
    have s0 : Same H (upd H l (.lst [])) := new_same hl
    obtain ⟨ys, ep⟩ := hp.lst
    have nlp : l ≠ p := fun z => by rw [← z, hl] at ep; cases ep
    refine ⟨p, _, m, rfl, hp.same s0, by omega, by omega, by omega, fun H1 r k1 p1 r0 r1 => ⟨r, rfl, _, _, ⟨rfl, rfl⟩, ?_⟩⟩
    refine ⟨.ref p, rfl, .int most, rfl, (most : Int), 1, rfl, rfl, p, _, m + 1, rfl, p1, by omega, by omega, by omega, fun H2 r2 k2 p2 a0 a1 => ?_⟩
    have k12 : Kp p H H2 := (Kp.of s0).trans (k1.trans k2)
    have l2 : H2 l = some (.lst []) := k2 _ _ nlp (k1 _ _ nlp upd_same)
    refine ⟨r2, rfl, by omega, by omega, for_range (lo := 0) (n := r2.toNat) (fun i σ H' => ∃ (here : Int) (t e : Option V) (xs : List V) (ps : List (Int × Int)), σ = [some (.ref p), some (.int most), some (.int low), some (.int high), some (.int ((high - low) / 9)), some (.ref l), some (.int here), t, e] ∧
      Kp p H H' ∧ Pot H' p (m + 2 + 2 * i) ∧ H' l = some (.lst xs) ∧ PrAll H' xs ps ∧ ps.length ≤ i ∧ (Rng.From low ps ∧ (∀ q ∈ ps, q.2 ≤ high) ∧ ∀ q ∈ ps, q.2 + 2 ≤ here) ∧ low ≤ here ∧ here ≤ high + (high - low) / 9 + 10) ?_ ?_ ?_⟩
    · exact ⟨_, _, _, [], [], rfl, k12, p2, l2, .nil, Nat.le_refl _, ⟨trivial, fun _ z => (List.not_mem_nil z).elim, fun _ z => (List.not_mem_nil z).elim⟩, by omega, by omega⟩
    · rintro i σ H3 hi ⟨here, t, e, xs, ps, rfl, k3, p3, l3, pr, hn, fr, b1, b2⟩
      walk_at "rd"
      refine ⟨by decide, fun L hL => ?_⟩
      have hL0 : H3 p ≠ none := fun z => by obtain ⟨_, z2⟩ := p3.lst; rw [z] at z2; cases z2
      have nLp : L ≠ p := fun z => hL0 (z ▸ hL)
      refine ⟨p, L, _, _, rfl, p3.same (new_same hL), by omega, nLp, upd_same, by simp, by simp, fun H4 x k4 p4 mx => ?_⟩
      obtain ⟨u, rfl, u0, u1⟩ := menu6 (show 0 ≤ (high - low) / 9 by omega) (by decide) (by decide) (by decide) mx
      refine ⟨u, rfl, ?_⟩
      have l4 : H4 l = some (.lst xs) := k4 _ _ nlp (new_same hL _ _ l3)
      obtain ⟨y3, e3⟩ := p3.lst
      have t4 : TK H3 H4 := (TK.of (new_same hL)).trans (TK.kp k4 (new_same hL _ _ e3))
      have kp4 : Kp p H H4 := k3.trans ((Kp.of (new_same hL)).trans k4)
      have xl := pr.len
      refine ite2 (fun c => ?_) (fun c => ?_)
      · have c' : here + u ≤ high := of_decide_eq_true c
        refine ⟨Or.inl ⟨rfl, xs, SqL.of l4⟩, by decide, fun T hT => ?_⟩
        have nlT : l ≠ T := ne_of_none l4 hT
        have lA : upd H4 T (.tup [V.int here, V.int (here + u)]) l = some (.lst xs) := by rw [upd_ne nlT]; exact l4
        refine ⟨xs, lA, Nat.lt_of_le_of_lt (show xs.length ≤ 20 by omega) (by decide), by decide, fun M hM => ?_⟩
        obtain ⟨zs, e4⟩ := p4.lst
        have npT : p ≠ T := ne_of_none e4 hT
        have pB : Pot (upd (upd H4 T (.tup [V.int here, V.int (here + u)])) l (.lst (xs ++ [V.ref T]))) p (m + 2 + 2 * i + 1) := p4.eq (by rw [upd_ne nlp.symm, upd_ne npT])
        obtain ⟨zB, eB⟩ := pB.lst
        have nlM : l ≠ M := ne_of_none upd_same hM
        refine ⟨p, M, _, _, rfl, pB.same (new_same hM), by omega, (fun z => by rw [z, eB] at hM; cases hM), upd_same, by simp, by simp, fun H5 y k5 p5 my => ?_⟩
        obtain ⟨v, rfl, v0, v1⟩ := menu5 (show 0 ≤ (high - low) / 9 by omega) (by decide) (by decide) my
        have tA : TK H4 (upd H4 T (.tup [V.int here, V.int (here + u)])) := TK.of (new_same hT)
        have tB := (TK.put lA (o := .lst (xs ++ [V.ref T]))).trans ((TK.of (new_same hM)).trans (TK.kp k5 ((new_same hM) _ _ eB)))
        have l5 := k5 _ _ nlp (new_same hM _ _ upd_same)
        have kB : Kp p H (upd (upd H4 T (.tup [V.int here, V.int (here + u)])) l (.lst (xs ++ [V.ref T]))) := (kp4.trans (Kp.of (new_same hT))).putNew hl
        refine ⟨v, rfl, kB.trans ((Kp.of (new_same hM)).trans k5), p5.up (by omega), _, l5, ps ++ [(here, here + u)], (pr.tk (t4.trans (tA.trans tB))).snoc ⟨T, rfl, tB _ _ upd_same⟩, by rw [List.length_append]; simp; omega, ⟨from_snoc fr.1 fr.2.2 b1 (by omega), fun q hq => ?_, fun q hq => ?_⟩, by omega, by omega⟩
        · rcases List.mem_append.mp hq with hq | hq
          · exact fr.2.1 q hq
          · have eq : q = (here, here + u) := by simpa using hq
            rw [eq]
            exact c'
        · rcases List.mem_append.mp hq with hq | hq
          · have := fr.2.2 q hq
            omega
          · have eq : q = (here, here + u) := by simpa using hq
            rw [eq]
            show here + u + 2 ≤ here + u + 2 + v
            omega
      · exact ⟨kp4, p4.up (by omega), xs, l4, ps, pr.tk t4, by omega, fr, b1, b2⟩
    · rintro σ H3 ⟨here, t, e, xs, ps, rfl, k3, p3, l3, pr, hn, fr, b1, b2⟩
      walk_at "rd"
      exact ⟨xs, l3, fun t ht => q _ t xs ps (k3.trans (Kp.of (new_same ht))) ((p3.same (new_same ht)).up (by omega)) upd_same (pr.tk (TK.of (new_same ht))) (by omega) fr.1 fr.2.1⟩
def inB (n : Int) (ps : List (Int × Int)) : Bool := ps.any fun q => decide (q.1 ≤ n) && decide (n ≤ q.2)
theorem inB_iff {n : Int} {ps : List (Int × Int)} : inB n ps = true ↔ Rng.In n ps := by
  unfold inB Rng.In
  rw [List.any_eq_true]
  constructor
  · rintro ⟨q, m, h⟩
    obtain ⟨h1, h2⟩ := Bool.and_eq_true_iff.mp h
    exact ⟨q, m, of_decide_eq_true h1, of_decide_eq_true h2⟩
  · rintro ⟨q, m, h1, h2⟩
    exact ⟨q, m, by rw [decide_eq_true h1, decide_eq_true h2]; rfl⟩
def sp_in : Sp := fun vs H Q _ => ∃ (a : Addr) (ps : List (Int × Int)) (n : Int), vs = [.ref a, .int n] ∧ SetAt H a ps ∧ ps.length ≤ 1000 ∧ ∀ H', Same H H' → Q (.bl (inB n ps)) H'
theorem ok_in {f : Addr} {fd : FuncData} (F : Fun K "_law_in" "_law_in" s__law_in f fd) (T : Txt mg) : FnG P w K mg base 1 f fd ["_law_spans_here", "_law_number"] sp_in := by
  refine okG F sc__law_in (fun vs H Q E h => ?_) (fun cdv A outer s H vs Q E hg hr h => ?_)
  · obtain ⟨a, ps, n, rfl, _⟩ := h
    rfl
  · obtain ⟨a, ps, n, rfl, ⟨xs, g, pa⟩, hz, q⟩ := h
    refine ⟨_, (pss_one (ps_ret (pe_callB (call_anyB rfl) (by rfl) T.b_any (by decide +kernel) (pa_cons (pe_lc (own := [("_law_low", 2), ("_law_high", 3)]) (g := gTupV 2 (gCons (gName 2) (gCons (gName 3) gNil))) (tt := tYes) rfl sc__law_in.nd (pi_tup (pv 0)) (blkOk_by (own := [("_law_low", 2), ("_law_high", 3)]) (N := ["_law_spans_here", "_law_number", "_law_low", "_law_high"]) (sc := defScope s__law_in) (by decide +kernel)) (fun _ _ _ _ _ => (pg_tupV (n := 2) rfl (pgs_cons (pg_name (i := 2) sc__law_in.nd rfl (Or.inl rfl)) (pgs_cons (pg_name (i := 3) sc__law_in.nd rfl (Or.inl rfl)) pgs_nil)))) (fun _ _ _ _ _ => pts_nil) (fun _ _ _ _ _ => (pe_chain op_le op_le (pv 2) (pv 1) (pv 3)))) pa_nil)))), ?_⟩
    have len := pa.len
    have big : (1000 : Nat) ≤ sizeLine := by decide
    walk_at "rd"
    refine ⟨.ref a, rfl, a, rfl, ⟨xs, SqT.of g⟩, lcMap (walk_tup (xs := xs)) ((ps.map fun q => decide (q.1 ≤ n) && decide (n ≤ q.2)).map V.bl) (by simp [len]) (by omega) (fun H1 s1 => s1.seqT (SqT.of g)) (fun i x H1 H2 y R ho s1 hy kk => ?_) (fun H1 D hD s1 hL => ?_)⟩
    · obtain ⟨rfl, hx⟩ := hy
      have hi : i < ps.length := by
        have := (List.getElem?_eq_some_iff.mp hx).1
        omega
      obtain ⟨t, it, ht⟩ := (PrAll.tk pa (TK.of s1)).at hi
      have ex : x = .ref t := by
        rw [atI_nat hx] at it
        exact Option.some.inj it
      subst ex
      have ey : y = .bl (decide (ps[i].1 ≤ n) && decide (n ≤ ps[i].2)) := by
        rw [List.getElem?_map, List.getElem?_map, List.getElem?_eq_getElem hi] at ho
        exact (Option.some.inj ho).symm
      subst ey
      walk_at "rd"
      simp only [ht, Option.some.injEq, HO.tup.injEq, exists_eq_left']
      walk_at "rd"
      refine ⟨_, _, ⟨rfl, rfl⟩, _, _, rfl, rfl, _, rfl, ?_⟩
      have k := kk _ (Same.refl _)
      cases e1 : decide (ps[i].1 ≤ n) with
      | true =>
        rw [e1, Bool.true_and] at k
        exact iteT ⟨_, rfl, k⟩
      | false =>
        rw [e1, Bool.false_and] at k
        exact iteF k
    · refine ⟨D, rfl, ps.map (fun q => decide (q.1 ≤ n) && decide (n ≤ q.2)), hL, ?_⟩
      have e : (ps.map fun q => decide (q.1 ≤ n) && decide (n ≤ q.2)).any id = inB n ps := by
        rw [List.any_map]
        rfl
      rw [e]
      exact q _ s1
end
end Pf

set_option Elab.async false
set_option linter.all false
set_option maxRecDepth 100000
/-! Where range sets begin and end. -/
namespace Pf
open PySem PySem.Spec PyProof.Rows L2
local macro_rules | `(tactic| walk_at "rd") => `(tactic| simp only [tC1, tCK, tB, rNe, rEq, tChain, gTupV, gCons, gNil, Nat.sub_self, Nat.reduceSub, List.replicate_zero, List.replicate_succ, tTest, tIfS, tIf, tNot, tAnd, tOr, tAndV, tOrV, tNotV, tDrop, tNext, rIxV, rIxP,
  gSub, rSetL, tSl, tPart, tNoPart, rSl1, tAsg2, ipI, tDNewK, tBM, rAppend, wipe, rAllB, rAnyB, iTup, iList, RZ.iZipA, iRng1, iRng2, tYes, upd_same, at0, at1, at2, at20, at21, ixN30, ixN32, HO.lst.injEq, HO.tup.injEq, Nat.reduceAdd, tSeq, tAsg, tPar, tAug, tOp, tVar, tC, tCB, tCons, tNil, rI, rI0, rU, tUn, gName, tRet, tLst, tLstM, tTup, L2.start, List.map_cons, List.map_nil, List.length_cons, List.length_nil, List.replicate, List.cons_append,
  List.nil_append, List.set_cons_zero, List.set_cons_succ, List.getElem?_cons_zero, List.getElem?_cons_succ, Option.some.injEq, V.int.injEq, V.ref.injEq, V.bl.injEq, V.str.injEq, List.cons.injEq, exists_eq_left', exists_eq_left, exists_and_left, exists_and_right, and_true, true_and, reduceCtorEq, false_and,
  exists_false, or_false, false_or, exists_const, exists_eq, exists_eq', Bool.not_true, Bool.not_false, Bool.false_eq_true, if_true, if_false, ite_true, ite_false])
abbrev s__law_points : Stmt := topS 12
theorem sc__law_points : FnScope ["_law_some", "_law_found", "_law_spans_here", "_law_low", "_law_high"] ["_law_some"] (defScope s__law_points) := ⟨rfl, rfl, rfl, by decide +kernel, rfl, by decide +kernel, by decide +kernel⟩
def ends (ps : List (Int × Int)) : List Int := ps.flatMap fun q => [q.1, q.2 + 1]
theorem ends_len (ps : List (Int × Int)) : (ends ps).length = 2 * ps.length := by
  induction ps with
  | nil => rfl
  | cons q r ih =>
    show ([q.1, q.2 + 1] ++ ends r).length = _
    rw [List.length_append, ih]
    simp only [List.length_cons, List.length_nil]
    omega
theorem ends_snoc (ps : List (Int × Int)) (q : Int × Int) : ends (ps ++ [q]) = ends ps ++ [q.1, q.2 + 1] := by
  unfold ends
  rw [List.flatMap_append]
  rfl
section
variable {base : Heap} {P : Program} {w : World} {mg : Str → Option Value} {K : PySem.W.Frag}
def sp_points : Sp := fun vs H Q _ => ∃ (l a b : Addr) (ps qs : List (Int × Int)), vs = [.ref l] ∧ H l = some (.lst [.ref a, .ref b]) ∧ SetAt H a ps ∧ SetAt H b qs ∧ ps.length ≤ 12 ∧ qs.length ≤ 12 ∧
  ∀ (H' : Hp) (t : Addr) (ns : List Int), Same H H' → H' t = some (.lst (ns.map V.int)) → ns.Pairwise (· < ·) → (∀ k, k ∈ ns ↔ k ∈ ends ps ++ ends qs) → ns.length ≤ 63 → Q (.ref t) H'
theorem ok_points {f : Addr} {fd : FuncData} (F : Fun K "_law_points" "_law_points" s__law_points f fd) (T : Txt mg) : FnG P w K mg base 1 f fd ["_law_some"] sp_points := by
  refine okG F sc__law_points (fun vs H Q E h => ?_) (fun cdv A outer s H vs Q E hg hr h => ?_)
  · obtain ⟨l, a, b, ps, qs, rfl, _⟩ := h
    rfl
  · obtain ⟨l, a, b, ps, qs, rfl, el, pa, pb, la, lb, q⟩ := h
    replace hr := And.intro hg hr
    refine ⟨_, (pss_cons (ps_set (i := 1) sc__law_points.nd rfl (Or.inl rfl) (pe_lst pa_nil))
        (pss_cons (ps_for PassesOwn.never rfl (pi_list (pv 0)) (pg_name (i := 2) sc__law_points.nd rfl (Or.inl rfl)) (pss_one (ps_for PassesOwn.never rfl (pi_tup (pv 2)) (pg_tupV (n := 2) rfl (pgs_cons (pg_name (i := 3) sc__law_points.nd rfl (Or.inl rfl)) (pgs_cons (pg_name (i := 4) sc__law_points.nd rfl (Or.inl rfl)) pgs_nil))) (pss_one (ps_expr (pe_bm PySem.F.plainAttrs_list PySem.F.slot_list_extend PySem.F.type_list_extend mt_extend (pv 1) (pa_cons (pe_lst (pa_cons (pv 3) (pa_cons (pe_op op_add (pv 4) pe_int) pa_nil))) pa_nil)))))))
        (pss_one (ps_ret (pe_callB (cr_sortedSet rfl) (by rfl) T.b_sorted (by decide +kernel) (pa_cons (pe_callTy (cr_setLI rfl) (by rfl) T.b_set (by decide +kernel) (pa_cons (pv 1) pa_nil)) pa_nil)))))), ?_⟩
    walk_at "rd"
    refine ⟨Nat.zero_le _, fun D nD => ?_⟩
    have s0 := new_same (o := HO.lst []) nD
    have both2 : ∀ (i : Nat) (x : V), [V.ref a, V.ref b][i]? = some x → ∃ c rs, x = .ref c ∧ SetAt H c rs ∧ rs.length ≤ 12 ∧ [ps, qs][i]? = some rs := fun i x hx => by
      match i, hx with
      | 0, hx => exact ⟨a, ps, (Option.some.inj hx).symm, pa, la, rfl⟩
      | 1, hx => exact ⟨b, qs, (Option.some.inj hx).symm, pb, lb, rfl⟩
      | n + 2, hx => cases hx
    refine ⟨.ref l, rfl, l, rfl, ⟨_, SqL.of (s0 _ _ el)⟩, for_list (K := K) (xs := [.ref a, .ref b]) (fun i σ H' => ∃ (u1 u2 u3 : Option V) (ns : List Int), σ = [some (.ref l), some (.ref D), u1, u2, u3] ∧ Same H H' ∧ H' D = some (.lst (ns.map V.int)) ∧ ns = (([ps, qs].take i).map ends).flatten ∧ ns.length ≤ 24 * i)
      ⟨_, _, _, [], rfl, s0, upd_same, rfl, Nat.le_refl _⟩ (fun i σ H' _ ⟨_, _, _, _, _, ss, _⟩ => SqL.of (ss _ _ el)) ?_ ?_⟩
    · rintro i x σ H1 hx ⟨u1, u2, u3, ns, rfl, s1, eD, en, ln⟩
      obtain ⟨c, rs, rfl, ⟨xs, ec, pc⟩, lc, hrs⟩ := both2 i x hx
      have xl := pc.len
      have hi : i < 2 := (List.getElem?_eq_some_iff.mp hx).1
      walk_at "rd"
      refine ⟨.ref c, rfl, c, rfl, ⟨xs, SqT.of (s1 _ _ ec)⟩, for_tup (K := K) (xs := xs) (fun j σ H' => ∃ (u2 u3 : Option V) (ms : List Int), σ = [some (.ref l), some (.ref D), some (.ref c), u2, u3] ∧ Same H H' ∧ H' D = some (.lst (ms.map V.int)) ∧ ms = ns ++ ends (rs.take j))
        ⟨_, _, ns, rfl, s1, eD, (List.append_nil ns).symm⟩ (fun j σ H' _ ⟨_, _, _, _, ss, _⟩ => SqT.of (ss _ _ ec)) ?_ ?_⟩
      · rintro j x2 σ H2 hx2 ⟨v2, v3, ms, rfl, s2, eD2, em⟩
        have hj : j < rs.length := by
          have := (List.getElem?_eq_some_iff.mp hx2).1
          omega
        obtain ⟨t, it, ht⟩ := (PrAll.tk pc (TK.of s2)).at hj
        have ex : x2 = .ref t := by
          rw [atI_nat hx2] at it
          exact Option.some.inj it
        subst ex
        walk_at "rd"
        simp only [ht, Option.some.injEq, HO.tup.injEq, exists_eq_left']
        walk_at "rd"
        have lm : ms.length ≤ 100 := by
          rw [em, List.length_append, ends_len, List.length_take]
          omega
        refine ⟨_, _, ⟨rfl, rfl⟩, _, _, rfl, rfl, Or.inl ⟨rfl, _, SqL.of eD2⟩, _, rfl, by decide, fun B nB => ?_⟩
        have sB := new_same (o := HO.lst [V.int rs[j].1, V.int (rs[j].2 + 1)]) nB
        refine ⟨D, B, ms.map V.int, _, rfl, rfl, sB _ _ eD2, upd_same, ?_, fun d o e => ?_, ms ++ [rs[j].1, rs[j].2 + 1], by rw [upd_same, List.map_append]; rfl, ?_⟩
        · rw [List.length_map]
          simp only [List.length_cons, List.length_nil]
          exact Nat.le_trans (show ms.length + 2 ≤ 102 by omega) (by decide)
        · rw [upd_ne (ne_of_none e nD)]
          exact sB _ _ (s2 _ _ e)
        · rw [em, List.take_add_one, List.getElem?_eq_getElem hj]
          show _ = ns ++ ends (rs.take j ++ [rs[j]])
          rw [ends_snoc, List.append_assoc]
      · rintro σ H2 ⟨v2, v3, ms, rfl, s2, eD2, em⟩
        rw [List.take_of_length_le (by omega)] at em
        refine ⟨⟨_, _, _, rfl⟩, s2, ms, eD2, ?_, ?_⟩
        · rw [em, en, List.take_add_one, hrs, List.map_append, List.flatten_append]
          simp
        · rw [em, List.length_append, ends_len]
          omega
    · rintro σ H1 ⟨u1, u2, u3, ns, rfl, s1, eD, en, ln⟩
      walk_at "rd"
      have en2 : ns = ends ps ++ ends qs := by
        rw [en]
        show (ends ps ++ (ends qs ++ [])) = _
        rw [List.append_nil]
      have l2 : ns.length ≤ 48 := by
        rw [en2, List.length_append, ends_len, ends_len]
        omega
      refine ⟨D, ns, rfl, SqL.of eD, by omega, fun A2 c nA hc => ⟨A2, _, c, rfl, upd_same, by omega, fun ks p pw mem lk np => ?_⟩⟩
      have sA := new_same (o := SetO w A2 (fun j => decide (j ∈ ns)) c) nA
      exact q _ p ks (s1.trans (sA.trans (new_same np))) upd_same pw (fun k => by rw [mem, decide_eq_true_eq, en2]) (by omega)
end
end Pf

/-! The range set of what is true, made by its points. No Python here. -/
namespace Rng
def stepM (p : Int → Bool) (acc : Prs) (lo hi : Int) : Prs :=
  if p lo = true then
    match acc.getLast? with
    | some q => if q.2 = lo - 1 then acc.dropLast ++ [(q.1, hi)] else acc ++ [(lo, hi)]
    | none => [(lo, hi)]
  else acc
def madeM (p : Int → Bool) : Prs → List Int → Prs
  | acc, a :: b :: r => madeM p (stepM p acc a (b - 1)) (b :: r)
  | acc, _ => acc
/-- p stays as it is from a point to the next -/
def Stays (p : Int → Bool) : List Int → Prop
  | a :: b :: r => (∀ n, a ≤ n → n < b → p n = p a) ∧ Stays p (b :: r)
  | _ => True
theorem From.snoc {a b : Int} : ∀ {k : Int} {ps : Prs}, From k ps → (∀ q ∈ ps, q.2 + 2 ≤ a) → k ≤ a → a ≤ b → From k (ps ++ [(a, b)])
  | _, [], _, _, h, l => ⟨h, l, trivial⟩
  | _, q :: r, ⟨h1, h2, h3⟩, u, h, l => ⟨h1, h2, From.snoc h3 (fun z m => u z (List.mem_cons_of_mem _ m)) (u q List.mem_cons_self) l⟩
theorem From.longer {a b c : Int} (l : b ≤ c) : ∀ {k : Int} {ps : Prs}, From k (ps ++ [(a, b)]) → From k (ps ++ [(a, c)])
  | _, [], ⟨h1, h2, _⟩ => ⟨h1, by show a ≤ c; have : a ≤ b := h2; omega, trivial⟩
  | _, q :: r, ⟨h1, h2, h3⟩ => ⟨h1, h2, From.longer (ps := r) l h3⟩
theorem From.last {a b : Int} : ∀ {k : Int} {ps : Prs}, From k (ps ++ [(a, b)]) → k ≤ a ∧ a ≤ b ∧ ∀ q ∈ ps, q.2 + 2 ≤ a
  | _, [], ⟨h1, h2, _⟩ => ⟨h1, h2, fun _ z => (List.not_mem_nil z).elim⟩
  | k, q :: r, ⟨h1, h2, h3⟩ => by
    obtain ⟨i1, i2, i3⟩ := From.last (ps := r) h3
    refine ⟨by omega, i2, fun z m => ?_⟩
    rcases List.mem_cons.mp m with e | m
    · rw [e]
      exact i1
    · exact i3 z m
theorem stepM_spec {p : Int → Bool} {acc : Prs} {k a b : Int} (f : From k acc) (up : ∀ q ∈ acc, q.2 < a) (ka : k ≤ a) (ab : a < b) (st : ∀ n, a ≤ n → n < b → p n = p a) :
    From k (stepM p acc a (b - 1)) ∧ (∀ q ∈ stepM p acc a (b - 1), q.2 < b) ∧ ∀ n, In n (stepM p acc a (b - 1)) ↔ In n acc ∨ (a ≤ n ∧ n < b ∧ p n = true) := by
  unfold stepM
  by_cases pa : p a = true
  · rw [if_pos pa]
    have new : From k (acc ++ [(a, b - 1)]) → (∀ q ∈ acc ++ [(a, b - 1)], q.2 < b) ∧ ∀ n, In n (acc ++ [(a, b - 1)]) ↔ In n acc ∨ (a ≤ n ∧ n < b ∧ p n = true) := fun _ => by
      refine ⟨fun q m => ?_, fun n => ?_⟩
      · rcases List.mem_append.mp m with m | m
        · have := up q m
          omega
        · rw [List.mem_singleton.mp m]
          show b - 1 < b
          omega
      · rw [In.app, In.cons]
        constructor
        · rintro (h | h | h)
          · exact Or.inl h
          · have h' : a ≤ n ∧ n ≤ b - 1 := h
            exact Or.inr ⟨h'.1, by omega, by rw [st n h'.1 (by omega)]; exact pa⟩
          · exact (In.nil h).elim
        · rintro (h | ⟨h1, h2, _⟩)
          · exact Or.inl h
          · exact Or.inr (Or.inl ⟨h1, by show n ≤ b - 1; omega⟩)
    cases e : acc.getLast? with
    | none =>
      have nil : acc = [] := List.getLast?_eq_none_iff.mp e
      subst nil
      have g : From k ([] ++ [(a, b - 1)]) := ⟨ka, by show a ≤ b - 1; omega, trivial⟩
      exact ⟨g, new g⟩
    | some q =>
      obtain ⟨init, rfl⟩ := List.getLast?_eq_some_iff.mp e
      obtain ⟨q1, q2⟩ := q
      dsimp only
      by_cases c : q2 = a - 1
      · rw [if_pos c, List.dropLast_concat]
        obtain ⟨l1, l2, l3⟩ := f.last
        refine ⟨f.longer (by omega), fun z m => ?_, fun n => ?_⟩
        · rcases List.mem_append.mp m with m | m
          · have := up z (List.mem_append_left _ m)
            omega
          · rw [List.mem_singleton.mp m]
            show b - 1 < b
            omega
        · rw [In.app, In.app, In.cons, In.cons]
          constructor
          · rintro (h | h | h)
            · exact Or.inl (Or.inl h)
            · have h' : q1 ≤ n ∧ n ≤ b - 1 := h
              by_cases z : n ≤ q2
              · exact Or.inl (Or.inr (Or.inl ⟨h'.1, z⟩))
              · exact Or.inr ⟨by omega, by omega, by rw [st n (by omega) (by omega)]; exact pa⟩
            · exact (In.nil h).elim
          · rintro ((h | h | h) | ⟨h1, h2, _⟩)
            · exact Or.inl h
            · have h' : q1 ≤ n ∧ n ≤ q2 := h
              exact Or.inr (Or.inl ⟨h'.1, by show n ≤ b - 1; omega⟩)
            · exact (In.nil h).elim
            · exact Or.inr (Or.inl ⟨by show q1 ≤ n; omega, by show n ≤ b - 1; omega⟩)
      · rw [if_neg c]
        have g : From k ((init ++ [(q1, q2)]) ++ [(a, b - 1)]) := by
          refine f.snoc (fun z m => ?_) ka (by omega)
          rcases List.mem_append.mp m with m | m
          · have h1 := f.last.2.2 z m
            have h2 := f.last.2.1
            have h3 : q2 < a := up (q1, q2) (List.mem_append_right _ (List.mem_singleton.mpr rfl))
            omega
          · rw [List.mem_singleton.mp m]
            have h3 : q2 < a := up (q1, q2) (List.mem_append_right _ (List.mem_singleton.mpr rfl))
            show q2 + 2 ≤ a
            omega
        exact ⟨g, new g⟩
  · rw [if_neg pa]
    refine ⟨f, fun q m => by have := up q m; omega, fun n => ⟨Or.inl, ?_⟩⟩
    rintro (h | ⟨h1, h2, h3⟩)
    · exact h
    · rw [st n h1 h2] at h3
      exact (pa h3).elim
theorem madeM_spec {p : Int → Bool} : ∀ (r : List Int) (a : Int) (acc : Prs) (k : Int), (a :: r).Pairwise (· < ·) → Stays p (a :: r) → From k acc → (∀ q ∈ acc, q.2 < a) → k ≤ a →
    Rg (madeM p acc (a :: r)) ∧ ∀ n, In n (madeM p acc (a :: r)) ↔ In n acc ∨ (a ≤ n ∧ (∃ e ∈ a :: r, n < e) ∧ p n = true)
  | [], a, acc, k, _, _, f, _, _ => by
    unfold madeM
    refine ⟨⟨k, f⟩, fun n => ⟨Or.inl, ?_⟩⟩
    rintro (h | ⟨h1, ⟨e, m, h2⟩, _⟩)
    · exact h
    · rw [List.mem_singleton.mp m] at h2
      omega
  | b :: r, a, acc, k, pw, st, f, up, ka => by
    unfold madeM
    obtain ⟨pw1, pw2⟩ := List.pairwise_cons.mp pw
    have ab : a < b := pw1 b List.mem_cons_self
    obtain ⟨s1, s2, s3⟩ := stepM_spec f up ka ab st.1
    obtain ⟨i1, i2⟩ := madeM_spec r b _ k pw2 st.2 s1 s2 (by omega)
    refine ⟨i1, fun n => ?_⟩
    rw [i2, s3]
    constructor
    · rintro ((h | ⟨h1, h2, h3⟩) | ⟨h1, ⟨e, m, h2⟩, h3⟩)
      · exact Or.inl h
      · exact Or.inr ⟨h1, ⟨b, List.mem_cons_of_mem _ List.mem_cons_self, h2⟩, h3⟩
      · exact Or.inr ⟨by omega, ⟨e, List.mem_cons_of_mem _ m, h2⟩, h3⟩
    · rintro (h | ⟨h1, ⟨e, m, h2⟩, h3⟩)
      · exact Or.inl (Or.inl h)
      · by_cases z : n < b
        · exact Or.inl (Or.inr ⟨h1, z, h3⟩)
        · rcases List.mem_cons.mp m with e1 | m
          · omega
          · exact Or.inr ⟨by omega, ⟨e, m, h2⟩, h3⟩
/-- .. of all points of what p tells -/
theorem madeM_all {p : Int → Bool} {ns : List Int} (pw : ns.Pairwise (· < ·)) (st : Stays p ns) (cov : ∀ n, p n = true → (∃ a ∈ ns, a ≤ n) ∧ ∃ e ∈ ns, n < e) : Rg (madeM p [] ns) ∧ ∀ n, In n (madeM p [] ns) ↔ p n = true := by
  cases ns with
  | nil =>
    refine ⟨⟨0, trivial⟩, fun n => ⟨fun h => (In.nil h).elim, fun h => ?_⟩⟩
    obtain ⟨⟨_, m, _⟩, _⟩ := cov n h
    exact (List.not_mem_nil m).elim
  | cons a r =>
    obtain ⟨i1, i2⟩ := madeM_spec r a [] a pw st trivial (fun _ z => (List.not_mem_nil z).elim) (Int.le_refl _)
    refine ⟨i1, fun n => ?_⟩
    rw [i2]
    constructor
    · rintro (h | h)
      · exact (In.nil h).elim
      · exact h.2.2
    · intro h
      obtain ⟨⟨z, m, l⟩, e⟩ := cov n h
      refine Or.inr ⟨?_, e, h⟩
      rcases List.mem_cons.mp m with e1 | m
      · omega
      · have := (List.pairwise_cons.mp pw).1 z m
        omega
/-- between two points that follow each other no range set that ends at points changes -/
theorem stays_of {p : Int → Bool} : ∀ {ns : List Int}, ns.Pairwise (· < ·) → (∀ a b, a < b → a ∈ ns → b ∈ ns → (∀ z ∈ ns, z ≤ a ∨ b ≤ z) → ∀ n, a ≤ n → n < b → p n = p a) → Stays p ns := by
  intro ns
  have go : ∀ (r pre : List Int), (pre ++ r).Pairwise (· < ·) → (∀ a b, a < b → a ∈ pre ++ r → b ∈ pre ++ r → (∀ z ∈ pre ++ r, z ≤ a ∨ b ≤ z) → ∀ n, a ≤ n → n < b → p n = p a) → Stays p r := by
    intro r
    induction r with
    | nil => exact fun _ _ _ => trivial
    | cons a r ih =>
      intro pre pw h
      cases r with
      | nil => trivial
      | cons b r =>
        obtain ⟨p1, p2, p3⟩ := List.pairwise_append.mp pw
        obtain ⟨c1, c2⟩ := List.pairwise_cons.mp p2
        obtain ⟨d1, d2⟩ := List.pairwise_cons.mp c2
        refine ⟨h a b (c1 b List.mem_cons_self) (List.mem_append_right _ List.mem_cons_self) (List.mem_append_right _ (List.mem_cons_of_mem _ List.mem_cons_self)) fun z m => ?_, ?_⟩
        · rcases List.mem_append.mp m with m | m
          · exact Or.inl (Int.le_of_lt (p3 z m a List.mem_cons_self))
          · rcases List.mem_cons.mp m with e | m
            · exact Or.inl (by omega)
            · rcases List.mem_cons.mp m with e | m
              · exact Or.inr (by omega)
              · exact Or.inr (Int.le_of_lt (d1 z m))
        · refine ih (pre ++ [a]) (by rw [List.append_assoc]; exact pw) ?_
          rw [List.append_assoc]
          exact h
  exact fun pw h => go ns [] pw h
end Rng

set_option Elab.async false
set_option linter.all false
set_option maxRecDepth 100000
/-! A range set by what is true at points. -/
namespace Pf
open PySem PySem.Spec PyProof.Rows L2
local macro_rules | `(tactic| walk_at "rd") => `(tactic| simp only [tC1, tCK, tB, rNe, rEq, tChain, gTupV, gCons, gNil, Nat.sub_self, Nat.reduceSub, List.replicate_zero, List.replicate_succ, tTest, tIfS, tIf, tNot, tAnd, tOr, tAndV, tOrV, tNotV, tDrop, tNext, rIxV, rIxP,
  gSub, rSetL, tSl, tPart, tNoPart, rSl1, tAsg2, ipI, tDNewK, tBM, rAppend, wipe, rAllB, rAnyB, iTup, iList, RZ.iZipA, iRng1, iRng2, tYes, upd_same, at0, at1, at2, at20, at21, ixN30, ixN32, HO.lst.injEq, HO.tup.injEq, Nat.reduceAdd, tSeq, tAsg, tPar, tAug, tOp, tVar, tC, tCB, tCons, tNil, rI, rI0, rU, tUn, gName, tRet, tLst, tLstM, tTup, L2.start, List.map_cons, List.map_nil, List.length_cons, List.length_nil, List.replicate, List.cons_append,
  List.nil_append, List.set_cons_zero, List.set_cons_succ, List.getElem?_cons_zero, List.getElem?_cons_succ, Option.some.injEq, V.int.injEq, V.ref.injEq, V.bl.injEq, V.str.injEq, List.cons.injEq, exists_eq_left', exists_eq_left, exists_and_left, exists_and_right, and_true, true_and, reduceCtorEq, false_and,
  exists_false, or_false, false_or, exists_const, exists_eq, exists_eq', Bool.not_true, Bool.not_false, Bool.false_eq_true, if_true, if_false, ite_true, ite_false])
abbrev s__law_made : Stmt := topS 13
theorem sc__law_made : FnScope ["_law_points_here", "_law_is_in", "_law_found", "_law_at", "_law_low", "_law_high"] ["_law_points_here", "_law_is_in"] (defScope s__law_made) := ⟨rfl, rfl, rfl, by decide +kernel, rfl, by decide +kernel, by decide +kernel⟩
theorem PrAll.dp {K : PySem.W.Frag} {H : Hp} : ∀ {xs : List V} {ps : List (Int × Int)}, PrAll H xs ps → DpAll K H xs (ps.map prD)
  | _, _, .nil => .nil
  | _, _, .cons ⟨t, e1, e2⟩ r => by
    subst e1
    exact .cons (.tup (SqT.of e2) (.cons (.int _) (.cons (.int _) .nil))) (PrAll.dp r)
theorem lay_prs : ∀ ps : List (Int × Int), PyData.canLayAll0 (ps.map prD) = true
  | [] => by simp only [List.map_nil, PyData.canLayAll0]
  | q :: r => by
    have := lay_prs r
    simp only [List.map_cons, PyData.canLayAll0, prD, PyData.canLay0, this, Bool.and_true, Bool.and_self]
theorem depth_prs : ∀ ps : List (Int × Int), PyData.depthAll (ps.map prD) ≤ 2
  | [] => by simp only [List.map_nil, PyData.depthAll]; omega
  | q :: r => by
    have := depth_prs r
    simp only [List.map_cons, PyData.depthAll, prD, PyData.depth]
    omega
theorem shaped_prs (ps : List (Int × Int)) : SeqAt.shaped (.list (ps.map prD)) = true := by
  have h1 := lay_prs ps
  have h2 := depth_prs ps
  unfold SeqAt.shaped
  simp only [PyData.canLay0, PyData.depth, h1, Bool.true_and, decide_eq_true_eq]
  exact decide_eq_true (Nat.le_trans (Nat.add_le_add_right h2 1) (show 3 ≤ 64 by decide))
theorem _root_.L2.Room.u64 {k : Nat} {A : Around} (r : Room k A) : A.units + 64 < cLine := by
  have := r.un
  omega
/-- l != [] of a list of pairs -/
def rNeNil : R2 := fun x y H Q => ∃ a b xs ps, x = .ref a ∧ y = .ref b ∧ H a = some (.lst xs) ∧ PrAll H xs ps ∧ H b = some (.lst []) ∧ Q (.bl (!ps.isEmpty)) H
theorem op_neNil {X : Cx} (hu : X.A.units + 64 < cLine) : OpR X (compareOp .NotEq) rNeNil := by
  intro pins s σ H x y v u Q I rx ry h
  obtain ⟨a, b, xs, ps, rfl, rfl, e1, pr, e2, q⟩ := h
  refine op_neD hu pins s σ H _ _ v u Q I rx ry ⟨.list (ps.map prD), .list [], .lst (SqL.of e1) pr.dp, .lst (SqL.of e2) .nil, shaped_prs ps, shaped_prs [], ?_⟩
  have e : PyData.eqv (.list (ps.map prD)) (.list []) = ps.isEmpty := by
    cases ps with
    | nil => simp only [List.map_nil, PyData.eqv, PyData.eqvAll, List.isEmpty_nil]
    | cons q r => simp only [List.map_cons, PyData.eqv, PyData.eqvAll, List.isEmpty_cons]
  rw [e]
  exact q
theorem PrAll.split {H : Hp} {q : Int × Int} : ∀ {init : List (Int × Int)} {xs : List V}, PrAll H xs (init ++ [q]) → ∃ xi v, xs = xi ++ [v] ∧ PrAll H xi init ∧ PrAt H v q
  | [], _, .cons h .nil => ⟨[], _, rfl, .nil, h⟩
  | _ :: _, _, .cons h t => by
    obtain ⟨xi, v, rfl, a, b⟩ := PrAll.split t
    exact ⟨_ :: xi, v, rfl, .cons h a, b⟩
theorem ixN_last {n : Nat} : ixN (n + 1) (-1) = some n := by
  unfold ixN
  rw [if_neg (by decide), if_pos (by omega)]
  congr 1
  omega
theorem atI_last {xi : List V} {v : V} : atI (xi ++ [v]) (-1) = some v := by
  unfold atI
  rw [List.length_append]
  show (ixN (xi.length + 1) (-1) >>= _) = _
  rw [ixN_last]
  show (xi ++ [v])[xi.length]? = _
  simp
section
variable {base : Heap} {P : Program} {w : World} {mg : Str → Option Value} {K : PySem.W.Frag}
def spMade : V → (Int → Bool) → Hp → VK → Prop := fun v p H Q => ∃ (l : Addr) (ns : List Int), v = .ref l ∧ H l = some (.lst (ns.map V.int)) ∧ ns.length ≤ 63 ∧ ∀ (H' : Hp) (t : Addr), Same H H' → SetAt H' t (Rng.madeM p [] ns) → Q (.ref t) H'
theorem ok_made {f : Addr} {fd : FuncData} (F : Fun K "_law_made" "_law_made" s__law_made f fd) (T : Txt mg) (hm : mg "_law_made" = some (.ref f)) (hb : Binds K fd ["_law_points_here", "_law_is_in"] []) : CalL P w K mg base 2 3 "_law_made" spMade := by
  refine calL_of F sc__law_made hm hb (fun cdv A outer s H fn p v Q hg hr ans h => ?_)
  obtain ⟨l, ns, rfl, el, ln, q⟩ := h
  replace hr := And.intro hg hr
  refine ⟨_, (pss_cons (ps_set (i := 2) sc__law_made.nd rfl (Or.inl rfl) (pe_lst pa_nil))
        (pss_cons (ps_for PassesOwn.never rfl (pi_range1 (by rfl) T.b_range (pa_cons (pe_op op_sub (pe_callB call_lenL (by rfl) T.b_len (by decide +kernel) (pa_cons (pv 0) pa_nil)) pe_int) pa_nil)) (pg_name (i := 3) sc__law_made.nd rfl (Or.inl rfl)) (pss_cons (ps_par (i := 4) (j := 5) (by rfl) sc__law_made.nd rfl rfl (by decide) rfl rfl (pa_cons (pe_ix ix_v (pv 0) (pv 3) (fun _ _ => rfl)) (pa_cons (pe_op op_sub (pe_ix ix_v (pv 0) (pe_op op_add (pv 3) pe_int) (fun _ _ => rfl)) pe_int) pa_nil)) (by rfl))
        (pss_one (ps_if (PW.pt (pw_and (pt_val (pe_ans (i := 1) ans rfl hr (by decide) (by rfl) (Or.inl rfl) (pa_cons (pv 4) pa_nil))) (pw_and (pt_cmpR (op_neNil hr.2.u64) (pv 2) (pe_lst pa_nil) (nomark _)) (pw_and1 (pt_cmpR op_eq (pe_ix ix_t (pe_ix ix_v (pv 2) (pe_un un_neg pe_int) (fun _ _ => rfl)) pe_int (fun _ _ => rfl)) (pe_op op_sub (pv 4) pe_int) (nomark _)))))) (pss_one (ps_asg (pe_tup (pa_cons (pe_ix ix_t (pe_ix ix_v (pv 2) (pe_un un_neg pe_int) (fun _ _ => rfl)) pe_int (fun _ _ => rfl)) (pa_cons (pv 5) pa_nil))) (pg_sub (pv 2) (pe_un un_neg pe_int) set_list))) (pss_one (ps_if (pt_val (pe_ans (i := 1) ans rfl hr (by decide) (by rfl) (Or.inl rfl) (pa_cons (pv 4) pa_nil))) (pss_one (ps_expr (pe_bm PySem.F.plainAttrs_list PySem.F.slot_list_append PySem.F.type_list_append mt_append (pv 2) (pa_cons (pe_tup (pa_cons (pv 4) (pa_cons (pv 5) pa_nil))) pa_nil)))) pss_nil))))))
        (pss_one (ps_ret (pe_callTy call_tupleL (by rfl) T.b_tuple (by decide +kernel) (pa_cons (pv 2) pa_nil)))))), ?_⟩
  walk_at "rd"
  refine ⟨Nat.zero_le _, fun D nD => ?_⟩
  have s0 := new_same (o := HO.lst []) nD
  have hx0 : (cxOf CX0 P w K mg base ["_law_points_here", "_law_is_in", "_law_found", "_law_at", "_law_low", "_law_high"] "_law_made" (defScope s__law_made) f cdv A outer s H noErr).H_0 = H := rfl
  have drop2 : ∀ {i : Nat} (hi : i + 1 < ns.length), ns.drop i = ns[i] :: ns[i + 1] :: ns.drop (i + 2) := fun {i} hi => by
    rw [List.drop_eq_getElem_cons (show i < ns.length by omega), List.drop_eq_getElem_cons hi]
  have cell : ∀ {i : Nat} (hi : i < ns.length), atI (ns.map V.int) (i : Int) = some (.int ns[i]) := fun {i} hi => cell_at hi
  have big : ((ns.map V.int).length : Int) = ns.length := by rw [List.length_map]
  refine ⟨.ref l, rfl, l, rfl, ns.map V.int, s0 _ _ el, ((ns.map V.int).length : Int), 1, rfl, rfl, ((ns.map V.int).length : Int) - 1, rfl, by omega, by omega, for_range (lo := 0) (n := (((ns.map V.int).length : Int) - 1).toNat) (fun i σ H' => ∃ (u1 u2 u3 : Option V) (xf : List V) (acc : List (Int × Int)), σ = [some (.ref l), some (.ref fn), some (.ref D), u1, u2, u3] ∧ Same H H' ∧ H' D = some (.lst xf) ∧ PrAll H' xf acc ∧ acc.length ≤ i ∧ Rng.madeM p acc (ns.drop i) = Rng.madeM p [] ns)
    ⟨_, _, _, [], [], rfl, s0, upd_same, .nil, Nat.le_refl _, rfl⟩ ?_ ?_⟩
  · rintro i σ H1 hi ⟨u1, u2, u3, xf, acc, rfl, s1, eD, pf, la, eq⟩
    have h1 : i + 1 < ns.length := by omega
    have sl := s1 _ _ el
    have c1 : atI (ns.map V.int) (0 + (i : Int)) = some (.int ns[i]) := by rw [Int.zero_add]; exact cell (by omega)
    have c2 : atI (ns.map V.int) (0 + (i : Int) + 1) = some (.int ns[i + 1]) := by rw [Int.zero_add]; exact cell (i := i + 1) h1
    walk_at "rd"
    simp only [tAns, sl, c1, c2, Option.some.injEq, HO.lst.injEq, V.int.injEq, exists_eq_left']
    walk_at "rd"
    have step : Rng.madeM p (Rng.stepM p acc ns[i] (ns[i + 1] - 1)) (ns.drop (i + 1)) = Rng.madeM p [] ns := by
      rw [← eq, drop2 h1, List.drop_eq_getElem_cons h1, Rng.madeM]
    refine ⟨_, _, ⟨rfl, rfl⟩, ns[i], rfl, s1, fun H2 s2 => ?_⟩
    have xl := pf.len
    generalize ns[i] = a at *
    generalize ns[i + 1] - 1 = b at *
    by_cases pa : p a = true
    · rw [if_pos pa]
      have l60 : acc.length ≤ 62 := by omega
      have fin : ∀ (H4 : Hp) (T : Addr), Same H1 H4 → H4 T = none → Rng.stepM p acc a b = acc ++ [(a, b)] → ∃ x, upd H4 T (.tup [.int a, .int b]) D = some (.lst x) ∧ x.length < sizeLine ∧ Same H (upd (upd H4 T (.tup [.int a, .int b])) D (.lst (x ++ [.ref T]))) ∧
          ∃ acc', PrAll (upd (upd H4 T (.tup [.int a, .int b])) D (.lst (x ++ [.ref T]))) (x ++ [.ref T]) acc' ∧ acc'.length ≤ i + 1 ∧ Rng.madeM p acc' (ns.drop (i + 1)) = Rng.madeM p [] ns := by
        intro H4 T s4 nT e
        have sT := new_same (o := HO.tup [V.int a, V.int b]) nT
        have eT := sT _ _ (s4 _ _ eD)
        have nDT : D ≠ T := ne_of_none (s4 _ _ eD) nT
        rw [e] at step
        refine ⟨xf, eT, Nat.lt_of_le_of_lt (show xf.length ≤ 62 by omega) (by decide), fun d o z => ?_, acc ++ [(a, b)], ((PrAll.tk pf (TK.of (s4.trans sT))).tk (TK.put eT)).snoc ⟨T, rfl, by rw [upd_ne nDT.symm, upd_same]⟩, by rw [List.length_append]; simp only [List.length_cons, List.length_nil]; omega, step⟩
        rw [upd_ne (ne_of_none z nD)]
        exact sT _ _ (s4 _ _ (s1 _ _ z))
      refine ⟨Nat.zero_le _, fun B nB => ?_⟩
      have s3 := s2.trans (new_same (o := HO.lst []) nB)
      refine ⟨D, B, xf, acc, rfl, rfl, s3 _ _ eD, PrAll.tk pf (TK.of s3), upd_same, _, rfl, ?_⟩
      generalize upd H2 B (HO.lst []) = H3 at *
      rcases List.eq_nil_or_concat acc with nil | ⟨init, z, cc⟩
      · have e : Rng.stepM p acc a b = acc ++ [(a, b)] := by
          rw [nil]
          unfold Rng.stepM
          rw [if_pos pa]
          rfl
        rw [if_neg (by rw [nil]; decide)]
        refine ⟨a, rfl, s1.trans s3, fun H5 s5 => ?_⟩
        rw [if_pos pa]
        exact ⟨Or.inl ⟨rfl, xf, SqL.of (s5 _ _ (s3 _ _ eD))⟩, by decide, fun T nT => fin H5 T (s3.trans s5) nT e⟩
      · rw [List.concat_eq_append] at cc
        have ne : (!acc.isEmpty) = true := by
          rw [cc]
          cases init <;> rfl
        rw [if_pos ne]
        rw [cc] at pf
        obtain ⟨xi, v, ex, pi, t, rfl, ht⟩ := pf.split
        have il := pi.len
        have gl : acc.getLast? = some z := by rw [cc, List.getLast?_concat]
        refine ⟨xf, s3 _ _ eD, .ref t, by rw [ex]; exact atI_last, t, rfl, _, s3 _ _ ht, _, at21, a, rfl, rfl, ?_⟩
        by_cases zb : z.2 = a - 1
        · have e : Rng.stepM p acc a b = init ++ [(z.1, b)] := by
            unfold Rng.stepM
            rw [if_pos pa, gl]
            dsimp only
            rw [if_pos zb, cc, List.dropLast_concat]
          rw [e] at step
          rw [if_pos (decide_eq_true (by rw [zb]))]
          refine ⟨xf, s3 _ _ eD, .ref t, by rw [ex]; exact atI_last, t, rfl, _, s3 _ _ ht, _, at20, by decide, fun T nT => ?_⟩
          have sT := new_same (o := HO.tup [V.int z.1, V.int b]) nT
          have eT := sT _ _ (s3 _ _ eD)
          have nDT : D ≠ T := ne_of_none (s3 _ _ eD) nT
          have xs' : xf.set xi.length (.ref T) = xi ++ [.ref T] := by
            rw [ex, List.set_append_right _ _ (Nat.le_refl _), Nat.sub_self]
            rfl
          refine ⟨xf, eT, xi.length, by rw [ex, List.length_append]; exact ixN_last, ?_⟩
          rw [xs']
          refine ⟨fun d o y => ?_, init ++ [(z.1, b)], ((PrAll.tk pi (TK.of (s3.trans sT))).tk (TK.put eT)).snoc ⟨T, rfl, by rw [upd_ne nDT.symm, upd_same]⟩, ?_, step⟩
          · rw [upd_ne (ne_of_none y nD)]
            exact sT _ _ (s3 _ _ (s1 _ _ y))
          · rw [cc, List.length_append] at la
            rw [List.length_append]
            exact Nat.le_succ_of_le la
        · have e : Rng.stepM p acc a b = acc ++ [(a, b)] := by
            unfold Rng.stepM
            rw [if_pos pa, gl]
            dsimp only
            rw [if_neg zb]
          rw [← cc] at pf
          rw [if_neg (fun y => zb (V.int.inj (of_decide_eq_true y)))]
          refine ⟨a, rfl, s1.trans s3, fun H5 s5 => ?_⟩
          rw [if_pos pa]
          exact ⟨Or.inl ⟨rfl, xf, SqL.of (s5 _ _ (s3 _ _ eD))⟩, by decide, fun T nT => fin H5 T (s3.trans s5) nT e⟩
    · rw [if_neg pa]
      refine ⟨a, rfl, s1.trans s2, fun H3 s3 => ?_⟩
      rw [if_neg pa]
      have e : Rng.stepM p acc a b = acc := by
        unfold Rng.stepM
        rw [if_neg pa]
      rw [e] at step
      exact ⟨s1.trans (s2.trans s3), xf, s3 _ _ (s2 _ _ eD), acc, PrAll.tk pf (TK.of (s2.trans s3)), by omega, step⟩
  · rintro σ H1 ⟨u1, u2, u3, xf, acc, rfl, s1, eD, pf, la, eq⟩
    walk_at "rd"
    refine ⟨xf, eD, fun t nt => q _ t (s1.trans (new_same nt)) ⟨xf, upd_same, ?_⟩⟩
    have e : acc = Rng.madeM p [] ns := by
      rw [← eq]
      generalize er : ns.drop (((ns.map V.int).length : Int) - 1).toNat = r
      have lr : r.length ≤ 1 := by
        rw [← er, List.length_drop]
        omega
      match r, lr with
      | [], _ => rw [Rng.madeM]; exact fun _ _ _ z => nomatch z
      | [x], _ => rw [Rng.madeM]; exact fun _ _ _ z => nomatch z
    rw [← e]
    exact PrAll.tk pf (TK.of (new_same nt))
end
end Pf

set_option Elab.async false
set_option linter.all false
set_option maxRecDepth 100000
/-! Pairs poured together; numbers. -/
namespace Pf
open PySem PySem.Spec PyProof.Rows L2
local macro_rules | `(tactic| walk_at "rd") => `(tactic| simp only [tC1, tCK, tB, rNe, rEq, tChain, gTupV, gCons, gNil, Nat.sub_self, Nat.reduceSub, List.replicate_zero, List.replicate_succ, tTest, tIfS, tIf, tNot, tAnd, tOr, tAndV, tOrV, tNotV, tDrop, tNext, rIxV, rIxP,
  gSub, rSetL, tSl, tPart, tNoPart, rSl1, tAsg2, ipI, tDNewK, tBM, rAppend, wipe, rAllB, rAnyB, iTup, iList, RZ.iZipA, iRng1, iRng2, tYes, upd_same, at0, at1, at2, at20, at21, ixN30, ixN32, HO.lst.injEq, HO.tup.injEq, Nat.reduceAdd, tSeq, tAsg, tPar, tAug, tOp, tVar, tC, tCB, tCons, tNil, rI, rI0, rU, tUn, gName, tRet, tLst, tLstM, tTup, L2.start, List.map_cons, List.map_nil, List.length_cons, List.length_nil, List.replicate, List.cons_append,
  List.nil_append, List.set_cons_zero, List.set_cons_succ, List.getElem?_cons_zero, List.getElem?_cons_succ, Option.some.injEq, V.int.injEq, V.ref.injEq, V.bl.injEq, V.str.injEq, List.cons.injEq, exists_eq_left', exists_eq_left, exists_and_left, exists_and_right, and_true, true_and, reduceCtorEq, false_and,
  exists_false, or_false, false_or, exists_const, exists_eq, exists_eq', Bool.not_true, Bool.not_false, Bool.false_eq_true, if_true, if_false, ite_true, ite_false])
abbrev s__law_poured : Stmt := topS 14
theorem sc__law_poured : FnScope ["_law_pairs", "_law_found", "_law_low", "_law_high"] ["_law_pairs"] (defScope s__law_poured) := ⟨rfl, rfl, rfl, by decide +kernel, rfl, by decide +kernel, by decide +kernel⟩
abbrev s__law_numbers : Stmt := topS 15
theorem sc__law_numbers : FnScope ["_law_spans_here", "_law_found", "_law_low", "_law_high"] ["_law_spans_here"] (defScope s__law_numbers) := ⟨rfl, rfl, rfl, by decide +kernel, rfl, by decide +kernel, by decide +kernel⟩
abbrev s__law_of_numbers : Stmt := topS 16
theorem sc__law_of_numbers : FnScope ["_law_numbers_here", "_law_number"] ["_law_numbers_here"] (defScope s__law_of_numbers) := ⟨rfl, rfl, rfl, by decide +kernel, rfl, by decide +kernel, by decide +kernel⟩
section
variable {base : Heap} {P : Program} {w : World} {mg : Str → Option Value} {K : PySem.W.Frag}
def sp_poured : Sp := fun vs H Q _ => ∃ (l : Addr) (xs : List V) (ps : List (Int × Int)), vs = [.ref l] ∧ H l = some (.lst xs) ∧ PrAll H xs ps ∧ ps.length ≤ 1000 ∧ (∀ q ∈ ps, q.1 ≤ q.2) ∧
  ∀ (H' : Hp) (t : Addr) (rs : List (Int × Int)), Same H H' → SetAt H' t rs → Rng.Rg rs → (∀ n, Rng.In n rs ↔ Rng.In n ps) → Q (.ref t) H'
theorem ok_poured {f : Addr} {fd : FuncData} (F : Fun K "_law_poured" "_law_poured" s__law_poured f fd) (T : Txt mg) : FnG P w K mg base 1 f fd ["_law_pairs"] sp_poured := by
  refine okG F sc__law_poured (fun vs H Q E h => ?_) (fun cdv A outer s H vs Q E hg hr h => ?_)
  · obtain ⟨l, xs, ps, rfl, _⟩ := h
    rfl
  · obtain ⟨l, xs, ps, rfl, el, pr, ln, o, q⟩ := h
    replace hr := And.intro hg hr
    refine ⟨_, (pss_cons (ps_set (i := 1) sc__law_poured.nd rfl (Or.inl rfl) (pe_lst pa_nil))
        (pss_cons (ps_for PassesOwn.never rfl (pi_list (pe_callB cr_sortedPO (by rfl) T.b_sorted (by decide +kernel) (pa_cons (pv 0) pa_nil))) (pg_tupV (n := 2) rfl (pgs_cons (pg_name (i := 2) sc__law_poured.nd rfl (Or.inl rfl)) (pgs_cons (pg_name (i := 3) sc__law_poured.nd rfl (Or.inl rfl)) pgs_nil))) (pss_one (ps_if (PW.pt (pw_and (pt_cmpR (op_neNil hr.2.u64) (pv 1) (pe_lst pa_nil) (nomark _)) (pw_and1 (pt_cmpR op_le (pv 2) (pe_op op_add (pe_ix ix_t (pe_ix ix_v (pv 1) (pe_un un_neg pe_int) (fun _ _ => rfl)) pe_int (fun _ _ => rfl)) pe_int) (nomark _))))) (pss_one (ps_asg (pe_tup (pa_cons (pe_ix ix_t (pe_ix ix_v (pv 1) (pe_un un_neg pe_int) (fun _ _ => rfl)) pe_int (fun _ _ => rfl)) (pa_cons (pe_callB (call_max2 rfl) (by rfl) T.b_max (by decide +kernel) (pa_cons (pe_ix ix_t (pe_ix ix_v (pv 1) (pe_un un_neg pe_int) (fun _ _ => rfl)) pe_int (fun _ _ => rfl)) (pa_cons (pv 3) pa_nil))) pa_nil))) (pg_sub (pv 1) (pe_un un_neg pe_int) set_list))) (pss_one (ps_expr (pe_bm PySem.F.plainAttrs_list PySem.F.slot_list_append PySem.F.type_list_append mt_append (pv 1) (pa_cons (pe_tup (pa_cons (pv 2) (pa_cons (pv 3) pa_nil))) pa_nil)))))))
        (pss_one (ps_ret (pe_callTy call_tupleL (by rfl) T.b_tuple (by decide +kernel) (pa_cons (pv 1) pa_nil)))))), ?_⟩
    walk_at "rd"
    refine ⟨Nat.zero_le _, fun D nD => ?_⟩
    have s0 := new_same (o := HO.lst []) nD
    have pr0 := PrAll.tk pr (TK.of s0)
    generalize eH0 : upd H D (HO.lst []) = H0 at *
    have eD0 : H0 D = some (.lst []) := by rw [← eH0, upd_same]
    refine ⟨.ref l, rfl, l, xs, kV H0, rfl, SqL.of (s0 _ _ el), fun x m => ?_, fun ys L so sb nL => ?_⟩
    · obtain ⟨t, e1, e2⟩ := pr0.mem x m
      exact ⟨t, e1, e2⟩
    · obtain ⟨rs, pr1, pm, _, j, asc⟩ := sorted_prs pr0 so sb o
      obtain ⟨g1, g2⟩ := Rng.united_spec asc
      have s1 := new_same (o := HO.lst ys) nL
      have pr2 := PrAll.tk pr1 (TK.of s1)
      have lr := pm.length_eq
      have yl := pr1.len
      generalize eH1 : upd H0 L (HO.lst ys) = H1 at *
      have eL1 : H1 L = some (.lst ys) := by rw [← eH1, upd_same]
      have nDL : D ≠ L := ne_of_none eD0 nL
      have eD1 := s1 _ _ eD0
      have s01 := s0.trans s1
      have fin : ∀ (H2 : Hp) (t : Addr), Same H H2 → SetAt H2 t (Rng.united rs) → Q (.ref t) H2 := fun H2 t s2 st => q H2 t _ s2 st g1 fun n => by rw [g2, in_perm pm]
      refine ⟨L, rfl, ⟨ys, SqL.of eL1⟩, for_list (K := K) (xs := ys) (fun i σ H' => ∃ (u1 u2 : Option V) (xf : List V) (acc : List (Int × Int)), σ = [some (.ref l), some (.ref D), u1, u2] ∧ Same H H' ∧ H' L = some (.lst ys) ∧ PrAll H' ys rs ∧ H' D = some (.lst xf) ∧ PrAll H' xf acc ∧ acc.length ≤ i ∧
          ((i = 0 ∧ acc = []) ∨ ∃ init z, acc = init ++ [z] ∧ init ++ Rng.pour z.1 z.2 (rs.drop i) = Rng.united rs))
        ⟨_, _, [], [], rfl, s01, eL1, pr2, eD1, .nil, Nat.le_refl _, Or.inl ⟨rfl, rfl⟩⟩ (fun i σ H' _ ⟨_, _, _, _, _, _, e, _⟩ => SqL.of e) ?_ ?_⟩
      · rintro i x σ H2 hx ⟨u1, u2, xf, acc, rfl, s2, eL2, pr3, eD2, pf, la, inv⟩
        have hi : i < rs.length := by
          have := (List.getElem?_eq_some_iff.mp hx).1
          omega
        obtain ⟨t, it, ht⟩ := pr3.at hi
        have ex : x = .ref t := by
          rw [atI_nat hx] at it
          exact Option.some.inj it
        subst ex
        walk_at "rd"
        simp only [ht, Option.some.injEq, HO.tup.injEq, exists_eq_left']
        walk_at "rd"
        refine ⟨_, _, ⟨rfl, rfl⟩, _, _, rfl, rfl, Nat.zero_le _, fun B nB => ?_⟩
        have s3 := new_same (o := HO.lst []) nB
        refine ⟨D, B, xf, acc, rfl, rfl, s3 _ _ eD2, PrAll.tk pf (TK.of s3), upd_same, _, rfl, ?_⟩
        have drop1 : rs.drop i = rs[i] :: rs.drop (i + 1) := List.drop_eq_getElem_cons hi
        have s23 := s2.trans s3
        have eD3 := s3 _ _ eD2
        have eL3 := s3 _ _ eL2
        have pr4 := PrAll.tk pr3 (TK.of s3)
        have pf4 := PrAll.tk pf (TK.of s3)
        have xl := pf.len
        generalize upd H2 B (HO.lst []) = H3 at *
        have small : xf.length < sizeLine := Nat.lt_of_le_of_lt (show xf.length ≤ 1000 by omega) (by decide)
        have fin : acc ++ Rng.pour rs[i].1 rs[i].2 (rs.drop (i + 1)) = Rng.united rs → ∀ T, H3 T = none → ∃ x, upd H3 T (.tup [.int rs[i].1, .int rs[i].2]) D = some (.lst x) ∧ x.length < sizeLine ∧ Same H (upd (upd H3 T (.tup [.int rs[i].1, .int rs[i].2])) D (.lst (x ++ [.ref T]))) ∧
            upd (upd H3 T (.tup [.int rs[i].1, .int rs[i].2])) D (.lst (x ++ [.ref T])) L = some (.lst ys) ∧ PrAll (upd (upd H3 T (.tup [.int rs[i].1, .int rs[i].2])) D (.lst (x ++ [.ref T]))) ys rs ∧
            ∃ acc', PrAll (upd (upd H3 T (.tup [.int rs[i].1, .int rs[i].2])) D (.lst (x ++ [.ref T]))) (x ++ [.ref T]) acc' ∧ acc'.length ≤ i + 1 ∧ ∃ init z, acc' = init ++ [z] ∧ init ++ Rng.pour z.1 z.2 (rs.drop (i + 1)) = Rng.united rs := by
          intro e T nT
          have sT := new_same (o := HO.tup [V.int rs[i].1, V.int rs[i].2]) nT
          have eT := sT _ _ eD3
          have nDT : D ≠ T := ne_of_none eD3 nT
          refine ⟨xf, eT, small, fun d o y => ?_, by rw [upd_ne nDL.symm]; exact sT _ _ eL3, (PrAll.tk pr4 (TK.of sT)).tk (TK.put eT), acc ++ [rs[i]], ((PrAll.tk pf4 (TK.of sT)).tk (TK.put eT)).snoc ⟨T, rfl, by rw [upd_ne nDT.symm, upd_same]⟩, by rw [List.length_append]; simp only [List.length_cons, List.length_nil]; omega, acc, rs[i], rfl, e⟩
          rw [upd_ne (ne_of_none y nD)]
          exact sT _ _ (s23 _ _ y)
        rcases inv with ⟨i0, nil⟩ | ⟨init, z, cc, inv⟩
        · rw [if_neg (by rw [nil]; decide)]
          refine ⟨Or.inl ⟨rfl, xf, SqL.of eD3⟩, by decide, fun T nT => fin ?_ T nT⟩
          rw [nil]
          subst i0
          rw [List.drop_zero] at drop1
          conv => rhs; rw [drop1]
          rfl
        · have ne : (!acc.isEmpty) = true := by
            rw [cc]
            cases init <;> rfl
          rw [if_pos ne]
          rw [cc] at pf4
          obtain ⟨xi, v, ex, pi, t2, rfl, ht2⟩ := pf4.split
          have il := pi.len
          rw [drop1, Rng.pour] at inv
          refine ⟨xf, eD3, .ref t2, by rw [ex]; exact atI_last, t2, rfl, _, ht2, _, at21, _, rfl, _, rfl, ?_⟩
          by_cases c : rs[i].1 ≤ z.2 + 1
          · rw [if_neg (by omega)] at inv
            rw [if_pos (decide_eq_true c)]
            refine ⟨xf, eD3, .ref t2, by rw [ex]; exact atI_last, t2, rfl, _, ht2, _, at20, xf, eD3, .ref t2, by rw [ex]; exact atI_last, t2, rfl, _, ht2, _, at21, ?_⟩
            refine ⟨_, _, ⟨rfl, rfl⟩, by decide, ?_⟩
            rw [ifmax]
            intro T nT
            have sT := new_same (o := HO.tup [V.int z.1, V.int (max z.2 rs[i].2)]) nT
            have eT := sT _ _ eD3
            have nDT : D ≠ T := ne_of_none eD3 nT
            have xs' : xf.set xi.length (.ref T) = xi ++ [.ref T] := by
              rw [ex, List.set_append_right _ _ (Nat.le_refl _), Nat.sub_self]
              rfl
            refine ⟨xf, eT, xi.length, by rw [ex, List.length_append]; exact ixN_last, ?_⟩
            rw [xs']
            refine ⟨fun d o y => ?_, by rw [upd_ne nDL.symm]; exact sT _ _ eL3, (PrAll.tk pr4 (TK.of sT)).tk (TK.put eT), init ++ [(z.1, max z.2 rs[i].2)], ((PrAll.tk pi (TK.of sT)).tk (TK.put eT)).snoc ⟨T, rfl, by rw [upd_ne nDT.symm, upd_same]⟩, ?_, init, _, rfl, inv⟩
            · rw [upd_ne (ne_of_none y nD)]
              exact sT _ _ (s23 _ _ y)
            · rw [cc, List.length_append] at la
              rw [List.length_append]
              exact Nat.le_succ_of_le la
          · rw [if_pos (by omega)] at inv
            rw [if_neg (fun y => c (of_decide_eq_true y))]
            refine ⟨Or.inl ⟨rfl, xf, SqL.of eD3⟩, by decide, fun T nT => fin ?_ T nT⟩
            rw [cc, List.append_assoc]
            exact inv
      · rintro σ H2 ⟨u1, u2, xf, acc, rfl, s2, eL2, pr3, eD2, pf, la, inv⟩
        walk_at "rd"
        refine ⟨xf, eD2, fun t nt => fin _ t (s2.trans (new_same nt)) ⟨xf, upd_same, ?_⟩⟩
        have e : acc = Rng.united rs := by
          rcases inv with ⟨i0, nil⟩ | ⟨init, z, cc, inv⟩
          · have : rs = [] := List.eq_nil_of_length_eq_zero (by omega)
            rw [nil, this]
            rfl
          · rw [List.drop_of_length_le (by omega), Rng.pour] at inv
            rw [cc]
            exact inv
        rw [← e]
        exact PrAll.tk pf (TK.of (new_same nt))
/-- the numbers of pairs -/
def numsOf (ps : List (Int × Int)) : List Int := ps.flatMap fun q => (List.range (q.2 + 1 - q.1).toNat).map fun (i : Nat) => q.1 + (i : Int)
theorem nums_mem {ps : List (Int × Int)} {n : Int} : n ∈ numsOf ps ↔ Rng.In n ps := by
  unfold numsOf Rng.In
  rw [List.mem_flatMap]
  constructor
  · rintro ⟨q, m, h⟩
    obtain ⟨i, hi, e⟩ := List.mem_map.mp h
    have := List.mem_range.mp hi
    exact ⟨q, m, by omega, by omega⟩
  · rintro ⟨q, m, h1, h2⟩
    exact ⟨q, m, List.mem_map.mpr ⟨(n - q.1).toNat, List.mem_range.mpr (by omega), by omega⟩⟩
theorem rgV_eq (a b : Int) : rgV a b = ((List.range (b - a).toNat).map fun (i : Nat) => a + (i : Int)).map V.int := by
  unfold rgV
  rw [List.map_map]
  rfl
/-- so many numbers at most -/
def NumsOk (m : Nat) (ps : List (Int × Int)) : Prop := ∀ j, (numsOf (ps.take j)).length ≤ m
def Low62 (ps : List (Int × Int)) : Prop := ∀ q ∈ ps, -(2 ^ 60) < q.1 ∧ q.1 ≤ q.2 ∧ q.2 < 2 ^ 60 ∧ q.2 - q.1 ≤ 1000
def sp_numbers : Sp := fun vs H Q _ => ∃ (a : Addr) (ps : List (Int × Int)), vs = [.ref a] ∧ SetAt H a ps ∧ NumsOk 1000 ps ∧ Low62 ps ∧ ∀ (H' : Hp) (t : Addr), Same H H' → H' t = some (.lst ((numsOf ps).map V.int)) → H t = none → Q (.ref t) H'
theorem ok_numbers {f : Addr} {fd : FuncData} (F : Fun K "_law_numbers" "_law_numbers" s__law_numbers f fd) (T : Txt mg) : FnG P w K mg base 1 f fd ["_law_spans_here"] sp_numbers := by
  refine okG F sc__law_numbers (fun vs H Q E h => ?_) (fun cdv A outer s H vs Q E hg hr h => ?_)
  · obtain ⟨a, ps, rfl, _⟩ := h
    rfl
  · obtain ⟨a, ps, rfl, ⟨xs, ea, pa⟩, few, low, q⟩ := h
    replace hr := And.intro hg hr
    refine ⟨_, (pss_cons (ps_set (i := 1) sc__law_numbers.nd rfl (Or.inl rfl) (pe_lst pa_nil))
        (pss_cons (ps_for PassesOwn.never rfl (pi_tup (pv 0)) (pg_tupV (n := 2) rfl (pgs_cons (pg_name (i := 2) sc__law_numbers.nd rfl (Or.inl rfl)) (pgs_cons (pg_name (i := 3) sc__law_numbers.nd rfl (Or.inl rfl)) pgs_nil))) (pss_one (ps_expr (pe_bm PySem.F.plainAttrs_list PySem.F.slot_list_extend PySem.F.type_list_extend mt_extend (pv 1) (pa_cons (pe_listRg rfl (by rfl) T.b_list (prg_2 (by rfl) T.b_range (pv 2) (pe_op op_add (pv 3) pe_int))) pa_nil)))))
        (pss_one (ps_ret (pv 1))))), ?_⟩
    walk_at "rd"
    refine ⟨Nat.zero_le _, fun D nD => ?_⟩
    have s0 := new_same (o := HO.lst []) nD
    have xl := pa.len
    refine ⟨.ref a, rfl, a, rfl, ⟨xs, SqT.of (s0 _ _ ea)⟩, for_tup (K := K) (xs := xs) (fun j σ H' => ∃ (u2 u3 : Option V), σ = [some (.ref a), some (.ref D), u2, u3] ∧ Same H H' ∧ H' D = some (.lst ((numsOf (ps.take j)).map V.int)))
      ⟨_, _, rfl, s0, upd_same⟩ (fun j σ H' _ ⟨_, _, _, ss, _⟩ => SqT.of (ss _ _ ea)) ?_ ?_⟩
    · rintro j x σ H2 hx ⟨v2, v3, rfl, s2, eD⟩
      have hj : j < ps.length := by
        have := (List.getElem?_eq_some_iff.mp hx).1
        omega
      obtain ⟨t, it, ht⟩ := (PrAll.tk pa (TK.of s2)).at hj
      have ex : x = .ref t := by
        rw [atI_nat hx] at it
        exact Option.some.inj it
      subst ex
      obtain ⟨l1, l2, l3, l4⟩ := low _ (List.getElem_mem hj)
      have f1 := few j
      walk_at "rd"
      simp only [ht, Option.some.injEq, HO.tup.injEq, exists_eq_left', tLstRg, tRg2]
      walk_at "rd"
      refine ⟨_, _, ⟨rfl, rfl⟩, _, _, rfl, rfl, Or.inl ⟨rfl, _, SqL.of eD⟩, ?_⟩
      refine ⟨_, rfl, _, rfl, ⟨by omega, by omega, by omega, by omega, by omega⟩, fun B nB => ?_⟩
      have sB := new_same (o := HO.lst (rgV ps[j].1 (ps[j].2 + 1))) nB
      refine ⟨D, B, (numsOf (ps.take j)).map V.int, _, rfl, rfl, sB _ _ eD, upd_same, ?_, fun d o e => ?_, ?_⟩
      · rw [List.length_map, rgV_length]
        exact Nat.le_trans (show _ ≤ 3000 by omega) (by decide)
      · rw [upd_ne (ne_of_none e nD)]
        exact sB _ _ (s2 _ _ e)
      · rw [upd_same, rgV_eq, ← List.map_append]
        have e : numsOf (ps.take (j + 1)) = numsOf (ps.take j) ++ (List.range (ps[j].2 + 1 - ps[j].1).toNat).map fun (i : Nat) => ps[j].1 + (i : Int) := by
          unfold numsOf
          rw [List.take_add_one, List.getElem?_eq_getElem hj, List.flatMap_append]
          simp
        rw [e]
    · rintro σ H2 ⟨v2, v3, rfl, s2, eD⟩
      walk_at "rd"
      rw [List.take_of_length_le (by omega)] at eD
      exact q H2 D s2 eD nD
def sp_ofnums : Sp := fun vs H Q _ => ∃ (l : Addr) (ns : List Int), vs = [.ref l] ∧ H l = some (.lst (ns.map V.int)) ∧ ns.length ≤ 1000 ∧ ∀ (H' : Hp) (t : Addr) (rs : List (Int × Int)), Same H H' → SetAt H' t rs → Rng.Rg rs → (∀ n, Rng.In n rs ↔ n ∈ ns) → Q (.ref t) H'
theorem ok_ofnums {f : Addr} {fd : FuncData} (F : Fun K "_law_of_numbers" "_law_of_numbers" s__law_of_numbers f fd) (T : Txt mg) (C__law_poured : Cal P w K mg base 1 "_law_poured" sp_poured) : FnG P w K mg base 2 f fd ["_law_numbers_here"] sp_ofnums := by
  refine okG F sc__law_of_numbers (fun vs H Q E h => ?_) (fun cdv A outer s H vs Q E hg hr h => ?_)
  · obtain ⟨l, ns, rfl, _⟩ := h
    rfl
  · obtain ⟨l, ns, rfl, el, ln, q⟩ := h
    replace hr := And.intro hg hr
    refine ⟨_, (pss_one (ps_ret (pe_c C__law_poured hr (by decide) (by rfl) (pa_cons (pe_lc (own := [("_law_number", 1)]) (g := gName 1) (tt := tYes) rfl sc__law_of_numbers.nd (pi_list (pv 0)) (blkOk_by (own := [("_law_number", 1)]) (N := ["_law_numbers_here", "_law_number"]) (sc := defScope s__law_of_numbers) (by decide +kernel)) (fun _ _ _ _ _ => (pg_name (i := 1) sc__law_of_numbers.nd rfl (Or.inl rfl))) (fun _ _ _ _ _ => pts_nil) (fun _ _ _ _ _ => (pe_tup (pa_cons (pv 1) (pa_cons (pv 1) pa_nil))))) pa_nil)))), ?_⟩
    walk_at "rd"
    refine ⟨.ref l, rfl, l, rfl, ⟨_, SqL.of el⟩, fun D nD => lc_it (walk_list (xs := ns.map V.int)) (fun i H' => ∃ xf, Same H H' ∧ H' D = some (.lst xf) ∧ PrAll H' xf ((ns.take i).map fun n => (n, n))) ⟨[], new_same nD, upd_same, .nil⟩ (fun i H' _ ⟨_, ss, _⟩ => SqL.of (ss _ _ el)) ?_ ?_⟩
    · rintro i x H1 H2 hi ⟨xf, s1, eD, pf⟩ hy
      obtain ⟨rfl, hx⟩ := hy
      have hi2 : i < ns.length := by
        rw [List.length_map] at hi
        exact hi
      have ex : x = .int ns[i] := by
        rw [List.getElem?_map, List.getElem?_eq_getElem hi2] at hx
        exact (Option.some.inj hx).symm
      subst ex
      have xl := pf.len
      rw [List.length_map, List.length_take] at xl
      refine ⟨rfl, ?_⟩
      walk_at "rd"
      refine ⟨by decide, fun T nT => ⟨xf, ?_⟩⟩
      have sT := new_same (o := HO.tup [V.int ns[i], V.int ns[i]]) nT
      have eT := sT _ _ eD
      have nDT : D ≠ T := ne_of_none eD nT
      refine ⟨eT, Nat.lt_of_le_of_lt (show xf.length ≤ 1000 by omega) (by decide), fun d o y => ?_, ?_⟩
      · rw [upd_ne (ne_of_none y nD)]
        exact sT _ _ (s1 _ _ y)
      · rw [List.take_add_one, List.getElem?_eq_getElem hi2, List.map_append]
        exact ((PrAll.tk pf (TK.of sT)).tk (TK.put eT)).snoc ⟨T, rfl, by rw [upd_ne nDT.symm, upd_same]⟩
    · rintro H1 ⟨xf, s1, eD, pf⟩
      rw [List.length_map, List.take_length] at pf
      refine ⟨D, xf, _, rfl, eD, pf, by rw [List.length_map]; exact ln, fun z m => ?_, fun H2 t rs s2 st g1 g2 => q H2 t rs (s1.trans s2) st g1 fun n => ?_⟩
      · obtain ⟨n, _, rfl⟩ := List.mem_map.mp m
        exact Int.le_refl _
      · rw [g2]
        constructor
        · rintro ⟨z, m, h1, h2⟩
          obtain ⟨k, mk, rfl⟩ := List.mem_map.mp m
          have h1' : k ≤ n := h1
          have h2' : n ≤ k := h2
          have e : n = k := by omega
          rw [e]
          exact mk
        · exact fun m => ⟨(n, n), List.mem_map.mpr ⟨n, m, rfl⟩, Int.le_refl _, Int.le_refl _⟩
end
end Pf

set_option Elab.async false
set_option linter.all false
set_option maxRecDepth 100000
/-! Two range sets, drawn. -/
namespace Pf
open PySem PySem.Spec PyProof.Rows L2
local macro_rules | `(tactic| walk_at "rd") => `(tactic| simp only [tC1, tCK, tB, rNe, rEq, tChain, gTupV, gCons, gNil, Nat.sub_self, Nat.reduceSub, List.replicate_zero, List.replicate_succ, tTest, tIfS, tIf, tNot, tAnd, tOr, tAndV, tOrV, tNotV, tDrop, tNext, rIxV, rIxP,
  gSub, rSetL, tSl, tPart, tNoPart, rSl1, tAsg2, ipI, tDNewK, tBM, rAppend, wipe, rAllB, rAnyB, iTup, iList, RZ.iZipA, iRng1, iRng2, tYes, upd_same, at0, at1, at2, at20, at21, ixN30, ixN32, HO.lst.injEq, HO.tup.injEq, Nat.reduceAdd, tSeq, tAsg, tPar, tAug, tOp, tVar, tC, tCB, tCons, tNil, rI, rI0, rU, tUn, gName, tRet, tLst, tLstM, tTup, L2.start, List.map_cons, List.map_nil, List.length_cons, List.length_nil, List.replicate, List.cons_append,
  List.nil_append, List.set_cons_zero, List.set_cons_succ, List.getElem?_cons_zero, List.getElem?_cons_succ, Option.some.injEq, V.int.injEq, V.ref.injEq, V.bl.injEq, V.str.injEq, List.cons.injEq, exists_eq_left', exists_eq_left, exists_and_left, exists_and_right, and_true, true_and, reduceCtorEq, false_and,
  exists_false, or_false, false_or, exists_const, exists_eq, exists_eq', Bool.not_true, Bool.not_false, Bool.false_eq_true, if_true, if_false, ite_true, ite_false])
abbrev s__law_pair : Stmt := topS 17
theorem sc__law_pair : FnScope ["_law_pot_here", "_law_far", "_law_first", "_law_second"] ["_law_pot_here"] (defScope s__law_pair) := ⟨rfl, rfl, rfl, by decide +kernel, rfl, by decide +kernel, by decide +kernel⟩
/-- a range set within the bounds that are drawn -/
structure Bd (F : Int) (ps : List (Int × Int)) : Prop where
  rg : Rng.Rg ps
  len : ps.length ≤ 6
  lo : ∀ q ∈ ps, 0 - F ≤ q.1 ∧ q.2 ≤ F
theorem from_lo : ∀ {k : Int} {ps : List (Int × Int)}, Rng.From k ps → ∀ q ∈ ps, k ≤ q.1 ∧ q.1 ≤ q.2
  | _, [], _ => fun _ z => (List.not_mem_nil z).elim
  | _, q :: r, ⟨h1, h2, h3⟩ => fun z m => by
    rcases List.mem_cons.mp m with e | m
    · rw [e]
      exact ⟨h1, h2⟩
    · have := from_lo h3 z m
      exact ⟨by omega, this.2⟩
theorem Bd.tail {F : Int} {ps : List (Int × Int)} (h : Bd F ps) : Bd F (ps.drop 1) := by
  obtain ⟨⟨k, f⟩, l, b⟩ := h
  cases ps with
  | nil => exact ⟨⟨k, f⟩, l, b⟩
  | cons q r => exact ⟨⟨_, f.2.2⟩, by show r.length ≤ 6; simp only [List.length_cons] at l; omega, fun z m => b z (List.mem_cons_of_mem _ m)⟩
section
variable {base : Heap} {P : Program} {w : World} {mg : Str → Option Value} {K : PySem.W.Frag}
def sp_lpair : Sp := fun vs H Q _ => ∃ (p : Addr) (m : Nat), vs = [.ref p] ∧ Pot H p m ∧ m + 1000 < 1000000 ∧ ∀ (H' : Hp) (t a b : Addr) (F : Int) (ps qs : List (Int × Int)), Kp p H H' → Pot H' p (m + 300) → H' t = some (.tup [.ref a, .ref b, .bl (decide (F < 100))]) → SetAt H' a ps → SetAt H' b qs → Bd F ps → Bd F qs → 0 ≤ F → F ≤ 10 ^ 12 → (F < 100 → F ≤ 25) → Q (.ref t) H'
theorem ok_lpair {f : Addr} {fd : FuncData} (F : Fun K "_law_pair" "_law_pair" s__law_pair f fd) (T : Txt mg) (C__law_any : Cal P w K mg base 2 "_law_any" sp_any) (C__law_spans : Cal P w K mg base 3 "_law_spans" sp_spans) : FnG P w K mg base 4 f fd ["_law_pot_here"] sp_lpair := by
  refine okG F sc__law_pair (fun vs H Q E h => ?_) (fun cdv A outer s H vs Q E hg hr h => ?_)
  · obtain ⟨p, m, rfl, _⟩ := h
    rfl
  · obtain ⟨p, m, rfl, hp, hm, q⟩ := h
    replace hr := And.intro hg hr
    refine ⟨_, (pss_cons (ps_set (i := 1) sc__law_pair.nd rfl (Or.inl rfl) (pe_c C__law_any hr (by decide) (by rfl) (pa_cons (pv 0) (pa_cons (pe_lst (pa_cons pe_int (pa_cons pe_int (pa_cons pe_int (pa_cons (pe_op op_powW pe_int pe_int) pa_nil))))) pa_nil))))
        (pss_cons (ps_set (i := 2) sc__law_pair.nd rfl (Or.inl rfl) (pe_c C__law_spans hr (by decide) (by rfl) (pa_cons (pv 0) (pa_cons pe_int (pa_cons (pe_op op_sub pe_int (pv 1)) (pa_cons (pv 1) pa_nil))))))
        (pss_cons (ps_set (i := 3) sc__law_pair.nd rfl (Or.inl rfl) (pe_c C__law_any hr (by decide) (by rfl) (pa_cons (pv 0) (pa_cons (pe_lst (pa_cons (pe_c C__law_spans hr (by decide) (by rfl) (pa_cons (pv 0) (pa_cons pe_int (pa_cons (pe_op op_sub pe_int (pv 1)) (pa_cons (pv 1) pa_nil))))) (pa_cons (pe_c C__law_spans hr (by decide) (by rfl) (pa_cons (pv 0) (pa_cons pe_int (pa_cons pe_int (pa_cons (pv 1) pa_nil))))) (pa_cons (pv 2) (pa_cons (pe_slice sl_one (pv 2) (po_some pe_int) po_none) (pa_cons (pe_tup pa_nil) pa_nil)))))) pa_nil))))
        (pss_one (ps_ret (pe_tup (pa_cons (pv 2) (pa_cons (pv 3) (pa_cons (pe_cmpR op_lt (pv 1) pe_int (nomark _)) pa_nil))))))))), ?_⟩
    walk_at "rd"
    refine ⟨by decide +kernel, by decide, fun L nL => ?_⟩
    obtain ⟨yp, ep⟩ := hp.lst
    have sL := new_same (o := HO.lst [V.int 8, V.int 25, V.int 9999, V.int (10 ^ Int.toNat 12)]) nL
    refine ⟨p, L, _, m, rfl, hp.same sL, by omega, (ne_of_none ep nL).symm, upd_same, by simp, by simp, fun H1 x k1 p1 mx => ?_⟩
    obtain ⟨F, rfl, F0, F1, F2⟩ : ∃ F : Int, x = .int F ∧ 0 ≤ F ∧ F ≤ 10 ^ 12 ∧ (F < 100 → F ≤ 25) := by
      simp only [List.mem_cons, List.not_mem_nil, or_false] at mx
      rcases mx with rfl | rfl | rfl | rfl
      · exact ⟨_, rfl, by decide, by decide, by decide⟩
      · exact ⟨_, rfl, by decide, by decide, by decide⟩
      · exact ⟨_, rfl, by decide, by decide, by decide⟩
      · exact ⟨_, rfl, by decide +kernel, by decide +kernel, by decide +kernel⟩
    have k01 : Kp p H H1 := (Kp.of sL).trans k1
    have big : (10 : Int) ^ 12 = 1000000000000 := by decide
    have bd : ∀ {k : Int} {ps : List (Int × Int)}, Rng.From k ps → ps.length ≤ 6 → (∀ q ∈ ps, q.2 ≤ F) → 0 - F ≤ k → Bd F ps := fun {k ps} f l u g => ⟨⟨k, f⟩, l, fun z m => ⟨by have := (from_lo f z m).1; omega, u z m⟩⟩
    refine ⟨F, rfl, p, 6, _, _, m + 1, rfl, p1, by omega, by decide, by omega, by omega, by omega, fun H2 a xs1 ps1 k2 p2 ea pr1 l1 f1 u1 => ⟨F, rfl, p, 6, _, _, m + 61, rfl, p2, by omega, by decide, by omega, by omega, by omega, fun H3 b xs2 ps2 k3 p3 eb pr2 l2 f2 u2 =>
      ⟨p, 6, _, _, m + 121, rfl, p3, by omega, by decide, by omega, by omega, by omega, fun H4 c xs3 ps3 k4 p4 ec pr3 l3 f3 u3 => ?_⟩⟩⟩
    obtain ⟨y1, e1⟩ := p1.lst
    obtain ⟨y2, e2⟩ := p2.lst
    obtain ⟨y3, e3⟩ := p3.lst
    have t34 := TK.kp k4 e3
    have t24 := (TK.kp k3 e2).trans t34
    have ea4 := t24 _ _ ea
    have pr1_4 := pr1.tk t24
    refine ⟨a, rfl, xs1, ea4, fun H5 d s5 ed => ⟨Nat.zero_le _, fun e ne => ⟨by decide, fun M nM => ?_⟩⟩⟩
    have s6 := new_same (o := HO.tup []) ne
    have ee : upd H5 e (HO.tup []) e = some (.tup []) := upd_same
    generalize upd H5 e (HO.tup []) = H6 at *
    have s7 := new_same (o := HO.lst [V.ref b, V.ref c, V.ref a, V.ref d, V.ref e]) nM
    have s46 := s5.trans s6
    have s47 := s46.trans s7
    obtain ⟨y4, e4⟩ := p4.lst
    have nMp : M ≠ p := (ne_of_none (s46 _ _ e4) nM).symm
    have S1 : SetAt H4 a ps1 := ⟨xs1, ea4, pr1_4⟩
    have S2 : SetAt H4 b ps2 := ⟨xs2, t34 _ _ eb, pr2.tk t34⟩
    have S3 : SetAt H4 c ps3 := ⟨xs3, ec, pr3⟩
    have S4 : SetAt H5 d (ps1.drop 1) := by
      refine ⟨_, ed, ?_⟩
      have z := PrAll.tk pr1_4 (TK.of s5)
      cases z with
      | nil => exact .nil
      | cons _ r => exact r
    have S5 : SetAt H6 e [] := ⟨[], ee, .nil⟩
    have B1 := bd f1 l1 u1 (Int.le_refl _)
    refine ⟨p, M, _, m + 181, rfl, p4.same s47, by omega, nMp, upd_same, by simp, by simp, fun H8 x k8 p8 mx => ?_⟩
    generalize eH7 : upd H6 M (HO.lst [V.ref b, V.ref c, V.ref a, V.ref d, V.ref e]) = H7 at *
    have t78 : TK H7 H8 := TK.kp k8 (s47 _ _ e4)
    have SK : ∀ {A : Addr} {rs : List (Int × Int)}, SetAt H7 A rs → SetAt H8 A rs := fun {A rs} ⟨zs, g1, g2⟩ => ⟨zs, t78 _ _ g1, g2.tk t78⟩
    obtain ⟨B, qs, rfl, SB, BB⟩ : ∃ B qs, x = .ref B ∧ SetAt H8 B qs ∧ Bd F qs := by
      simp only [List.mem_cons, List.not_mem_nil, or_false] at mx
      rcases mx with rfl | rfl | rfl | rfl | rfl
      · exact ⟨b, ps2, rfl, SK (S2.same s47), bd f2 l2 u2 (Int.le_refl _)⟩
      · exact ⟨c, ps3, rfl, SK (S3.same s47), bd f3 l3 u3 (by omega)⟩
      · exact ⟨a, ps1, rfl, SK (S1.same s47), B1⟩
      · exact ⟨d, _, rfl, SK (S4.same (s6.trans s7)), B1.tail⟩
      · exact ⟨e, [], rfl, SK (S5.same s7), ⟨⟨0, trivial⟩, Nat.zero_le _, fun _ z => (List.not_mem_nil z).elim⟩⟩
    refine ⟨F, rfl, by decide, fun t nt => ?_⟩
    have s9 := new_same (o := HO.tup [V.ref a, V.ref B, V.bl (decide (F < 100))]) nt
    have k18 : Kp p H H8 := k01.trans (k2.trans (k3.trans (k4.trans ((Kp.of s47).trans k8))))
    exact q _ t a B F ps1 qs (k18.trans (Kp.of s9)) ((p8.same s9).up (by omega)) upd_same ((SK (S1.same s47)).same s9) (SB.same s9) B1 BB F0 F1 F2
end
end Pf

set_option Elab.async false
set_option linter.all false
set_option maxRecDepth 100000
/-! What is due of two range sets. -/
namespace Pf
open PySem PySem.Spec PyProof.Rows L2 LamX NdefX
local macro_rules | `(tactic| walk_at "rd") => `(tactic| simp only [tC1, tCK, tB, rNe, rEq, tChain, gTupV, gCons, gNil, Nat.sub_self, Nat.reduceSub, List.replicate_zero, List.replicate_succ, tTest, tIfS, tIf, tNot, tAnd, tOr, tAndV, tOrV, tNotV, tDrop, tNext, rIxV, rIxP,
  gSub, rSetL, tSl, tPart, tNoPart, rSl1, tAsg2, ipI, tDNewK, tBM, rAppend, wipe, rAllB, rAnyB, iTup, iList, RZ.iZipA, iRng1, iRng2, tYes, upd_same, at0, at1, at2, at20, at21, ixN30, ixN32, HO.lst.injEq, HO.tup.injEq, Nat.reduceAdd, tSeq, tAsg, tPar, tAug, tOp, tVar, tC, tCB, tCons, tNil, rI, rI0, rU, tUn, gName, tRet, tLst, tLstM, tTup, L2.start, List.map_cons, List.map_nil, List.length_cons, List.length_nil, List.replicate, List.cons_append,
  List.nil_append, List.set_cons_zero, List.set_cons_succ, List.getElem?_cons_zero, List.getElem?_cons_succ, Option.some.injEq, V.int.injEq, V.ref.injEq, V.bl.injEq, V.str.injEq, List.cons.injEq, exists_eq_left', exists_eq_left, exists_and_left, exists_and_right, and_true, true_and, reduceCtorEq, false_and,
  exists_false, or_false, false_or, exists_const, exists_eq, exists_eq', Bool.not_true, Bool.not_false, Bool.false_eq_true, if_true, if_false, ite_true, ite_false])
abbrev s__law_due : Stmt := topS 18
theorem sc__law_due : FnScope ["_law_first", "_law_second", "_law_is_small", "_law_mine", "_law_its", "_law_some", "_law_points_here", "_law_found", "_law_numbers_here", "_law_n"] ["_law_first", "_law_second", "_law_is_small"] (defScope s__law_due) := ⟨rfl, rfl, rfl, by decide +kernel, rfl, by decide +kernel, by decide +kernel⟩
theorem stay_ends {ps : List (Int × Int)} {a b n : Int} (no : ∀ k ∈ ends ps, k ≤ a ∨ b ≤ k) (h1 : a ≤ n) (h2 : n < b) : inB n ps = inB a ps := by
  have mem : ∀ q ∈ ps, q.1 ∈ ends ps ∧ q.2 + 1 ∈ ends ps := fun q m => ⟨List.mem_flatMap.mpr ⟨q, m, List.mem_cons_self⟩, List.mem_flatMap.mpr ⟨q, m, List.mem_cons_of_mem _ List.mem_cons_self⟩⟩
  rw [Bool.eq_iff_iff, inB_iff, inB_iff]
  constructor
  · rintro ⟨q, m, l, h⟩
    have x1 := no _ (mem q m).1
    have x2 := no _ (mem q m).2
    exact ⟨q, m, by omega, by omega⟩
  · rintro ⟨q, m, l, h⟩
    have x2 := no _ (mem q m).2
    exact ⟨q, m, by omega, by omega⟩
theorem made_of {ps qs : List (Int × Int)} {ns : List Int} (pw : ns.Pairwise (· < ·)) (mem : ∀ k, k ∈ ns ↔ k ∈ ends ps ++ ends qs) (f : Bool → Bool → Bool) (f0 : f false false = false) :
    Rng.Rg (Rng.madeM (fun n => f (inB n ps) (inB n qs)) [] ns) ∧ ∀ n, Rng.In n (Rng.madeM (fun n => f (inB n ps) (inB n qs)) [] ns) ↔ f (inB n ps) (inB n qs) = true := by
  refine Rng.madeM_all pw (Rng.stays_of pw fun a b ab ha hb no n h1 h2 => ?_) fun n h => ?_
  · have e1 : inB n ps = inB a ps := stay_ends (fun k m => no k ((mem k).mpr (List.mem_append_left _ m))) h1 h2
    have e2 : inB n qs = inB a qs := stay_ends (fun k m => no k ((mem k).mpr (List.mem_append_right _ m))) h1 h2
    show f (inB n ps) (inB n qs) = f (inB a ps) (inB a qs)
    rw [e1, e2]
  · have one : ∃ q, (q ∈ ps ∨ q ∈ qs) ∧ q.1 ≤ n ∧ n ≤ q.2 := by
      have h' : f (inB n ps) (inB n qs) = true := h
      cases e1 : inB n ps with
      | true =>
        obtain ⟨q, m, z⟩ := inB_iff.mp e1
        exact ⟨q, Or.inl m, z⟩
      | false =>
        cases e2 : inB n qs with
        | true =>
          obtain ⟨q, m, z⟩ := inB_iff.mp e2
          exact ⟨q, Or.inr m, z⟩
        | false =>
          rw [e1, e2, f0] at h'
          cases h'
    obtain ⟨q, m, l, u⟩ := one
    have g1 : q.1 ∈ ns ∧ q.2 + 1 ∈ ns := by
      rw [mem, mem]
      rcases m with m | m
      · exact ⟨List.mem_append_left _ (List.mem_flatMap.mpr ⟨q, m, List.mem_cons_self⟩), List.mem_append_left _ (List.mem_flatMap.mpr ⟨q, m, List.mem_cons_of_mem _ List.mem_cons_self⟩)⟩
      · exact ⟨List.mem_append_right _ (List.mem_flatMap.mpr ⟨q, m, List.mem_cons_self⟩), List.mem_append_right _ (List.mem_flatMap.mpr ⟨q, m, List.mem_cons_of_mem _ List.mem_cons_self⟩)⟩
    exact ⟨⟨_, g1.1, l⟩, _, g1.2, by omega⟩
theorem inV_int (n : Int) : ∀ ks : List Int, inV (.int n) (ks.map V.int) = decide (n ∈ ks)
  | [] => rfl
  | k :: r => by
    have ih := inV_int n r
    unfold inV at ih ⊢
    rw [List.map_cons, List.any_cons, ih]
    have e : eqV (.int k) (.int n) = decide (k = n) := by
      show (k == n) = _
      rfl
    rw [e]
    by_cases z : k = n
    · simp [z]
    · have z2 : ¬ n = k := fun y => z y.symm
      simp [z, z2]
theorem flat_ints (ks : List Int) : (ks.map V.int).all flatV = true := by
  rw [List.all_map]
  exact List.all_eq_true.mpr fun _ _ => rfl
theorem fil_in {K : PySem.W.Frag} {neg : Bool} {x0 x1 x2 x5 x6 x7 x8 x9 : Option V} {H : Hp} {v u : Addr} {ms ks : List Int} {Q : VK} (ev : H v = some (.lst (ms.map V.int))) (eu : H u = some (.lst (ks.map V.int))) (few : ms.length ≤ 1000)
    (q : ∀ H' D, Same H H' → H' D = some (.lst ((ms.filter fun n => if neg then !decide (n ∈ ks) else decide (n ∈ ks)).map V.int)) → Q (.ref D) H') :
    tLc (iList K (tVar 3)) (gName 9) (tTest (tOp (rIn K neg) (tVar 9) (tVar 4))) (tVar 9) [9] [x0, x1, x2, some (.ref v), some (.ref u), x5, x6, x7, x8, x9] H Q := by
  refine ⟨.ref v, rfl, v, rfl, ⟨_, SqL.of ev⟩, fun D nD => lc_it (walk_list (xs := ms.map V.int)) (fun i H' => Same H H' ∧ H' D = some (.lst (((ms.take i).filter fun n => if neg then !decide (n ∈ ks) else decide (n ∈ ks)).map V.int))) ⟨new_same nD, upd_same⟩ (fun i H' _ h => SqL.of (h.1 _ _ ev)) ?_ ?_⟩
  · rintro i x H1 H2 hi ⟨s1, eD⟩ ⟨rfl, hx⟩
    have hi2 : i < ms.length := by
      rw [List.length_map] at hi
      exact hi
    have ex : x = .int ms[i] := by
      rw [List.getElem?_map, List.getElem?_eq_getElem hi2] at hx
      exact (Option.some.inj hx).symm
    subst ex
    refine ⟨rfl, ?_⟩
    walk_at "rd"
    refine ⟨u, _, rfl, Or.inl (SqL.of (s1 _ _ eu)), rfl, flat_ints ks, _, rfl, ?_⟩
    rw [inV_int]
    have tk : ms.take (i + 1) = ms.take i ++ [ms[i]] := by rw [List.take_add_one, List.getElem?_eq_getElem hi2]; rfl
    rw [tk, List.filter_append]
    generalize e : (if neg then !decide (ms[i] ∈ ks) else decide (ms[i] ∈ ks)) = t
    cases t with
    | true =>
      rw [if_pos rfl]
      refine ⟨_, eD, ?_, fun d o y => ?_, ?_⟩
      · have := List.length_filter_le (fun n => if neg then !decide (n ∈ ks) else decide (n ∈ ks)) (ms.take i)
        rw [List.length_take] at this
        rw [List.length_map]
        exact Nat.lt_of_le_of_lt (show _ ≤ 1000 by omega) (by decide)
      · rw [upd_ne (ne_of_none y nD)]
        exact s1 _ _ y
      · rw [List.filter_cons, if_pos e, List.map_append]
        rfl
    | false =>
      rw [if_neg Bool.false_ne_true, List.filter_cons, if_neg (by rw [e]; exact Bool.false_ne_true)]
      exact ⟨s1, by rw [List.filter_nil, List.append_nil]; exact eD⟩
  · rintro H1 ⟨s1, eD⟩
    rw [List.length_map, List.take_length] at eD
    exact q _ _ s1 eD
theorem SetAt.tk {H H' : Hp} {a : Addr} {ps : List (Int × Int)} (h : SetAt H a ps) (k : TK H H') : SetAt H' a ps := by
  obtain ⟨xs, e, p⟩ := h
  exact ⟨xs, k _ _ e, p.tk k⟩
/-- v is the range set of the numbers ns -/
def SetOf (H : Hp) (v : V) (ns : List Int) : Prop := ∃ t r, v = .ref t ∧ SetAt H t r ∧ Rng.Rg r ∧ ∀ n, Rng.In n r ↔ n ∈ ns
theorem in_read {H : Hp} {u : Addr} {rs : List (Int × Int)} {n : Int} {R : VK} (h : SetAt H u rs) (l : rs.length ≤ 6) (k : ∀ H', Same H H' → R (.bl (inB n rs)) H') : sp_in [V.ref u, V.int n] H R noErr := ⟨u, rs, n, rfl, h, by omega, k⟩
section
variable {base : Heap} {P : Program} {w : World} {mg : Str → Option Value} {K : PySem.W.Frag}
def dueT (A : Addr) : List (Addr × Str) := [(A, (("_law_due" : Str) ++ (".<locals>." : Str)) ++ ("<lambda>" : Str))]
def sp_due (A : Addr) : Sp := fun vs H Q _ => ∃ (a b : Addr) (F : Int) (ps qs : List (Int × Int)), vs = [.ref a, .ref b, .bl (decide (F < 100))] ∧ SetAt H a ps ∧ SetAt H b qs ∧ Bd F ps ∧ Bd F qs ∧ 0 ≤ F ∧ F ≤ 10 ^ 12 ∧ (F < 100 → F ≤ 25) ∧ Tabs (dueT A) H ∧
  ∀ (H' : Hp) (t x y z : Addr) (r1 r2 r3 : List (Int × Int)), ExtN H H' → Tabs (dueT A) H' → H' t = some (.lst [.ref x, .ref y, .ref z]) → SetAt H' x r1 → SetAt H' y r2 → SetAt H' z r3 → Rng.Rg r1 → Rng.Rg r2 → Rng.Rg r3 →
    (∀ n, Rng.In n r1 ↔ Rng.In n ps ∧ Rng.In n qs) → (∀ n, Rng.In n r2 ↔ Rng.In n ps ∨ Rng.In n qs) → (∀ n, Rng.In n r3 ↔ Rng.In n ps ∧ ¬ Rng.In n qs) → Q (.ref t) H'
theorem ok_due {f c A : Addr} {fd : FuncData} (F : Fun K "_law_due" "_law_due" s__law_due f fd) (hfc : fd.code = .ref c) (TB : TabB base mg c A) (T : Txt mg) (C__law_numbers : Cal P w K mg base 1 "_law_numbers" sp_numbers)
    (C__law_of_numbers : Cal P w K mg base 2 "_law_of_numbers" sp_ofnums) (C__law_points : Cal P w K mg base 1 "_law_points" sp_points) (C__law_in : Cal P w K mg base 1 "_law_in" sp_in) (L__law_made : CalL P w K mg base 2 3 "_law_made" spMade) :
    FnG P w K mg base 4 f fd ["_law_first", "_law_second", "_law_is_small"] (sp_due A) := by
  refine okGc F sc__law_due (fun vs H Q E h => ?_) (fun cdv A0 outer s H vs Q E hcd hg hr h => ?_)
  · obtain ⟨a, b, F, ps, qs, rfl, _⟩ := h
    rfl
  · obtain ⟨a, b, F, ps, qs, rfl, S1, S2, B1, B2, F0, F1, F2, T0, q⟩ := h
    replace hr := And.intro hg hr
    have hcv : cdv = .ref c := hcd.symm.trans hfc
    subst hcv
    obtain ⟨TT, eTT⟩ : ∃ TT, TT = dueT A := ⟨_, rfl⟩
    have hTT : (A, (("_law_due" : Str) ++ (".<locals>." : Str)) ++ ("<lambda>" : Str)) ∈ TT := by rw [eTT]; exact List.mem_singleton.mpr rfl
    have hTU : ∀ z ∈ TT, z.1 = A → z.2 = (("_law_due" : Str) ++ (".<locals>." : Str)) ++ ("<lambda>" : Str) := fun z m _ => by
      rw [eTT] at m
      rw [List.mem_singleton.mp m]
    refine ⟨_, (pss_cons (ps_if (pt_val (pv 2)) (pss_cons (ps_asg (pe_tup (pa_cons (pe_c C__law_numbers hr (by decide) (by rfl) (pa_cons (pv 0) pa_nil)) (pa_cons (pe_c C__law_numbers hr (by decide) (by rfl) (pa_cons (pv 1) pa_nil)) pa_nil))) (pg_tupV (n := 2) rfl (pgs_cons (pg_name (i := 3) sc__law_due.nd rfl (Or.inl rfl)) (pgs_cons (pg_name (i := 4) sc__law_due.nd rfl (Or.inr rfl)) pgs_nil))))
        (pss_cons (ps_set (i := 5) sc__law_due.nd rfl (Or.inl rfl) (pe_lst (pa_cons (pe_lc (own := [("_law_n", 9)]) (g := gName 9) rfl sc__law_due.nd (pi_list (pv 3)) (blkOk_by (own := [("_law_n", 9)]) (N := ["_law_first", "_law_second", "_law_is_small", "_law_mine", "_law_its", "_law_some", "_law_points_here", "_law_found", "_law_numbers_here", "_law_n"]) (sc := defScope s__law_due) (by decide +kernel)) (fun _ _ _ _ _ => (pg_name (i := 9) sc__law_due.nd rfl (Or.inl rfl))) (fun _ _ _ _ _ => pts_one (pt_cmpR (show OpR _ _ (rIn K false) from op_in_seq) (pv 9) (pv 4) (by rfl))) (fun _ _ _ _ _ => (pv 9))) (pa_cons (pe_op op_cat (pv 3) (pv 4)) (pa_cons (pe_lc (own := [("_law_n", 9)]) (g := gName 9) rfl sc__law_due.nd (pi_list (pv 3)) (blkOk_by (own := [("_law_n", 9)]) (N := ["_law_first", "_law_second", "_law_is_small", "_law_mine", "_law_its", "_law_some", "_law_points_here", "_law_found", "_law_numbers_here", "_law_n"]) (sc := defScope s__law_due) (by decide +kernel)) (fun _ _ _ _ _ => (pg_name (i := 9) sc__law_due.nd rfl (Or.inl rfl))) (fun _ _ _ _ _ => pts_one (pt_cmpR (show OpR _ _ (rIn K true) from op_notIn_seq) (pv 9) (pv 4) (by rfl))) (fun _ _ _ _ _ => (pv 9))) pa_nil)))))
        (pss_one (ps_ret (pe_lc (own := [("_law_numbers_here", 8)]) (g := gName 8) (tt := tYes) rfl sc__law_due.nd (pi_list (pv 5)) (blkOk_by (own := [("_law_numbers_here", 8)]) (N := ["_law_first", "_law_second", "_law_is_small", "_law_mine", "_law_its", "_law_some", "_law_points_here", "_law_found", "_law_numbers_here", "_law_n"]) (sc := defScope s__law_due) (by decide +kernel)) (fun _ _ _ _ _ => (pg_name (i := 8) sc__law_due.nd rfl (Or.inl rfl))) (fun _ _ _ _ _ => pts_nil) (fun _ _ _ _ _ => (pe_c C__law_of_numbers hr (by decide) (by rfl) (pa_cons (pv 8) pa_nil)))))))) pss_nil)
        (pss_cons (ps_set (i := 6) sc__law_due.nd rfl (Or.inl rfl) (pe_c C__law_points hr (by decide) (by rfl) (pa_cons (pe_lst (pa_cons (pv 0) (pa_cons (pv 1) pa_nil))) pa_nil)))
        (pss_cons (ps_set (i := 7) sc__law_due.nd rfl (Or.inl rfl) (pe_lst (pa_cons (pe_lam1 (T := TT) (N := ["_law_n", "_law_first", "_law_second"]) (fr := ["_law_first", "_law_second"]) (js := [0, 1]) (k := 1) L__law_made hr (by decide) (by rfl) (pv 6) TB rfl hTT hTU (nscope_by (by decide +kernel)) (ndef_free (fr := ["_law_first", "_law_second"]) (sc := defScope s__law_due) (by decide +kernel)) (ndef_fr (sc := defScope s__law_due) (by decide +kernel)) rfl rfl (fun _ _ _ _ _ _ => rfl) (fun _ _ _ _ _ _ _ _ _ hr => (pe_and (pe_c C__law_in hr (by decide) (by rfl) (pa_cons (pv 1) (pa_cons (pv 0) pa_nil))) (pe_one (pe_c C__law_in hr (by decide) (by rfl) (pa_cons (pv 2) (pa_cons (pv 0) pa_nil))))))) pa_nil)))
        (pss_cons (ps_expr (pe_bm PySem.F.plainAttrs_list PySem.F.slot_list_append PySem.F.type_list_append mt_append (pv 7) (pa_cons (pe_lam1 (T := TT) (N := ["_law_n", "_law_first", "_law_second"]) (fr := ["_law_first", "_law_second"]) (js := [0, 1]) (k := 1) L__law_made hr (by decide) (by rfl) (pv 6) TB rfl hTT hTU (nscope_by (by decide +kernel)) (ndef_free (fr := ["_law_first", "_law_second"]) (sc := defScope s__law_due) (by decide +kernel)) (ndef_fr (sc := defScope s__law_due) (by decide +kernel)) rfl rfl (fun _ _ _ _ _ _ => rfl) (fun _ _ _ _ _ _ _ _ _ hr => (pe_or (pe_c C__law_in hr (by decide) (by rfl) (pa_cons (pv 1) (pa_cons (pv 0) pa_nil))) (pe_one (pe_c C__law_in hr (by decide) (by rfl) (pa_cons (pv 2) (pa_cons (pv 0) pa_nil))))))) pa_nil)))
        (pss_one (ps_ret (pe_op op_cat (pv 7) (pe_lst (pa_cons (pe_lam1 (T := TT) (N := ["_law_n", "_law_first", "_law_second"]) (fr := ["_law_first", "_law_second"]) (js := [0, 1]) (k := 1) L__law_made hr (by decide) (by rfl) (pv 6) TB rfl hTT hTU (nscope_by (by decide +kernel)) (ndef_free (fr := ["_law_first", "_law_second"]) (sc := defScope s__law_due) (by decide +kernel)) (ndef_fr (sc := defScope s__law_due) (by decide +kernel)) rfl rfl (fun _ _ _ _ _ _ => rfl) (fun _ _ _ _ _ _ _ _ _ hr => (pe_and (pe_c C__law_in hr (by decide) (by rfl) (pa_cons (pv 1) (pa_cons (pv 0) pa_nil))) (pe_one (pe_not (pe_c C__law_in hr (by decide) (by rfl) (pa_cons (pv 2) (pa_cons (pv 0) pa_nil)))))))) pa_nil))))))))), ?_⟩
    walk_at "rd"
    by_cases c : F < 100
    · rw [if_pos (decide_eq_true c)]
      have F25 := F2 c
      have nok : ∀ {rs : List (Int × Int)}, Bd F rs → NumsOk 400 rs ∧ Low62 rs ∧ (numsOf rs).length ≤ 400 := fun {rs} h => by
        have lens : ∀ (l : List (Int × Int)), (∀ q ∈ l, 0 - F ≤ q.1 ∧ q.2 ≤ F) → (numsOf l).length ≤ 51 * l.length := by
          intro l
          induction l with
          | nil => exact fun _ => Nat.le_refl _
          | cons q r ih =>
            intro hq
            have e : numsOf (q :: r) = ((List.range (q.2 + 1 - q.1).toNat).map fun (i : Nat) => q.1 + (i : Int)) ++ numsOf r := rfl
            rw [e, List.length_append, List.length_map, List.length_range, List.length_cons]
            have i1 := ih fun z m => hq z (List.mem_cons_of_mem _ m)
            have i2 := hq q List.mem_cons_self
            omega
        have hl := h.len
        obtain ⟨k, fk⟩ := h.rg
        refine ⟨fun j => ?_, fun q m => ?_, ?_⟩
        · have := lens (rs.take j) fun q m => h.lo q (List.mem_of_mem_take m)
          rw [List.length_take] at this
          omega
        · have := h.lo q m
          have := (from_lo fk q m).2
          have big : (2 : Int) ^ 60 = 1152921504606846976 := by decide
          refine ⟨by omega, by omega, by omega, by omega⟩
        · have := lens rs h.lo
          omega
      obtain ⟨n1, l1, c1⟩ := nok B1
      obtain ⟨n2, l2, c2⟩ := nok B2
      refine ⟨a, ps, rfl, S1, fun j => Nat.le_trans (n1 j) (by decide), l1, fun H1 t1 s1 e1 f1 => ⟨b, qs, rfl, S2.same s1, fun j => Nat.le_trans (n2 j) (by decide), l2, fun H2 t2 s2 e2 f2 => ⟨by decide, fun M nM => ⟨_, _, ⟨rfl, rfl⟩, _, _, rfl, rfl, ?_⟩⟩⟩⟩
      have s3 := new_same (o := HO.tup [V.ref t1, V.ref t2]) nM
      have e13 := s3 _ _ (s2 _ _ e1)
      have e23 := s3 _ _ e2
      have s03 := s1.trans (s2.trans s3)
      generalize upd H2 M (HO.tup [V.ref t1, V.ref t2]) = H3 at *
      refine fil_in e13 e23 (by omega) fun H4 D1 s4 g1 => ?_
      refine ⟨t1, t2, _, _, rfl, rfl, s4 _ _ e13, s4 _ _ e23, ?_, fun D2 nD2 => ?_⟩
      · rw [List.length_map, List.length_map]
        exact Nat.le_trans (show _ ≤ 800 by omega) (by decide)
      have s5 := new_same (o := HO.lst ((numsOf ps).map V.int ++ (numsOf qs).map V.int)) nD2
      have g2 : upd H4 D2 (HO.lst ((numsOf ps).map V.int ++ (numsOf qs).map V.int)) D2 = some (HO.lst ((numsOf ps ++ numsOf qs).map V.int)) := by rw [upd_same, List.map_append]
      generalize upd H4 D2 (HO.lst ((numsOf ps).map V.int ++ (numsOf qs).map V.int)) = H5 at *
      refine fil_in (s5 _ _ (s4 _ _ e13)) (s5 _ _ (s4 _ _ e23)) (by omega) fun H6 D3 s6 g3 => ⟨by decide, fun L nL => ?_⟩
      have s7 := new_same (o := HO.lst [V.ref D1, V.ref D2, V.ref D3]) nL
      have g17 := s7 _ _ (s6 _ _ (s5 _ _ g1))
      have g27 := s7 _ _ (s6 _ _ g2)
      have g37 := s7 _ _ g3
      have eL : upd H6 L (HO.lst [V.ref D1, V.ref D2, V.ref D3]) L = some (HO.lst [V.ref D1, V.ref D2, V.ref D3]) := upd_same
      have s07 := s03.trans (s4.trans (s5.trans (s6.trans s7)))
      generalize upd H6 L (HO.lst [V.ref D1, V.ref D2, V.ref D3]) = H7 at *
      generalize hA1 : List.filter (fun n => if false = true then !decide (n ∈ numsOf qs) else decide (n ∈ numsOf qs)) (numsOf ps) = A1 at *
      generalize hA2 : numsOf ps ++ numsOf qs = A2 at *
      generalize hA3 : List.filter (fun n => if true = true then !decide (n ∈ numsOf qs) else decide (n ∈ numsOf qs)) (numsOf ps) = A3 at *
      have z1 : A1.length ≤ 400 := by
        rw [← hA1]
        exact Nat.le_trans (List.length_filter_le _ _) c1
      have z2 : A2.length ≤ 800 := by
        rw [← hA2, List.length_append]
        omega
      have z3 : A3.length ≤ 400 := by
        rw [← hA3]
        exact Nat.le_trans (List.length_filter_le _ _) c1
      refine ⟨.ref L, rfl, L, rfl, ⟨_, SqL.of eL⟩, fun D nD => lc_it (walk_list (xs := [V.ref D1, V.ref D2, V.ref D3])) (fun i H' => ∃ xs, Same H7 H' ∧ H' D = some (.lst xs) ∧ Paired (SetOf H') xs (([A1, A2, A3] : List (List Int)).take i)) ⟨[], new_same nD, upd_same, .nil⟩ (fun i H' _ ⟨_, ss, _⟩ => SqL.of (ss _ _ eL)) ?_ ?_⟩
      · rintro i x Ha Hb hi ⟨xs, sa, eD, pa⟩ ⟨rfl, hx⟩
        obtain ⟨Di, Ai, rfl, ei, li, gi⟩ : ∃ Di Ai, x = V.ref Di ∧ H7 Di = some (.lst (Ai.map V.int)) ∧ Ai.length ≤ 1000 ∧ ([A1, A2, A3] : List (List Int))[i]? = some Ai := by
          match i, hx with
          | 0, hx => exact ⟨D1, A1, (Option.some.inj hx).symm, g17, by omega, rfl⟩
          | 1, hx => exact ⟨D2, A2, (Option.some.inj hx).symm, g27, by omega, rfl⟩
          | 2, hx => exact ⟨D3, A3, (Option.some.inj hx).symm, g37, by omega, rfl⟩
          | n + 3, hx => exact nomatch hx
        refine ⟨rfl, ?_⟩
        walk_at "rd"
        have xl := Paired.length pa
        rw [List.length_take] at xl
        refine ⟨Di, Ai, rfl, sa _ _ ei, li, fun Hc t rs sc st rg inn => ⟨xs, sc _ _ eD, Nat.lt_of_le_of_lt (show xs.length ≤ 3 by simp only [List.length_cons, List.length_nil] at xl; omega) (by decide), fun d o y => ?_, ?_⟩⟩
        · rw [upd_ne (ne_of_none y nD)]
          exact sc _ _ (sa _ _ y)
        · have tk : TK Hc (upd Hc D (.lst (xs ++ [.ref t]))) := TK.put (sc _ _ eD)
          rw [List.take_add_one, gi]
          exact (Paired.mono (fun v ns ⟨u, r, e1, e2, e3⟩ => ⟨u, r, e1, e2.tk ((TK.of sc).trans tk), e3⟩) pa).snoc ⟨t, rs, rfl, st.tk tk, rg, inn⟩
      · rintro Ha ⟨xs, sa, eD, pa⟩
        cases pa with
        | cons p1 r1 =>
        cases r1 with
        | cons p2 r2 =>
        cases r2 with
        | cons p3 r3 =>
        cases r3
        obtain ⟨x, rs1, rfl, st1, rg1, in1⟩ := p1
        obtain ⟨y, rs2, rfl, st2, rg2, in2⟩ := p2
        obtain ⟨z, rs3, rfl, st3, rg3, in3⟩ := p3
        refine q Ha D x y z rs1 rs2 rs3 (ext_same (s07.trans sa)) (Tabs.same T0 (s07.trans sa)) eD st1 st2 st3 rg1 rg2 rg3 (fun n => ?_) (fun n => ?_) (fun n => ?_)
        · rw [in1, ← hA1, List.mem_filter, nums_mem, if_neg Bool.false_ne_true, decide_eq_true_eq, nums_mem]
        · rw [in2, ← hA2, List.mem_append, nums_mem, nums_mem]
        · rw [in3, ← hA3, List.mem_filter, nums_mem, if_pos rfl, Bool.not_eq_true', decide_eq_false_iff_not, nums_mem]
    · rw [if_neg (fun z => c (of_decide_eq_true z))]
      refine ⟨by decide, fun L nL => ⟨L, a, b, ps, qs, rfl, upd_same, S1.same (new_same nL), S2.same (new_same nL), by have := B1.len; omega, by have := B2.len; omega, fun H1 t ns s1 et pw mem few => ?_⟩⟩
      have s01 := (new_same (o := HO.lst [V.ref a, V.ref b]) nL).trans s1
      rw [← eTT] at T0 q
      have cell : ∀ {Hx : Hp}, ExtN H1 Hx → SetAt Hx a ps ∧ SetAt Hx b qs ∧ Hx t = some (.lst (ns.map V.int)) := fun {Hx} e => ⟨(S1.same s01).tk (ext_tk e), (S2.same s01).tk (ext_tk e), e _ _ et fun _ z => nomatch z⟩
      obtain ⟨rgA, inA⟩ := made_of (ps := ps) (qs := qs) pw mem (fun x y => x && y) rfl
      obtain ⟨rgO, inO⟩ := made_of (ps := ps) (qs := qs) pw mem (fun x y => x || y) rfl
      obtain ⟨rgN, inN⟩ := made_of (ps := ps) (qs := qs) pw mem (fun x y => x && !y) rfl
      refine ⟨.ref t, rfl, Tabs.same T0 s01, fun n => inB n ps && inB n qs, fun H2 x2 T2 => ⟨fun n H3 R s3 k => ?_, t, ns, rfl, (cell x2).2.2, few, fun H4 y1 s4 g1 => ⟨by decide, fun p np => ⟨Or.inl ⟨rfl, _, SqL.of upd_same⟩, ?_⟩⟩⟩⟩
      · show tAndV _ _ [some (V.int n), some (V.ref a), some (V.ref b)] H3 R
        walk_at "rd"
        obtain ⟨w1, w2, _⟩ := cell x2
        refine in_read (w1.same s3) B1.len fun H4 s4 => ⟨_, rfl, ?_⟩
        cases e : inB n ps with
        | true =>
          rw [if_pos rfl]
          refine in_read ((w2.same s3).same s4) B2.len fun H5 s5 => ?_
          have g := k H5 (s4.trans s5)
          simp only [e, Bool.true_and] at g
          exact g
        | false =>
          rw [if_neg Bool.false_ne_true]
          have g := k H4 s4
          simp only [e, Bool.false_and] at g
          exact g
      · have s5 := new_same (o := HO.lst [V.ref y1]) np
        have x5 : ExtN H1 (upd H4 p (HO.lst [V.ref y1])) := x2.trans (ext_same (s4.trans s5))
        have T5 := Tabs.same T2 (s4.trans s5)
        have g5 := g1.same s5
        have p5 : upd H4 p (HO.lst [V.ref y1]) p = some (.lst [V.ref y1]) := upd_same
        generalize upd H4 p (HO.lst [V.ref y1]) = H5 at *
        refine ⟨.ref t, rfl, T5, fun n => inB n ps || inB n qs, fun H6 x6 T6 => ⟨fun n H7 R s7 k => ?_, t, ns, rfl, (cell (x5.trans x6)).2.2, few, fun H8 y2 s8 g2 => ?_⟩⟩
        · show tOrV _ _ [some (V.int n), some (V.ref a), some (V.ref b)] H7 R
          walk_at "rd"
          obtain ⟨w1, w2, _⟩ := cell (x5.trans x6)
          refine in_read (w1.same s7) B1.len fun H8 s8 => ⟨_, rfl, ?_⟩
          cases e : inB n ps with
          | true =>
            rw [if_pos rfl]
            have g := k H8 s8
            simp only [e, Bool.true_or] at g
            exact g
          | false =>
            rw [if_neg Bool.false_ne_true]
            refine in_read ((w2.same s7).same s8) B2.len fun H9 s9 => ?_
            have g := k H9 (s8.trans s9)
            simp only [e, Bool.false_or] at g
            exact g
        · have x8 : ExtN H5 H8 := x6.trans (ext_same s8)
          have p8 := x8 _ _ p5 fun _ z => nomatch z
          refine ⟨[V.ref y1], p8, show 1 < sizeLine by decide, ?_⟩
          have tB : TK H8 (upd H8 p (HO.lst ([V.ref y1] ++ [V.ref y2]))) := TK.put p8
          have x9 : ExtN H1 (upd H8 p (HO.lst ([V.ref y1] ++ [V.ref y2]))) := fun d o e m => by
            rw [upd_ne (ne_of_none ((x2.trans (ext_same s4)) _ _ e m) np)]
            exact (x5.trans x8) _ _ e m
          have T9 : Tabs TT (upd H8 p (HO.lst ([V.ref y1] ++ [V.ref y2]))) := Tabs.kp (Tabs.same T6 s8) Kp.put p8
          have h1 := (g5.tk (ext_tk x8)).tk tB
          have h2 := g2.tk tB
          have p9 : upd H8 p (HO.lst ([V.ref y1] ++ [V.ref y2])) p = some (.lst [V.ref y1, V.ref y2]) := upd_same
          generalize upd H8 p (HO.lst ([V.ref y1] ++ [V.ref y2])) = H9 at *
          refine ⟨.ref t, rfl, T9, fun n => inB n ps && !inB n qs, fun Ha xa Ta => ⟨fun n Hb R sb k => ?_, t, ns, rfl, (cell (x9.trans xa)).2.2, few, fun Hc y3 sc g3 => ⟨by decide, fun M nM => ?_⟩⟩⟩
          · show tAndV _ _ [some (V.int n), some (V.ref a), some (V.ref b)] Hb R
            walk_at "rd"
            obtain ⟨w1, w2, _⟩ := cell (x9.trans xa)
            refine in_read (w1.same sb) B1.len fun Hc sc => ⟨_, rfl, ?_⟩
            cases e : inB n ps with
            | true =>
              rw [if_pos rfl]
              refine in_read ((w2.same sb).same sc) B2.len fun Hd sd => ?_
              have g := k Hd (sc.trans sd)
              simp only [e, Bool.true_and] at g
              exact ⟨_, rfl, g⟩
            | false =>
              rw [if_neg Bool.false_ne_true]
              have g := k Hc sc
              simp only [e, Bool.false_and] at g
              exact g
          · have sM := new_same (o := HO.lst [V.ref y3]) nM
            have xc := xa.trans (ext_same (sc.trans sM))
            refine ⟨p, M, [V.ref y1, V.ref y2], [V.ref y3], rfl, rfl, xc _ _ p9 (fun _ z => nomatch z), upd_same, by show 2 + 1 ≤ sizeLine; decide, fun N nN => ?_⟩
            have sN := new_same (o := HO.lst ([V.ref y1, V.ref y2] ++ [V.ref y3])) nN
            have xd := xc.trans (ext_same sN)
            have sMN := sM.trans sN
            refine q _ N y1 y2 y3 _ _ _ ((ext_same s01).trans (x9.trans xd)) (Tabs.same Ta (sc.trans sMN)) upd_same (h1.tk (ext_tk xd)) (h2.tk (ext_tk xd)) (g3.same sMN) rgA rgO rgN (fun n => ?_) (fun n => ?_) (fun n => ?_)
            · rw [inA, Bool.and_eq_true, inB_iff, inB_iff]
            · rw [inO, Bool.or_eq_true, inB_iff, inB_iff]
            · rw [inN, Bool.and_eq_true, inB_iff, Bool.not_eq_true', ← Bool.not_eq_true, inB_iff]
end
end Pf

set_option Elab.async false
set_option linter.all false
set_option maxRecDepth 100000
/-! What is in what without makes; how long a range set is whose beginnings are known. -/
namespace Pf
open PySem PySem.Spec PyProof.Rows L2 LamX NdefX
theorem from_last : ∀ {k : Int} {ps : List (Int × Int)} {z : Int × Int}, Rng.From k ps → ps.getLast? = some z → ∀ n, Rng.In n ps → n ≤ z.2
  | _, [], _, _, h => fun _ _ => by cases h
  | _, [q], z, f, h => fun n i => by
    have e : q = z := Option.some.inj h
    rcases Rng.In.cons.mp i with i | i
    · rw [← e]
      exact i.2
    · exact (Rng.In.nil i).elim
  | _, q :: r :: s, z, f, h => fun n i => by
    have h' : (r :: s).getLast? = some z := by rw [← h, List.getLast?_cons_cons]
    have up := from_last f.2.2 h'
    rcases Rng.In.cons.mp i with i | i
    · have a1 := f.2.2.1
      have a2 := up r.1 (Rng.In.cons.mpr (Or.inl ⟨Int.le_refl _, f.2.2.2.1⟩))
      omega
    · exact up n i
theorem without_spec {ps qs : List (Int × Int)} (h : Rng.Rg ps) (g : Rng.Rg qs) : Rng.Rg (withoutM ps qs) ∧ ∀ n, Rng.In n (withoutM ps qs) ↔ Rng.In n ps ∧ ¬ Rng.In n qs := by
  obtain ⟨k, h⟩ := h
  obtain ⟨j, g⟩ := g
  unfold withoutM
  cases ps with
  | nil => exact ⟨⟨0, trivial⟩, fun n => ⟨fun z => (Rng.In.nil z).elim, fun z => (Rng.In.nil z.1).elim⟩⟩
  | cons q r =>
    obtain ⟨z, hz⟩ : ∃ z, (q :: r).getLast? = some z := by
      rw [List.getLast?_eq_getElem?, List.getElem?_eq_getElem (by simp)]
      exact ⟨_, rfl⟩
    rw [hz]
    show Rng.Rg (Rng.both (q :: r) (Rng.holes q.1 z.2 (Rng.both qs [(q.1, z.2)]))) ∧ ∀ n, Rng.In n (Rng.both (q :: r) (Rng.holes q.1 z.2 (Rng.both qs [(q.1, z.2)]))) ↔ _
    have up := from_last h hz
    have qz : q.1 ≤ z.2 := up q.1 (Rng.In.cons.mpr (Or.inl ⟨Int.le_refl _, h.2.1⟩))
    have one : Rng.From q.1 [(q.1, z.2)] := ⟨Int.le_refl _, qz, trivial⟩
    have inner := fun n => Rng.both_in n qs [(q.1, z.2)] j q.1 g one
    obtain ⟨f1, f2⟩ := Rng.holes_spec z.2 (Rng.both qs [(q.1, z.2)]) q.1 ((Rng.both_from qs [(q.1, z.2)] j q.1 g one).down (by omega)) fun n i => by
      obtain ⟨x, xm, x1, x2⟩ := ((inner n).mp i).2
      rw [List.mem_singleton.mp xm] at x2
      exact x2
    refine ⟨⟨_, Rng.both_from _ _ _ _ h f1⟩, fun n => ?_⟩
    rw [Rng.both_in n _ _ _ _ h f1, f2, inner]
    have low : Rng.In n (q :: r) → q.1 ≤ n := fun i => by
      rcases Rng.In.cons.mp i with i | i
      · exact i.1
      · have := h.2.2.ge i
        have := h.2.1
        omega
    constructor
    · rintro ⟨a, b, c⟩
      exact ⟨a, fun d => c ⟨d, (q.1, z.2), List.mem_singleton.mpr rfl, low a, up n a⟩⟩
    · rintro ⟨a, b⟩
      exact ⟨a, ⟨low a, up n a⟩, fun c => b c.1⟩
/-- numbers that ascend, all of them among others, are no more -/
theorem asc_len : ∀ {l m : List Int}, l.Pairwise (· < ·) → (∀ x ∈ l, x ∈ m) → l.length ≤ m.length
  | [], _, _, _ => Nat.zero_le _
  | k :: l, m, h, s => by
    obtain ⟨h1, h2⟩ := List.pairwise_cons.mp h
    have e := List.length_erase_of_mem (s k List.mem_cons_self)
    have ih := asc_len (l := l) (m := m.erase k) h2 fun x hx => (List.mem_erase_of_ne (Int.ne_of_gt (h1 x hx))).mpr (s x (List.mem_cons_of_mem _ hx))
    have p := List.length_pos_of_mem (s k List.mem_cons_self)
    rw [List.length_cons]
    omega
theorem from_asc : ∀ {k : Int} {ps : List (Int × Int)}, Rng.From k ps → (ps.map Prod.fst).Pairwise (· < ·) ∧ ∀ x ∈ ps.map Prod.fst, k ≤ x
  | _, [], _ => ⟨List.Pairwise.nil, fun _ z => (List.not_mem_nil z).elim⟩
  | _, q :: r, ⟨h1, h2, h3⟩ => by
    obtain ⟨i1, i2⟩ := from_asc h3
    refine ⟨List.pairwise_cons.mpr ⟨fun x m => ?_, i1⟩, fun x m => ?_⟩
    · have := i2 x m
      omega
    · rcases List.mem_cons.mp m with e | m
      · rw [e]
        exact h1
      · have := i2 x m
        omega
/-- ahead of each beginning there is a gap -/
theorem from_ahead : ∀ {k : Int} {ps : List (Int × Int)}, Rng.From k ps → ∀ q ∈ ps, ¬ Rng.In (q.1 - 1) ps
  | _, [], _ => fun _ z => (List.not_mem_nil z).elim
  | _, p :: r, ⟨h1, h2, h3⟩ => fun q m i => by
    rcases List.mem_cons.mp m with e | m
    · rw [e] at i
      rcases Rng.In.cons.mp i with i | i
      · omega
      · have := h3.ge i
        omega
    · have a := (from_lo h3 q m).1
      rcases Rng.In.cons.mp i with i | i
      · omega
      · exact from_ahead h3 q m i
structure Lim (ps : List (Int × Int)) : Prop where
  len : ps.length ≤ 24
  near : ∀ q ∈ ps, Near q
/-- a range set told by two bounded ones is short, and not far away -/
theorem lim_of {F : Int} {ps qs rs : List (Int × Int)} (hF : F ≤ 10 ^ 12) (h : Bd F ps) (g : Bd F qs) (r : Rng.Rg rs) (f : Bool → Bool → Bool) (f0 : f false false = false) (e : ∀ n, Rng.In n rs ↔ f (inB n ps) (inB n qs) = true) : Lim rs := by
  obtain ⟨k, fr⟩ := r
  have big : (10 : Int) ^ 12 = 1000000000000 := by decide
  have bnd : ∀ n, Rng.In n rs → 0 - F ≤ n ∧ n ≤ F := fun n i => by
    have i2 := (e n).mp i
    cases e1 : inB n ps with
    | true =>
      obtain ⟨q, m, z1, z2⟩ := inB_iff.mp e1
      have := h.lo q m
      omega
    | false =>
      cases e2 : inB n qs with
      | true =>
        obtain ⟨q, m, z1, z2⟩ := inB_iff.mp e2
        have := g.lo q m
        omega
      | false =>
        rw [e1, e2, f0] at i2
        cases i2
  have inn : ∀ q ∈ rs, Rng.In q.1 rs ∧ Rng.In q.2 rs := fun q m => by
    have l := (from_lo fr q m).2
    exact ⟨⟨q, m, Int.le_refl _, l⟩, ⟨q, m, l, Int.le_refl _⟩⟩
  have t40 : (10 : Nat) ^ 12 < 10 ^ 40 := by decide
  have big2 : (10 : Nat) ^ 12 = 1000000000000 := by decide
  refine ⟨?_, fun q m => ?_⟩
  · have s := asc_len (l := rs.map Prod.fst) (m := ends ps ++ ends qs) (from_asc fr).1 fun x hx => by
      obtain ⟨q, m, rfl⟩ := List.mem_map.mp hx
      refine Classical.byContradiction fun no => ?_
      have no1 : q.1 ∉ ends ps := fun z => no (List.mem_append_left _ z)
      have no2 : q.1 ∉ ends qs := fun z => no (List.mem_append_right _ z)
      have a1 : inB q.1 ps = inB (q.1 - 1) ps := stay_ends (b := q.1 + 1) (fun c hc => by
        have : c ≠ q.1 := fun z => no1 (z ▸ hc)
        omega) (by omega) (by omega)
      have a2 : inB q.1 qs = inB (q.1 - 1) qs := stay_ends (b := q.1 + 1) (fun c hc => by
        have : c ≠ q.1 := fun z => no2 (z ▸ hc)
        omega) (by omega) (by omega)
      refine from_ahead fr q m ((e _).mpr ?_)
      rw [← a1, ← a2]
      exact (e _).mp (inn q m).1
    rw [List.length_map, List.length_append, ends_len, ends_len] at s
    have := h.len
    have := g.len
    omega
  · obtain ⟨i1, i2⟩ := inn q m
    have b1 := bnd _ i1
    have b2 := bnd _ i2
    exact ⟨Nat.lt_of_le_of_lt (show q.1.natAbs ≤ 10 ^ 12 by omega) t40, Nat.lt_of_le_of_lt (show q.2.natAbs ≤ 10 ^ 12 by omega) t40⟩
theorem lim_sz {rs : List (Int × Int)} (h : Lim rs) : Sz 3000 2 (.tuple (rs.map prD)) :=
  (Sz.tuple (prs_sz h.near) (by rw [List.length_map]; have := h.len; omega)).up (by rw [List.length_map]; have := h.len; omega) (by omega)
theorem three_fits {r1 r2 r3 : List (Int × Int)} (h1 : Lim r1) (h2 : Lim r2) (h3 : Lim r3) : Fits (.list [.tuple (r1.map prD), .tuple (r2.map prD), .tuple (r3.map prD)]) := by
  refine (Sz.list (n := 3000) (k := 2) fun d m => ?_).fits (by show 3 * (3000 + 2) + 3 ≤ sizeLine; decide) (by decide)
  simp only [List.mem_cons, List.not_mem_nil, or_false] at m
  rcases m with rfl | rfl | rfl
  · exact lim_sz h1
  · exact lim_sz h2
  · exact lim_sz h3
theorem three_dq {H : Hp} {p t x y z : Addr} {m : Nat} {r1 r2 r3 : List (Int × Int)} (hp : Pot H p m) (ht : H t = some (.lst [.ref x, .ref y, .ref z])) (h1 : SetAt H x r1) (h2 : SetAt H y r2) (h3 : SetAt H z r3) :
    Dq false p H (.ref t) (.list [.tuple (r1.map prD), .tuple (r2.map prD), .tuple (r3.map prD)]) := by
  obtain ⟨a, b, c, e, _⟩ := hp
  have one : ∀ {u : Addr} {rs : List (Int × Int)}, SetAt H u rs → Dq false p H (.ref u) (.tuple (rs.map prD)) := fun {u rs} ⟨xs, g1, g2⟩ => .tup g1 (fun q => by rw [q, e] at g1; cases g1) (PrAll.dq e g2)
  exact .lst ht (fun q => by rw [q, e] at ht; cases ht) (fun q => nomatch q) (.cons (one h1) (.cons (one h2) (.cons (one h3) .nil)))
end Pf

set_option Elab.async false
set_option linter.all false
set_option maxRecDepth 100000
/-! The law's look, and the law. -/
namespace Pf
open PySem PySem.Spec PyProof.Rows L2 LamX NdefX
local macro_rules | `(tactic| walk_at "rd") => `(tactic| simp only [tC1, tCK, tB, rNe, rEq, tChain, gTupV, gCons, gNil, Nat.sub_self, Nat.reduceSub, List.replicate_zero, List.replicate_succ, tTest, tIfS, tIf, tNot, tAnd, tOr, tAndV, tOrV, tNotV, tDrop, tNext, rIxV, rIxP,
  gSub, rSetL, tSl, tPart, tNoPart, rSl1, tAsg2, ipI, tDNewK, tBM, rAppend, wipe, rAllB, rAnyB, iTup, iList, RZ.iZipA, iRng1, iRng2, tYes, upd_same, at0, at1, at2, at20, at21, ixN30, ixN32, HO.lst.injEq, HO.tup.injEq, Nat.reduceAdd, tSeq, tAsg, tPar, tAug, tOp, tVar, tC, tCB, tCons, tNil, rI, rI0, rU, tUn, gName, tRet, tLst, tLstM, tTup, L2.start, List.map_cons, List.map_nil, List.length_cons, List.length_nil, List.replicate, List.cons_append,
  List.nil_append, List.set_cons_zero, List.set_cons_succ, List.getElem?_cons_zero, List.getElem?_cons_succ, Option.some.injEq, V.int.injEq, V.ref.injEq, V.bl.injEq, V.str.injEq, List.cons.injEq, exists_eq_left', exists_eq_left, exists_and_left, exists_and_right, and_true, true_and, reduceCtorEq, false_and,
  exists_false, or_false, false_or, exists_const, exists_eq, exists_eq', Bool.not_true, Bool.not_false, Bool.false_eq_true, if_true, if_false, ite_true, ite_false])
abbrev s__law_right : Stmt := topS 19
theorem sc__law_right : FnScope ["_law_pot_here", "_law_turn", "_law_first", "_law_second", "_law_is_small", "_law_due_here", "_law_told"] ["_law_pot_here"] (defScope s__law_right) := ⟨rfl, rfl, rfl, by decide +kernel, rfl, by decide +kernel, by decide +kernel⟩
abbrev s_law : Stmt := topS 20
theorem sc_law : FnScope ["_law_script", "_law_k"] ["_law_script"] (defScope s_law) := ⟨rfl, rfl, rfl, by decide +kernel, rfl, by decide +kernel, by decide +kernel⟩
def swap2 : List V → List V
  | [a, b] => [b, a]
  | zs => zs
theorem Pot.ext {p : Addr} {H H' : Hp} {m : Nat} (h : Pot H p m) (x : ExtN H H') : Pot H' p m := by
  obtain ⟨a, b, c, g, r⟩ := h
  exact ⟨a, b, c, x _ _ g (fun _ z => nomatch z), r⟩
section
variable {base : Heap} {P : Program} {w : World} {mg : Str → Option Value} {K : PySem.W.Frag}
def sp_right (A : Addr) : Sp := fun vs H Q _ => ∃ (p : Addr), vs = [.ref p] ∧ Pot H p 0 ∧ Tabs (dueT A) H ∧ ∀ H', Ke p H H' → Tabs (dueT A) H' → Q (.bl true) H'
theorem ok_right {f A : Addr} {fd : FuncData} (F : Fun K "_law_right" "_law_right" s__law_right f fd) (T : Txt mg) (C__law_pair : Cal P w K mg base 4 "_law_pair" sp_lpair) (C__law_due : Cal P w K mg base 4 "_law_due" (sp_due A))
    (C_both : Cal P w K mg base 1 "both" sp_both) (CK_both_other_one : CalK P w K mg base 1 "both" ["other", "one"] swap2 sp_both) (C_either : Cal P w K mg base 2 "either" sp_either) (CK_either_other_one : CalK P w K mg base 2 "either" ["other", "one"] swap2 sp_either)
    (C_without : Cal P w K mg base 3 "without" sp_without) (CK_without_other_one : CalK P w K mg base 3 "without" ["other", "one"] swap2 sp_without) : FnG P w K mg base 5 f fd ["_law_pot_here"] (sp_right A) := by
  refine okG F sc__law_right (fun vs H Q E h => ?_) (fun cdv A0 outer s H vs Q E hg hr h => ?_)
  · obtain ⟨p, rfl, _⟩ := h
    rfl
  · obtain ⟨p, rfl, hp, T0, q⟩ := h
    replace hr := And.intro hg hr
    refine ⟨_, (pss_cons (ps_for PassesOwn.never rfl (pi_range1 (by rfl) T.b_range (pa_cons pe_int pa_nil)) (pg_name (i := 1) sc__law_right.nd rfl (Or.inl rfl)) (pss_cons (ps_asg (pe_c C__law_pair hr (by decide) (by rfl) (pa_cons (pv 0) pa_nil)) (pg_tupV (n := 3) rfl (pgs_cons (pg_name (i := 2) sc__law_right.nd rfl (Or.inl rfl)) (pgs_cons (pg_name (i := 3) sc__law_right.nd rfl (Or.inl rfl)) (pgs_cons (pg_name (i := 4) sc__law_right.nd rfl (Or.inl rfl)) pgs_nil)))))
        (pss_cons (ps_set (i := 5) sc__law_right.nd rfl (Or.inl rfl) (pe_callB (call_reprV hr) (by rfl) T.b_repr (by decide +kernel) (pa_cons (pe_c C__law_due hr (by decide) (by rfl) (pa_cons (pv 2) (pa_cons (pv 3) (pa_cons (pv 4) pa_nil)))) pa_nil)))
        (pss_cons (ps_if (pt_cmpR op_ne (pe_callB (call_reprV hr) (by rfl) T.b_repr (by decide +kernel) (pa_cons (pe_lst (pa_cons (pe_c C_both hr (by decide) (by rfl) (pa_cons (pv 2) (pa_cons (pv 3) pa_nil))) (pa_cons (pe_c C_either hr (by decide) (by rfl) (pa_cons (pv 2) (pa_cons (pv 3) pa_nil))) (pa_cons (pe_c C_without hr (by decide) (by rfl) (pa_cons (pv 2) (pa_cons (pv 3) pa_nil))) pa_nil)))) pa_nil)) (pv 5) (nomark _)) (pss_one (ps_ret pe_bl)) pss_nil)
        (pss_cons (ps_set (i := 6) sc__law_right.nd rfl (Or.inl rfl) (pe_lst (pa_cons (pe_cK0 CK_both_other_one hr (by decide) (by rfl) (pk_cons (pv 3) (pk_cons (pv 2) pk_nil))) (pa_cons (pe_cK0 CK_either_other_one hr (by decide) (by rfl) (pk_cons (pv 3) (pk_cons (pv 2) pk_nil))) (pa_cons (pe_cK0 CK_without_other_one hr (by decide) (by rfl) (pk_cons (pv 3) (pk_cons (pv 2) pk_nil))) pa_nil)))))
        (pss_one (ps_if (pt_cmpR op_ne (pe_callB (call_reprV hr) (by rfl) T.b_repr (by decide +kernel) (pa_cons (pv 6) pa_nil)) (pv 5) (nomark _)) (pss_one (ps_ret pe_bl)) pss_nil)))))))
        (pss_one (ps_ret pe_bl))), ?_⟩
    walk_at "rd"
    refine ⟨40, rfl, by decide, by decide, for_range (lo := 0) (n := 40) (fun i σ H' => ∃ s1 s2 s3 s4 s5 s6 : Option V, σ = [some (.ref p), s1, s2, s3, s4, s5, s6] ∧ Ke p H H' ∧ Pot H' p (300 * i) ∧ Tabs (dueT A) H') ⟨_, _, _, _, _, _, rfl, Ke.refl _ _, hp, T0⟩ ?_ ?_⟩
    · rintro i σ H0 hi ⟨s1, s2, s3, s4, s5, s6, rfl, k0, p0, T1⟩
      walk_at "rd"
      refine ⟨p, _, rfl, p0, by omega, fun H1 t a b F ps qs k1 p1 et Sa Sb Ba Bb F0 F1 F2 => ?_⟩
      walk_at "rd"
      obtain ⟨y0, e0⟩ := p0.lst
      refine ⟨_, et, rfl, _, _, rfl, _, _, rfl, _, _, rfl, rfl, a, b, F, ps, qs, rfl, Sa, Sb, Ba, Bb, F0, F1, F2, Tabs.kp T1 k1 e0, fun H2 u x y z r1 r2 r3 x2 T3 eu S1 S2 S3 R1 R2 R3 I1 I2 I3 => ?_⟩
      have ft := three_fits (lim_of F1 Ba Bb R1 (fun x y => x && y) rfl fun n => by rw [I1, Bool.and_eq_true, inB_iff, inB_iff]) (lim_of F1 Ba Bb R2 (fun x y => x || y) rfl fun n => by rw [I2, Bool.or_eq_true, inB_iff, inB_iff])
        (lim_of F1 Ba Bb R3 (fun x y => x && !y) rfl fun n => by rw [I3, Bool.and_eq_true, inB_iff, Bool.not_eq_true', ← Bool.not_eq_true, inB_iff])
      have p2 := p1.ext x2
      refine ⟨_, ⟨false, p, three_dq p2 eu S1 S2 S3⟩, ft, ?_⟩
      obtain ⟨ka, fa⟩ := Ba.rg
      obtain ⟨kb, fb⟩ := Bb.rg
      have e1 : Rng.both ps qs = r1 := Rng.Rg.one ⟨_, Rng.both_from ps qs ka kb fa fb⟩ R1 fun n => by rw [Rng.both_in n ps qs ka kb fa fb, I1]
      have e3 : withoutM ps qs = r3 := by
        obtain ⟨g1, g2⟩ := without_spec Ba.rg Bb.rg
        exact Rng.Rg.one g1 R3 fun n => by rw [g2, I3]
      have la := Ba.len
      have lb := Bb.len
      have calls : ∀ (Hs : Hp) (R : V → V → V → Hp → Prop), SetAt Hs a ps → SetAt Hs b qs → (∀ H' x y z, Same Hs H' → SetAt H' x r1 → SetAt H' y r2 → SetAt H' z r3 → R (.ref x) (.ref y) (.ref z) H') →
          sp_both [.ref a, .ref b] Hs (fun v1 H1 => sp_either [.ref a, .ref b] H1 (fun v2 H1 => sp_without [.ref a, .ref b] H1 (fun v3 H1 => R v1 v2 v3 H1) noErr) noErr) noErr := by
        intro Hs R A1 B1 k
        refine ⟨a, b, ps, qs, rfl, A1, B1, by omega, by omega, fun Hb x' sb gx => ⟨a, b, ps, qs, rfl, A1.same sb, B1.same sb, by omega, by omega, fun q m => (from_lo fa q m).2, fun q m => (from_lo fb q m).2, fun Hc y' rs sc gy rg inn _ =>
          ⟨a, b, ps, qs, rfl, A1.same (sb.trans sc), B1.same (sb.trans sc), by omega, by omega, fun Hd z' sd gz => ?_⟩⟩⟩
        have e2 : rs = r2 := Rng.Rg.one rg R2 fun n => by rw [inn, I2]
        rw [e1] at gx
        rw [e2] at gy
        rw [e3] at gz
        exact k Hd x' y' z' (sb.trans (sc.trans sd)) (gx.same (sc.trans sd)) (gy.same sd) gz
      refine calls H2 _ (Sa.tk (ext_tk x2)) (Sb.tk (ext_tk x2)) fun H3 x' y' z' s3 g1 g2 g3 => ⟨by decide, fun M nM => ?_⟩
      have sM := new_same (o := HO.lst [V.ref x', V.ref y', V.ref z']) nM
      have p3 := (p2.same s3).same sM
      refine ⟨_, ⟨false, p, three_dq p3 upd_same (g1.same sM) (g2.same sM) (g3.same sM)⟩, ft, rfl, iteNS rfl ?_⟩
      have s23 := s3.trans sM
      refine calls _ _ ((Sa.tk (ext_tk x2)).same s23) ((Sb.tk (ext_tk x2)).same s23) fun H4 x' y' z' s4 g1 g2 g3 => ⟨by decide, fun N nN => ?_⟩
      have sN := new_same (o := HO.lst [V.ref x', V.ref y', V.ref z']) nN
      have p4 := (p3.same s4).same sN
      have s24 := s23.trans (s4.trans sN)
      exact ⟨_, ⟨false, p, three_dq p4 upd_same (g1.same sN) (g2.same sN) (g3.same sN)⟩, ft, rfl, iteNS rfl ⟨Ke.trans k0 (Ke.trans (Ke.kp k1) (Ke.trans (Ke.ext x2) (Ke.same s24))), p4.up (by omega), Tabs.same T3 s24⟩⟩
    · rintro σ H0 ⟨s1, s2, s3, s4, s5, s6, rfl, k0, p0, T1⟩
      walk_at "rd"
      exact q _ k0 T1
def sp_law (cs : List (Addr × Addr)) (K : PySem.W.Frag) : Sp := fun vs H Q _ => ∃ (a : Addr) (ns : List Int), vs = [.ref a] ∧ (∀ p ∈ cs, H p.2 = some (.tbl #[])) ∧ SqL K H a (ns.map V.int) ∧ ns.length ≤ 63 ∧ ∀ H', Q (.bl true) H'
theorem Ke.seqL {K : PySem.W.Frag} {p a : Addr} {H H' : Hp} {xs : List V} (k : Ke p H H') (n : H p = none) (h : SqL K H a xs) : SqL K H' a xs := by
  rcases h with (h | ⟨o, h⟩) | h
  · exact .inl (.inl (k _ _ (ne_of_none h n) (fun _ z => nomatch z) h))
  · exact .inl (.inr ⟨o, k _ _ (ne_of_none h n) (fun _ z => nomatch z) h⟩)
  · exact .inr h
theorem ok_law {f : Addr} {A c : Addr} {fd : FuncData} (F : Fun K "law" "law" s_law f fd) (T : Txt mg) (C__law_pot : Cal P w K mg base 1 "_law_pot" (sp_pot K)) (C__law_right : Cal P w K mg base 5 "_law_right" (sp_right A)) : FnG P w K mg base 6 f fd ["_law_script"] (sp_law [(c, A)] K) := by
  refine okG F sc_law (fun vs H Q E h => ?_) (fun cdv A0 outer s H vs Q E hg hr h => ?_)
  · obtain ⟨a, ns, rfl, _⟩ := h
    rfl
  · obtain ⟨a, ns, rfl, hA, hS, hl, q⟩ := h
    have T0 : Tabs (dueT A) H := fun z m => by
      rw [List.mem_singleton.mp m]
      exact TabS.nil (hA _ List.mem_cons_self)
    replace hr := And.intro hg hr
    refine ⟨_, (pss_cons (ps_for PassesOwn.never rfl (pi_range1 (by rfl) T.b_range (pa_cons (pe_callB (call_max2 rfl) (by rfl) T.b_max (by decide +kernel) (pa_cons pe_int (pa_cons (pe_callB (call_min2 rfl) (by rfl) T.b_min (by decide +kernel) (pa_cons pe_int (pa_cons (pe_callB call_len_seq (by rfl) T.b_len (by decide +kernel) (pa_cons (pv 0) pa_nil)) pa_nil))) pa_nil))) pa_nil)) (pg_name (i := 1) sc_law.nd rfl (Or.inl rfl)) (pss_one (ps_if (pt_not (pt_val (pe_c C__law_right hr (by decide) (by rfl) (pa_cons (pe_c C__law_pot hr (by decide) (by rfl) (pa_cons (pv 0) (pa_cons (pv 1) pa_nil))) pa_nil)))) (pss_one (ps_ret pe_bl)) pss_nil)))
        (pss_one (ps_ret pe_bl))), ?_⟩
    walk_at "rd"
    have least : ∀ L : Int, 0 ≤ L → 0 ≤ (if (if L < 3 then L else 3) > 1 then (if L < 3 then L else 3) else 1) ∧ (if (if L < 3 then L else 3) > 1 then (if L < 3 then L else 3) else 1) ≤ 3 := fun L h => by
      split <;> split <;> omega
    obtain ⟨b1, b2⟩ := least ((ns.map V.int).length : Nat) (by omega)
    refine ⟨.ref a, rfl, a, rfl, ns.map V.int, .inl hS, 3, _, rfl, 1, _, rfl, _, rfl, ?_, ?_, for_range (lo := 0) (fun i σ H' => ∃ t : Option V, σ = [some (.ref a), t] ∧ SqL K H' a (ns.map V.int) ∧ Tabs (dueT A) H') ⟨none, rfl, hS, T0⟩ ?_ ?_⟩
    · exact Int.le_trans (by decide) b1
    · exact Int.lt_of_le_of_lt b2 (by decide)
    · rintro i σ H0 hi ⟨t, rfl, s0, t0⟩
      have i3 : i < 3 := by
        have := Int.toNat_le_toNat b2
        exact Nat.lt_of_lt_of_le hi this
      walk_at "rd"
      exact ⟨a, ns, i, by rw [Int.zero_add], s0, hl, by omega, fun H1 p s1 np pot => ⟨p, rfl, pot, Tabs.same t0 s1, fun H2 k2 t2 => ⟨true, rfl, iteF ⟨((Ke.same s1).trans k2).seqL np s0, t2⟩⟩⟩⟩
    · rintro σ H0 ⟨t, rfl, s0, t0⟩
      walk_at "rd"
      exact q _
end
end Pf

set_option Elab.async false
set_option linter.all false
set_option maxRecDepth 100000
/-! The end. -/
namespace Pf
open PySem PySem.Spec PyProof.Rows L2 LamX NdefX
theorem kbn {K : PySem.W.Frag} {x qual : Str} {st : Stmt} {f : Addr} {fd : FuncData} {ps ks : List Str} {g : List Value → List Value} {gV : List V → List V} (F : Fun K x qual st f fd)
    (h : ∀ (kV doc pm : Value) (an : Option Addr) (cdv ct : Value) (ws : List Value), ws.length = ks.length → bindArgs (PySem.W.fnOf x qual (defArgs st) (defBody st) (defScope st) .none kV doc pm an cdv ct) ⟨[], ks.zip ws⟩ = pure (ps.zip (g ws)))
    (rel : ∀ {zs : List V} {ws : List Value}, Vals zs ws → Vals (gV zs) (g ws)) : KBn K fd ps 0 ks (fun _ ws => g ws) (fun _ zs => gV zs) := by
  obtain ⟨_, _, kV, doc, pm, an, cdv, ct, _, rfl, _, _⟩ := F.ex
  refine ⟨fun s us ws _ h1 h2 => ?_, fun _ r => rel r⟩
  have e := List.eq_nil_of_length_eq_zero h1
  subst e
  exact .of_eq (h kV doc pm an cdv ct ws h2)
def swapW : List Value → List Value
  | [a, b] => [b, a]
  | zs => zs
theorem swap_rel : ∀ {zs : List V} {ws : List Value}, Vals zs ws → Vals (swap2 zs) (swapW ws)
  | _, _, .nil => .nil
  | _, _, .cons h .nil => .cons h .nil
  | _, _, .cons h (.cons k .nil) => .cons k (.cons h .nil)
  | _, _, .cons h (.cons k (.cons l r)) => .cons h (.cons k (.cons l r))
section
variable {base : Heap} {P : Program} {w : World} {mg : Str → Option Value} {K : PySem.W.Frag}
theorem all_ok {f : Addr} {fd : FuncData} (T : Txt mg) (F : Fun K "law" "law" s_law f fd)
    {f0 : Addr} {fd0 : FuncData} (F0 : Fun K "both" "both" s_both f0 fd0) (b0 : Binds K fd0 ["one", "other"] []) (m0 : mg "both" = some (.ref f0))
    {f1 : Addr} {fd1 : FuncData} (F1 : Fun K "either" "either" s_either f1 fd1) (b1 : Binds K fd1 ["one", "other"] []) (m1 : mg "either" = some (.ref f1))
    {f2 : Addr} {fd2 : FuncData} (F2 : Fun K "without" "without" s_without f2 fd2) (b2 : Binds K fd2 ["one", "other"] []) (m2 : mg "without" = some (.ref f2))
    {f3 : Addr} {fd3 : FuncData} (F3 : Fun K "united" "united" s_united f3 fd3) (b3 : Binds K fd3 ["pairs"] []) (m3 : mg "united" = some (.ref f3))
    {f4 : Addr} {fd4 : FuncData} (F4 : Fun K "gaps" "gaps" s_gaps f4 fd4) (b4 : Binds K fd4 ["ranges", "low", "high"] []) (m4 : mg "gaps" = some (.ref f4))
    {f5 : Addr} {fd5 : FuncData} (F5 : Fun K "_law_pot" "_law_pot" s__law_pot f5 fd5) (b5 : Binds K fd5 ["_law_script", "_law_k"] []) (m5 : mg "_law_pot" = some (.ref f5))
    {f6 : Addr} {fd6 : FuncData} (F6 : Fun K "_law_draw" "_law_draw" s__law_draw f6 fd6) (b6 : Binds K fd6 ["_law_pot_here", "_law_many"] []) (m6 : mg "_law_draw" = some (.ref f6))
    {f7 : Addr} {fd7 : FuncData} (F7 : Fun K "_law_any" "_law_any" s__law_any f7 fd7) (b7 : Binds K fd7 ["_law_pot_here", "_law_items"] []) (m7 : mg "_law_any" = some (.ref f7))
    {f8 : Addr} {fd8 : FuncData} (F8 : Fun K "_law_spans" "_law_spans" s__law_spans f8 fd8) (b8 : Binds K fd8 ["_law_pot_here", "_law_most", "_law_low", "_law_high"] []) (m8 : mg "_law_spans" = some (.ref f8))
    {f9 : Addr} {fd9 : FuncData} (F9 : Fun K "_law_in" "_law_in" s__law_in f9 fd9) (b9 : Binds K fd9 ["_law_spans_here", "_law_number"] []) (m9 : mg "_law_in" = some (.ref f9))
    {f10 : Addr} {fd10 : FuncData} (F10 : Fun K "_law_points" "_law_points" s__law_points f10 fd10) (b10 : Binds K fd10 ["_law_some"] []) (m10 : mg "_law_points" = some (.ref f10))
    {f11 : Addr} {fd11 : FuncData} (F11 : Fun K "_law_made" "_law_made" s__law_made f11 fd11) (b11 : Binds K fd11 ["_law_points_here", "_law_is_in"] []) (m11 : mg "_law_made" = some (.ref f11))
    {f12 : Addr} {fd12 : FuncData} (F12 : Fun K "_law_poured" "_law_poured" s__law_poured f12 fd12) (b12 : Binds K fd12 ["_law_pairs"] []) (m12 : mg "_law_poured" = some (.ref f12))
    {f13 : Addr} {fd13 : FuncData} (F13 : Fun K "_law_numbers" "_law_numbers" s__law_numbers f13 fd13) (b13 : Binds K fd13 ["_law_spans_here"] []) (m13 : mg "_law_numbers" = some (.ref f13))
    {f14 : Addr} {fd14 : FuncData} (F14 : Fun K "_law_of_numbers" "_law_of_numbers" s__law_of_numbers f14 fd14) (b14 : Binds K fd14 ["_law_numbers_here"] []) (m14 : mg "_law_of_numbers" = some (.ref f14))
    {f15 : Addr} {fd15 : FuncData} (F15 : Fun K "_law_pair" "_law_pair" s__law_pair f15 fd15) (b15 : Binds K fd15 ["_law_pot_here"] []) (m15 : mg "_law_pair" = some (.ref f15))
    {f16 : Addr} {fd16 : FuncData} (F16 : Fun K "_law_due" "_law_due" s__law_due f16 fd16) (b16 : Binds K fd16 ["_law_first", "_law_second", "_law_is_small"] []) (m16 : mg "_law_due" = some (.ref f16))
    {f17 : Addr} {fd17 : FuncData} (F17 : Fun K "_law_right" "_law_right" s__law_right f17 fd17) (b17 : Binds K fd17 ["_law_pot_here"] []) (m17 : mg "_law_right" = some (.ref f17))
    {c A : Addr} (hfc : fd16.code = .ref c) (TB : TabB base mg c A) :
    FnG P w K mg base 6 f fd ["_law_script"] (sp_law [(c, A)] K) := by
  have G0 := ok_both (P := P) (w := w) (base := base) F0 T
  have C_both : Cal P w K mg base 1 "both" sp_both := ⟨_, _, _, G0, m0, F0.kp, b0⟩
  have CK0 : CalK P w K mg base 1 "both" ["other", "one"] swap2 sp_both := ⟨_, _, _, swapW, G0, m0, F0.kp, kbn F0 (fun _ _ _ _ _ _ ws h => match ws, h with | [_, _], _ => rfl) swap_rel⟩
  have C_united : Cal P w K mg base 1 "united" sp_united := ⟨_, _, _, ok_united F3 T, m3, F3.kp, b3⟩
  have C_gaps : Cal P w K mg base 2 "gaps" sp_gaps := ⟨_, _, _, ok_gaps F4 T C_both, m4, F4.kp, b4⟩
  have G1 := ok_either (P := P) (w := w) (base := base) F1 T C_united
  have C_either : Cal P w K mg base 2 "either" sp_either := ⟨_, _, _, G1, m1, F1.kp, b1⟩
  have CK1 : CalK P w K mg base 2 "either" ["other", "one"] swap2 sp_either := ⟨_, _, _, swapW, G1, m1, F1.kp, kbn F1 (fun _ _ _ _ _ _ ws h => match ws, h with | [_, _], _ => rfl) swap_rel⟩
  have G2 := ok_without (P := P) (w := w) (base := base) F2 T C_both C_gaps
  have C_without : Cal P w K mg base 3 "without" sp_without := ⟨_, _, _, G2, m2, F2.kp, b2⟩
  have CK2 : CalK P w K mg base 3 "without" ["other", "one"] swap2 sp_without := ⟨_, _, _, swapW, G2, m2, F2.kp, kbn F2 (fun _ _ _ _ _ _ ws h => match ws, h with | [_, _], _ => rfl) swap_rel⟩
  have C_pot : Cal P w K mg base 1 "_law_pot" (sp_pot K) := ⟨_, _, _, ok_pot F5 T, m5, F5.kp, b5⟩
  have C_draw : Cal P w K mg base 1 "_law_draw" sp_draw := ⟨_, _, _, ok_draw F6 T, m6, F6.kp, b6⟩
  have C_any : Cal P w K mg base 2 "_law_any" sp_any := ⟨_, _, _, ok_any F7 T C_draw, m7, F7.kp, b7⟩
  have C_spans : Cal P w K mg base 3 "_law_spans" sp_spans := ⟨_, _, _, ok_spans F8 T C_draw C_any, m8, F8.kp, b8⟩
  have C_in : Cal P w K mg base 1 "_law_in" sp_in := ⟨_, _, _, ok_in F9 T, m9, F9.kp, b9⟩
  have C_points : Cal P w K mg base 1 "_law_points" sp_points := ⟨_, _, _, ok_points F10 T, m10, F10.kp, b10⟩
  have L_made := ok_made (P := P) (w := w) (base := base) F11 T m11 b11
  have C_poured : Cal P w K mg base 1 "_law_poured" sp_poured := ⟨_, _, _, ok_poured F12 T, m12, F12.kp, b12⟩
  have C_numbers : Cal P w K mg base 1 "_law_numbers" sp_numbers := ⟨_, _, _, ok_numbers F13 T, m13, F13.kp, b13⟩
  have C_ofnums : Cal P w K mg base 2 "_law_of_numbers" sp_ofnums := ⟨_, _, _, ok_ofnums F14 T C_poured, m14, F14.kp, b14⟩
  have C_pair : Cal P w K mg base 4 "_law_pair" sp_lpair := ⟨_, _, _, ok_lpair F15 T C_any C_spans, m15, F15.kp, b15⟩
  have C_due : Cal P w K mg base 4 "_law_due" (sp_due A) := ⟨_, _, _, ok_due F16 hfc TB T C_numbers C_ofnums C_points C_in L_made, m16, F16.kp, b16⟩
  have C_right : Cal P w K mg base 5 "_law_right" (sp_right A) := ⟨_, _, _, ok_right F17 T C_pair C_due C_both CK0 C_either CK1 C_without CK2, m17, F17.kp, b17⟩
  exact ok_law F T C_pot C_right
end
theorem all_mk {l : PySem.W.OpenLaw} {w : World} {K : PySem.W.Frag} {h : Heap} {mg : Str → Option Value} {fa f0 f1 f2 f3 f4 f5 f6 f7 f8 f9 f10 f11 f12 f13 f14 f15 f16 f17 f18 : Addr} (X : K.In h) (G : h.Ns mainGlobals mg) {c A : Addr} (hfa : mg "law" = some (.ref fa))
    {od0 an0 od1 an1 od2 an2 od3 an3 od4 an4 od5 an5 od6 an6 od7 an7 od8 an8 od9 an9 od10 an10 od11 an11 od12 an12 od13 an13 od14 an14 od15 an15 od16 an16 od17 an17 od18 an18 : Option Addr} {sl0 sl1 sl2 sl3 sl4 sl5 sl6 sl7 sl8 sl9 sl10 sl11 sl12 sl13 sl14 sl15 sl16 sl17 sl18 : Array (Option Value)} {oc0 kV0 dc0 pm0 cd0 ct0 oc1 kV1 dc1 pm1 cd1 ct1 oc2 kV2 dc2 pm2 cd2 ct2 oc3 kV3 dc3 pm3 cd3 ct3 oc4 kV4 dc4 pm4 cd4 ct4 oc5 kV5 dc5 pm5 cd5 ct5 oc6 kV6 dc6 pm6 cd6 ct6 oc7 kV7 dc7 pm7 cd7 ct7 oc8 kV8 dc8 pm8 cd8 ct8 oc9 kV9 dc9 pm9 cd9 ct9 oc10 kV10 dc10 pm10 cd10 ct10 oc11 kV11 dc11 pm11 cd11 ct11 oc12 kV12 dc12 pm12 cd12 ct12 oc13 kV13 dc13 pm13 cd13 ct13 oc14 kV14 dc14 pm14 cd14 ct14 oc15 kV15 dc15 pm15 cd15 ct15 oc16 kV16 dc16 pm16 ct16 oc17 kV17 dc17 pm17 cd17 ct17 oc18 kV18 dc18 pm18 cd18 ct18 : Value}
    (a0 : PySem.W.nsIn K mainGlobals "both" = some (some (.ref f0))) (l0 : K.lookup f0 = some ⟨oc0, od0, .func (PySem.W.fnOf "both" "both" (defArgs s_both) (defBody s_both) (defScope s_both) .none kV0 dc0 pm0 an0 cd0 ct0), sl0⟩) (c0 : PySem.W.codeIn K cd0 "both" = true) (k0 : PySem.W.keepIn K (.ref f0) = true)
    (a1 : PySem.W.nsIn K mainGlobals "either" = some (some (.ref f1))) (l1 : K.lookup f1 = some ⟨oc1, od1, .func (PySem.W.fnOf "either" "either" (defArgs s_either) (defBody s_either) (defScope s_either) .none kV1 dc1 pm1 an1 cd1 ct1), sl1⟩) (c1 : PySem.W.codeIn K cd1 "either" = true) (k1 : PySem.W.keepIn K (.ref f1) = true)
    (a2 : PySem.W.nsIn K mainGlobals "without" = some (some (.ref f2))) (l2 : K.lookup f2 = some ⟨oc2, od2, .func (PySem.W.fnOf "without" "without" (defArgs s_without) (defBody s_without) (defScope s_without) .none kV2 dc2 pm2 an2 cd2 ct2), sl2⟩) (c2 : PySem.W.codeIn K cd2 "without" = true) (k2 : PySem.W.keepIn K (.ref f2) = true)
    (a3 : PySem.W.nsIn K mainGlobals "united" = some (some (.ref f3))) (l3 : K.lookup f3 = some ⟨oc3, od3, .func (PySem.W.fnOf "united" "united" (defArgs s_united) (defBody s_united) (defScope s_united) .none kV3 dc3 pm3 an3 cd3 ct3), sl3⟩) (c3 : PySem.W.codeIn K cd3 "united" = true) (k3 : PySem.W.keepIn K (.ref f3) = true)
    (a4 : PySem.W.nsIn K mainGlobals "gaps" = some (some (.ref f4))) (l4 : K.lookup f4 = some ⟨oc4, od4, .func (PySem.W.fnOf "gaps" "gaps" (defArgs s_gaps) (defBody s_gaps) (defScope s_gaps) .none kV4 dc4 pm4 an4 cd4 ct4), sl4⟩) (c4 : PySem.W.codeIn K cd4 "gaps" = true) (k4 : PySem.W.keepIn K (.ref f4) = true)
    (a5 : PySem.W.nsIn K mainGlobals "_law_pot" = some (some (.ref f5))) (l5 : K.lookup f5 = some ⟨oc5, od5, .func (PySem.W.fnOf "_law_pot" "_law_pot" (defArgs s__law_pot) (defBody s__law_pot) (defScope s__law_pot) .none kV5 dc5 pm5 an5 cd5 ct5), sl5⟩) (c5 : PySem.W.codeIn K cd5 "_law_pot" = true) (k5 : PySem.W.keepIn K (.ref f5) = true)
    (a6 : PySem.W.nsIn K mainGlobals "_law_draw" = some (some (.ref f6))) (l6 : K.lookup f6 = some ⟨oc6, od6, .func (PySem.W.fnOf "_law_draw" "_law_draw" (defArgs s__law_draw) (defBody s__law_draw) (defScope s__law_draw) .none kV6 dc6 pm6 an6 cd6 ct6), sl6⟩) (c6 : PySem.W.codeIn K cd6 "_law_draw" = true) (k6 : PySem.W.keepIn K (.ref f6) = true)
    (a7 : PySem.W.nsIn K mainGlobals "_law_any" = some (some (.ref f7))) (l7 : K.lookup f7 = some ⟨oc7, od7, .func (PySem.W.fnOf "_law_any" "_law_any" (defArgs s__law_any) (defBody s__law_any) (defScope s__law_any) .none kV7 dc7 pm7 an7 cd7 ct7), sl7⟩) (c7 : PySem.W.codeIn K cd7 "_law_any" = true) (k7 : PySem.W.keepIn K (.ref f7) = true)
    (a8 : PySem.W.nsIn K mainGlobals "_law_spans" = some (some (.ref f8))) (l8 : K.lookup f8 = some ⟨oc8, od8, .func (PySem.W.fnOf "_law_spans" "_law_spans" (defArgs s__law_spans) (defBody s__law_spans) (defScope s__law_spans) .none kV8 dc8 pm8 an8 cd8 ct8), sl8⟩) (c8 : PySem.W.codeIn K cd8 "_law_spans" = true) (k8 : PySem.W.keepIn K (.ref f8) = true)
    (a9 : PySem.W.nsIn K mainGlobals "_law_in" = some (some (.ref f9))) (l9 : K.lookup f9 = some ⟨oc9, od9, .func (PySem.W.fnOf "_law_in" "_law_in" (defArgs s__law_in) (defBody s__law_in) (defScope s__law_in) .none kV9 dc9 pm9 an9 cd9 ct9), sl9⟩) (c9 : PySem.W.codeIn K cd9 "_law_in" = true) (k9 : PySem.W.keepIn K (.ref f9) = true)
    (a10 : PySem.W.nsIn K mainGlobals "_law_points" = some (some (.ref f10))) (l10 : K.lookup f10 = some ⟨oc10, od10, .func (PySem.W.fnOf "_law_points" "_law_points" (defArgs s__law_points) (defBody s__law_points) (defScope s__law_points) .none kV10 dc10 pm10 an10 cd10 ct10), sl10⟩) (c10 : PySem.W.codeIn K cd10 "_law_points" = true) (k10 : PySem.W.keepIn K (.ref f10) = true)
    (a11 : PySem.W.nsIn K mainGlobals "_law_made" = some (some (.ref f11))) (l11 : K.lookup f11 = some ⟨oc11, od11, .func (PySem.W.fnOf "_law_made" "_law_made" (defArgs s__law_made) (defBody s__law_made) (defScope s__law_made) .none kV11 dc11 pm11 an11 cd11 ct11), sl11⟩) (c11 : PySem.W.codeIn K cd11 "_law_made" = true) (k11 : PySem.W.keepIn K (.ref f11) = true)
    (a12 : PySem.W.nsIn K mainGlobals "_law_poured" = some (some (.ref f12))) (l12 : K.lookup f12 = some ⟨oc12, od12, .func (PySem.W.fnOf "_law_poured" "_law_poured" (defArgs s__law_poured) (defBody s__law_poured) (defScope s__law_poured) .none kV12 dc12 pm12 an12 cd12 ct12), sl12⟩) (c12 : PySem.W.codeIn K cd12 "_law_poured" = true) (k12 : PySem.W.keepIn K (.ref f12) = true)
    (a13 : PySem.W.nsIn K mainGlobals "_law_numbers" = some (some (.ref f13))) (l13 : K.lookup f13 = some ⟨oc13, od13, .func (PySem.W.fnOf "_law_numbers" "_law_numbers" (defArgs s__law_numbers) (defBody s__law_numbers) (defScope s__law_numbers) .none kV13 dc13 pm13 an13 cd13 ct13), sl13⟩) (c13 : PySem.W.codeIn K cd13 "_law_numbers" = true) (k13 : PySem.W.keepIn K (.ref f13) = true)
    (a14 : PySem.W.nsIn K mainGlobals "_law_of_numbers" = some (some (.ref f14))) (l14 : K.lookup f14 = some ⟨oc14, od14, .func (PySem.W.fnOf "_law_of_numbers" "_law_of_numbers" (defArgs s__law_of_numbers) (defBody s__law_of_numbers) (defScope s__law_of_numbers) .none kV14 dc14 pm14 an14 cd14 ct14), sl14⟩) (c14 : PySem.W.codeIn K cd14 "_law_of_numbers" = true) (k14 : PySem.W.keepIn K (.ref f14) = true)
    (a15 : PySem.W.nsIn K mainGlobals "_law_pair" = some (some (.ref f15))) (l15 : K.lookup f15 = some ⟨oc15, od15, .func (PySem.W.fnOf "_law_pair" "_law_pair" (defArgs s__law_pair) (defBody s__law_pair) (defScope s__law_pair) .none kV15 dc15 pm15 an15 cd15 ct15), sl15⟩) (c15 : PySem.W.codeIn K cd15 "_law_pair" = true) (k15 : PySem.W.keepIn K (.ref f15) = true)
    (a16 : PySem.W.nsIn K mainGlobals "_law_due" = some (some (.ref f16))) (l16 : K.lookup f16 = some ⟨oc16, od16, .func (PySem.W.fnOf "_law_due" "_law_due" (defArgs s__law_due) (defBody s__law_due) (defScope s__law_due) .none kV16 dc16 pm16 an16 (.ref c) ct16), sl16⟩) (c16 : PySem.W.codeIn K (.ref c) "_law_due" = true) (k16 : PySem.W.keepIn K (.ref f16) = true)
    (a17 : PySem.W.nsIn K mainGlobals "_law_right" = some (some (.ref f17))) (l17 : K.lookup f17 = some ⟨oc17, od17, .func (PySem.W.fnOf "_law_right" "_law_right" (defArgs s__law_right) (defBody s__law_right) (defScope s__law_right) .none kV17 dc17 pm17 an17 cd17 ct17), sl17⟩) (c17 : PySem.W.codeIn K cd17 "_law_right" = true) (k17 : PySem.W.keepIn K (.ref f17) = true)
    (a18 : PySem.W.nsIn K mainGlobals "law" = some (some (.ref f18))) (l18 : K.lookup f18 = some ⟨oc18, od18, .func (PySem.W.fnOf "law" "law" (defArgs s_law) (defBody s_law) (defScope s_law) .none kV18 dc18 pm18 an18 cd18 ct18), sl18⟩) (c18 : PySem.W.codeIn K cd18 "law" = true) (k18 : PySem.W.keepIn K (.ref f18) = true)
    (z_abs : PySem.W.nsIn K mainGlobals "abs" = some none)
    (z_any : PySem.W.nsIn K mainGlobals "any" = some none)
    (z_int : PySem.W.nsIn K mainGlobals "int" = some none)
    (z_len : PySem.W.nsIn K mainGlobals "len" = some none)
    (z_list : PySem.W.nsIn K mainGlobals "list" = some none)
    (z_max : PySem.W.nsIn K mainGlobals "max" = some none)
    (z_min : PySem.W.nsIn K mainGlobals "min" = some none)
    (z_range : PySem.W.nsIn K mainGlobals "range" = some none)
    (z_repr : PySem.W.nsIn K mainGlobals "repr" = some none)
    (z_set : PySem.W.nsIn K mainGlobals "set" = some none)
    (z_sorted : PySem.W.nsIn K mainGlobals "sorted" = some none)
    (z_tuple : PySem.W.nsIn K mainGlobals "tuple" = some none)
    (z_zip : PySem.W.nsIn K mainGlobals "zip" = some none) :
    ∃ fd : FuncData, (∀ (s : Shared) (v : Value), BindsTo s fd ⟨[v], []⟩ [("_law_script", v)]) ∧ ∀ base : Heap, K.In base → base.Ns mainGlobals mg → (∀ z ∈ [(c, A)], TabB base mg z.1 z.2) → FnG l.prog w K mg base 6 fa fd ["_law_script"] (sp_law [(c, A)] K) := by
  have e := hfa.symm.trans (PySem.W.mg_of X G a18)
  cases e
  have b0 := (fun_mk (st := s_both) l0 c0 k0).binds (ps := ["one", "other"]) fun _ _ _ _ _ _ us hl => match us, hl with | [_, _], _ => rfl
  have b1 := (fun_mk (st := s_either) l1 c1 k1).binds (ps := ["one", "other"]) fun _ _ _ _ _ _ us hl => match us, hl with | [_, _], _ => rfl
  have b2 := (fun_mk (st := s_without) l2 c2 k2).binds (ps := ["one", "other"]) fun _ _ _ _ _ _ us hl => match us, hl with | [_, _], _ => rfl
  have b3 := (fun_mk (st := s_united) l3 c3 k3).binds (ps := ["pairs"]) fun _ _ _ _ _ _ us hl => match us, hl with | [_], _ => rfl
  have b4 := (fun_mk (st := s_gaps) l4 c4 k4).binds (ps := ["ranges", "low", "high"]) fun _ _ _ _ _ _ us hl => match us, hl with | [_, _, _], _ => rfl
  have b5 := (fun_mk (st := s__law_pot) l5 c5 k5).binds (ps := ["_law_script", "_law_k"]) fun _ _ _ _ _ _ us hl => match us, hl with | [_, _], _ => rfl
  have b6 := (fun_mk (st := s__law_draw) l6 c6 k6).binds (ps := ["_law_pot_here", "_law_many"]) fun _ _ _ _ _ _ us hl => match us, hl with | [_, _], _ => rfl
  have b7 := (fun_mk (st := s__law_any) l7 c7 k7).binds (ps := ["_law_pot_here", "_law_items"]) fun _ _ _ _ _ _ us hl => match us, hl with | [_, _], _ => rfl
  have b8 := (fun_mk (st := s__law_spans) l8 c8 k8).binds (ps := ["_law_pot_here", "_law_most", "_law_low", "_law_high"]) fun _ _ _ _ _ _ us hl => match us, hl with | [_, _, _, _], _ => rfl
  have b9 := (fun_mk (st := s__law_in) l9 c9 k9).binds (ps := ["_law_spans_here", "_law_number"]) fun _ _ _ _ _ _ us hl => match us, hl with | [_, _], _ => rfl
  have b10 := (fun_mk (st := s__law_points) l10 c10 k10).binds (ps := ["_law_some"]) fun _ _ _ _ _ _ us hl => match us, hl with | [_], _ => rfl
  have b11 := (fun_mk (st := s__law_made) l11 c11 k11).binds (ps := ["_law_points_here", "_law_is_in"]) fun _ _ _ _ _ _ us hl => match us, hl with | [_, _], _ => rfl
  have b12 := (fun_mk (st := s__law_poured) l12 c12 k12).binds (ps := ["_law_pairs"]) fun _ _ _ _ _ _ us hl => match us, hl with | [_], _ => rfl
  have b13 := (fun_mk (st := s__law_numbers) l13 c13 k13).binds (ps := ["_law_spans_here"]) fun _ _ _ _ _ _ us hl => match us, hl with | [_], _ => rfl
  have b14 := (fun_mk (st := s__law_of_numbers) l14 c14 k14).binds (ps := ["_law_numbers_here"]) fun _ _ _ _ _ _ us hl => match us, hl with | [_], _ => rfl
  have b15 := (fun_mk (st := s__law_pair) l15 c15 k15).binds (ps := ["_law_pot_here"]) fun _ _ _ _ _ _ us hl => match us, hl with | [_], _ => rfl
  have b16 := (fun_mk (st := s__law_due) l16 c16 k16).binds (ps := ["_law_first", "_law_second", "_law_is_small"]) fun _ _ _ _ _ _ us hl => match us, hl with | [_, _, _], _ => rfl
  have b17 := (fun_mk (st := s__law_right) l17 c17 k17).binds (ps := ["_law_pot_here"]) fun _ _ _ _ _ _ us hl => match us, hl with | [_], _ => rfl
  exact ⟨PySem.W.fnOf "law" "law" (defArgs s_law) (defBody s_law) (defScope s_law) .none kV18 dc18 pm18 an18 cd18 ct18, fun s v => .of_eq rfl, fun base _ _ tb =>
    all_ok ⟨PySem.W.mg_none_of X G z_abs, PySem.W.mg_none_of X G z_any, PySem.W.mg_none_of X G z_int, PySem.W.mg_none_of X G z_len, PySem.W.mg_none_of X G z_list, PySem.W.mg_none_of X G z_max, PySem.W.mg_none_of X G z_min, PySem.W.mg_none_of X G z_range, PySem.W.mg_none_of X G z_repr, PySem.W.mg_none_of X G z_set, PySem.W.mg_none_of X G z_sorted, PySem.W.mg_none_of X G z_tuple, PySem.W.mg_none_of X G z_zip⟩ (fun_mk (st := s_law) l18 c18 k18) (fun_mk (st := s_both) l0 c0 k0) b0 (PySem.W.mg_of X G a0) (fun_mk (st := s_either) l1 c1 k1) b1 (PySem.W.mg_of X G a1) (fun_mk (st := s_without) l2 c2 k2) b2 (PySem.W.mg_of X G a2) (fun_mk (st := s_united) l3 c3 k3) b3 (PySem.W.mg_of X G a3) (fun_mk (st := s_gaps) l4 c4 k4) b4 (PySem.W.mg_of X G a4) (fun_mk (st := s__law_pot) l5 c5 k5) b5 (PySem.W.mg_of X G a5) (fun_mk (st := s__law_draw) l6 c6 k6) b6 (PySem.W.mg_of X G a6) (fun_mk (st := s__law_any) l7 c7 k7) b7 (PySem.W.mg_of X G a7) (fun_mk (st := s__law_spans) l8 c8 k8) b8 (PySem.W.mg_of X G a8) (fun_mk (st := s__law_in) l9 c9 k9) b9 (PySem.W.mg_of X G a9) (fun_mk (st := s__law_points) l10 c10 k10) b10 (PySem.W.mg_of X G a10) (fun_mk (st := s__law_made) l11 c11 k11) b11 (PySem.W.mg_of X G a11) (fun_mk (st := s__law_poured) l12 c12 k12) b12 (PySem.W.mg_of X G a12) (fun_mk (st := s__law_numbers) l13 c13 k13) b13 (PySem.W.mg_of X G a13) (fun_mk (st := s__law_of_numbers) l14 c14 k14) b14 (PySem.W.mg_of X G a14) (fun_mk (st := s__law_pair) l15 c15 k15) b15 (PySem.W.mg_of X G a15) (fun_mk (st := s__law_due) l16 c16 k16) b16 (PySem.W.mg_of X G a16) (fun_mk (st := s__law_right) l17 c17 k17) b17 (PySem.W.mg_of X G a17) rfl (tb _ List.mem_cons_self)⟩
end Pf
open PySem PySem.W PyProof.Rows
set_option maxHeartbeats 0 in
theorem PySem.Challenge.cw_piecefacts_k02_two_range_sets_holds : PySem.Challenge.rw_piecefacts_k02_two_range_sets.Holds := by
  w_on; o_law; k_head; (case hw => w_witness2)
  k_fill
  refine Pf.walkT (l := PySem.Challenge.rw_piecefacts_k02_two_range_sets) (k := 6) (x := "_law_script") (sp := Pf.sp_law) rfl rfl ⟨rfl, by decide, by decide⟩ (fun w h Y => PySem.W.km_in_of Y) ?F (fun K cs H a ns hl hT hS => ?goal)
  case F =>
    intro w mg fa h Y KX G hmg
    refine' Pf.fin_mk ?made ?tab ?code ?no
    case tab => exact PySem.W.km_tabs_of Y _ List.mem_cons_self
    case made =>
      refine' Pf.all_mk KX G hmg ?a0 ?l0 ?c0 ?k0 ?a1 ?l1 ?c1 ?k1 ?a2 ?l2 ?c2 ?k2 ?a3 ?l3 ?c3 ?k3 ?a4 ?l4 ?c4 ?k4 ?a5 ?l5 ?c5 ?k5 ?a6 ?l6 ?c6 ?k6 ?a7 ?l7 ?c7 ?k7 ?a8 ?l8 ?c8 ?k8 ?a9 ?l9 ?c9 ?k9 ?a10 ?l10 ?c10 ?k10 ?a11 ?l11 ?c11 ?k11 ?a12 ?l12 ?c12 ?k12 ?a13 ?l13 ?c13 ?k13 ?a14 ?l14 ?c14 ?k14 ?a15 ?l15 ?c15 ?k15 ?a16 ?l16 ?c16 ?k16 ?a17 ?l17 ?c17 ?k17 ?a18 ?l18 ?c18 ?k18 ?z_abs ?z_any ?z_int ?z_len ?z_list ?z_max ?z_min ?z_range ?z_repr ?z_set ?z_sorted ?z_tuple ?z_zip
      (case a0 => k_is); (case l0 => k_is); (case c0 => k_is); (case k0 => k_is); (case a1 => k_is); (case l1 => k_is); (case c1 => k_is); (case k1 => k_is); (case a2 => k_is); (case l2 => k_is); (case c2 => k_is); (case k2 => k_is); (case a3 => k_is); (case l3 => k_is); (case c3 => k_is); (case k3 => k_is); (case a4 => k_is); (case l4 => k_is); (case c4 => k_is); (case k4 => k_is); (case a5 => k_is); (case l5 => k_is); (case c5 => k_is); (case k5 => k_is); (case a6 => k_is); (case l6 => k_is); (case c6 => k_is); (case k6 => k_is); (case a7 => k_is); (case l7 => k_is); (case c7 => k_is); (case k7 => k_is); (case a8 => k_is); (case l8 => k_is); (case c8 => k_is); (case k8 => k_is); (case a9 => k_is); (case l9 => k_is); (case c9 => k_is); (case k9 => k_is); (case a10 => k_is); (case l10 => k_is); (case c10 => k_is); (case k10 => k_is); (case a11 => k_is); (case l11 => k_is); (case c11 => k_is); (case k11 => k_is); (case a12 => k_is); (case l12 => k_is); (case c12 => k_is); (case k12 => k_is); (case a13 => k_is); (case l13 => k_is); (case c13 => k_is); (case k13 => k_is); (case a14 => k_is); (case l14 => k_is); (case c14 => k_is); (case k14 => k_is); (case a15 => k_is); (case l15 => k_is); (case c15 => k_is); (case k15 => k_is); (case a16 => k_is); (case l16 => k_is); (case c16 => k_is); (case k16 => k_is); (case a17 => k_is); (case l17 => k_is); (case c17 => k_is); (case k17 => k_is); (case a18 => k_is); (case l18 => k_is); (case c18 => k_is); (case k18 => k_is); (case z_abs => k_is); (case z_any => k_is); (case z_int => k_is); (case z_len => k_is); (case z_list => k_is); (case z_max => k_is); (case z_min => k_is); (case z_range => k_is); (case z_repr => k_is); (case z_set => k_is); (case z_sorted => k_is); (case z_tuple => k_is); (case z_zip => k_is)
    case code => exact PySem.W.codeHd_of_K KX (by kernel_rfl)
    case no => kernel_rfl
  case goal =>
    exact ⟨a, ns, rfl, hT, hS, hl, fun _ => rfl⟩
