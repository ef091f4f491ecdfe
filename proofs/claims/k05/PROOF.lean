import PyProof.Rows.All
import Wide.All
import OpenK.AllK
import Wide.FinOn
import HandS.ForMost
import HandS.Wide
import HandS.IsInst
import HandS.Zip
import HandS.Style
import HandS.Defaults
import HandS.TupAny
import HandS.Walk
import HandS.Star
import HandS.Flow
import HandS.SortRule
import PyProof.ReprRoads
import HandS.ForExc
import HandS.ExcInit
import HandS.ExcValue
import HandS.ExcField
import HandS.ExcIs
import KE.KExcIs
import HandS.Lambda
import HandS.Nested
import HandS.FStr
import HandS.Strs
import HandS.Text
import PySem.Challenge.RW_piecefacts_k05_conditions_of_any_values
import HandS.EndTab
import KE.RegKIsAll
import KE.RegKTryMore
set_option Elab.async false
set_option linter.all false
set_option maxRecDepth 100000
/-! Calls where no repr is under way: the hand layer's promises of defs, with that fact carried along. -/
namespace Pf
open PySem PySem.Spec PyProof.Rows L2
/-- the promise of a def, kept wherever no repr is under way -/
structure FnG (P : Program) (w : World) (K : PySem.W.Frag) (mg : Str → Option Value) (base : Heap) (k : Nat) (f : Addr) (fd : FuncData) (ps : List Str) (sp : Sp) : Prop where
  size : ∀ vs H Q E, sp vs H Q E → vs.length = ps.length
  goes : ∀ (A : Around) (outer : List Env) (s : Shared) (H : Hp) (args : Args) (us : List Value) (vs : List V) (Q : VK) (E : XK), A.guards = some [] → Room k A →
    Env0 P w K mg base A outer s H → BindsTo s fd args (ps.zip us) → Vals vs us → sp vs H Q E → codeAny (model P w) A (.call (.ref f) args) (CR CX0 outer P w H s Q E) s
section
variable {base : Heap} {P : Program} {w : World} {mg : Str → Option Value} {K : PySem.W.Frag}
theorem FnG.up {j k : Nat} {f : Addr} {fd : FuncData} {ps : List Str} {sp : Sp} (F : FnG P w K mg base j f fd ps sp) (h : j ≤ k) : FnG P w K mg base k f fd ps sp :=
  ⟨F.size, fun A outer s H args us vs Q E hg hr => F.goes A outer s H args us vs Q E hg (hr.mono h)⟩
theorem guards_deeper {A : Around} {env : Env} (h : A.guards = some []) : (A.deeper env).guards = some [] := h
/-- a def by its body, where no repr is under way; its code object told -/
theorem okGc {x qual : Str} {st : Stmt} {f : Addr} {fd : FuncData} {N ps : List Str} {k : Nat} {sp : Sp} (F : Fun K x qual st f fd) (S : FnScope N ps (defScope st)) (hlen : ∀ vs H Q E, sp vs H Q E → vs.length = ps.length)
    (bd : ∀ (cdv : Value) (A : Around) (outer : List Env) (s : Shared) (H : Hp) (vs : List V) (Q : VK) (E : XK), fd.code = cdv → (A.deeper (envOfC qual (defScope st) s.heap.objs.size f cdv)).guards = some [] →
      Room k (A.deeper (envOfC qual (defScope st) s.heap.objs.size f cdv)) → sp vs H Q E →
      ∃ t, PSs (cxOf CX0 P w K mg base N qual (defScope st) f cdv A outer s H E).nox (defBody st) t ∧ t { nx := fun _ H' => Q .non H', rt := Q } (start N vs) H) : FnG P w K mg base (k + 1) f fd ps sp := by
  obtain ⟨_, _, _, _, _, _, cdv, _, _, hfd, lk, hcd⟩ := F.ex
  subst hfd
  constructor
  · exact hlen
  intro A outer s H args us vs Q E hg hr env0 bind rel promise
  have vsl := hlen vs H Q E promise
  have kin : K.In s.heap := env0.mod.kin.keeps (fun b o z => (env0.bs b o z).1)
  have nolim : s.heap.NoLimit := env0.mod.nolimit.keeps (fun b o z => (env0.bs b o z).1)
  obtain ⟨t, der, rd⟩ := bd cdv A outer s H vs Q E rfl (guards_deeper hg) (hr.deeper _) promise
  refine codeAny_call_function hr.depth (kin _ _ lk) rfl S.co S.gen rfl (PySem.W.codeRec_of kin hcd) (bind _ _ _ _ (wpAny_newFunctionEnv_cells S.kind ?kinds ?enter))
  case kinds =>
    rintro ⟨n, v⟩ hy
    cases S.par n (List.of_mem_zip hy).1 with
    | inl q => exact Or.inl q
    | inr q => exact Or.inr (And.intro q (PySem.W.cellsFrom_some _ _ _ (Or.inl q)))
  case enter =>
    intro env he s1 inside
    subst he
    constructor
    · exact nolim.keeps inside.toInCall.keep
    refine codeAny_func (wpAny_mono (der.nox.run [] s1 (start N vs) H _ (inv_start S hr.hd env0 vsl rel inside) rd) ?_ (fun e s' z => z))
    intro flow s' z
    match flow, z with
    | .ret u, ⟨v, σ', H', J, rv, q⟩ => exact ⟨v, H', J.os, J.bare, J.base, J.hok, rv, q⟩
    | .next, ⟨σ', H', J, q⟩ => exact ⟨V.non, H', J.os, J.bare, J.base, J.hok, rfl, q⟩
    | .brk, ⟨_, _, _, q⟩ => exact q.elim
    | .cont, ⟨_, _, _, q⟩ => exact q.elim
/-- .. its code object left open -/
theorem okG {x qual : Str} {st : Stmt} {f : Addr} {fd : FuncData} {N ps : List Str} {k : Nat} {sp : Sp} (F : Fun K x qual st f fd) (S : FnScope N ps (defScope st)) (hlen : ∀ vs H Q E, sp vs H Q E → vs.length = ps.length)
    (bd : ∀ (cdv : Value) (A : Around) (outer : List Env) (s : Shared) (H : Hp) (vs : List V) (Q : VK) (E : XK), (A.deeper (envOfC qual (defScope st) s.heap.objs.size f cdv)).guards = some [] →
      Room k (A.deeper (envOfC qual (defScope st) s.heap.objs.size f cdv)) → sp vs H Q E →
      ∃ t, PSs (cxOf CX0 P w K mg base N qual (defScope st) f cdv A outer s H E).nox (defBody st) t ∧ t { nx := fun _ H' => Q .non H', rt := Q } (start N vs) H) : FnG P w K mg base (k + 1) f fd ps sp :=
  okGc F S hlen fun cdv A outer s H vs Q E _ hg hr h => bd cdv A outer s H vs Q E hg hr h
end
/-- a def that may be called by its name -/
structure Cal (P : Program) (w : World) (K : PySem.W.Frag) (mg : Str → Option Value) (base : Heap) (k : Nat) (x : Str) (sp : Sp) : Prop where
  is : ∃ (f : Addr) (fd : FuncData) (ps : List Str), FnG P w K mg base k f fd ps sp ∧ mg x = some (.ref f) ∧ PySem.W.keepIn K (.ref f) = true ∧ Binds K fd ps []
/-- .. by keywords alone -/
structure CalK (P : Program) (w : World) (K : PySem.W.Frag) (mg : Str → Option Value) (base : Heap) (k : Nat) (x : Str) (ks : List Str) (gV : List V → List V) (sp : Sp) : Prop where
  is : ∃ (f : Addr) (fd : FuncData) (ps : List Str) (g : List Value → List Value), FnG P w K mg base k f fd ps sp ∧ mg x = some (.ref f) ∧ PySem.W.keepIn K (.ref f) = true ∧ KBn K fd ps 0 ks (fun _ ws => g ws) (fun _ zs => gV zs)
def noErr : XK := fun _ _ _ => False
def tC1 (sp : Sp) (t : TA) : TE := fun σ H Q => t σ H fun vs H1 => sp vs H1 Q noErr
def tCK (m : Nat) (sp : Sp) (gV : List V → List V) (tk : TA) : TE := fun σ H Q => tk σ H fun zs H1 => zs.length = m ∧ sp (gV zs) H1 Q noErr
section
variable {X : Cx} {j k : Nat} {x : Str} {sp : Sp} {p pos : Pos} {e : Expr} {es : List Expr} {t tk : TA} {kws : List Keyword} {ks : List Str} {gV : List V → List V}
theorem goesG {pins : List (Addr × Obj)} {σ : L2.St} {H : Hp} {s : Shared} {Q : VK} {f : Addr} {fd : FuncData} {ps : List Str} {args : Args} {us : List Value} {vs : List V} (F : FnG X.prog X.w X.K X.mg X.base k f fd ps sp) (hg : X.A.guards = some []) (hr : Room k X.A)
    (I : Inv X pins σ H s) (b : BindsTo s fd args (ps.zip us)) (r : Vals vs us) (h : sp vs H Q noErr) : wpAny (model X.prog X.w) X.A (call (.ref f) args.pos args.kw) (EP X pins σ Q) X.xe s := by
  refine wpAny_call (codeAny_mono (F.goes X.A X.stack s H args us vs Q noErr hg hr I.env0 b r h) ?_)
  intro res s' z
  match res, z with
  | .error e, z => exact pass0 pins σ H s e s' I z
  | .ok (.ret u), z => exact I.after z
  | .ok .next, z => exact z.elim
  | .ok .brk, z => exact z.elim
  | .ok .cont, z => exact z.elim
theorem pe_c (c : Cal X.prog X.w X.K X.mg X.base k x sp) (hr : X.A.guards = some [] ∧ Room j X.A) (hk : k ≤ j) (gl : Gl X x) (ha : PA X (e :: es) t)
    (hdb : (x == ("__debug__" : Str)) = false := by decide) (he : starEach (e :: es) X.env = (false, eval e X.env) :: starEach es X.env := by rfl) (hpl : (backTo pos (starEach es X.env)).any (·.1) = false := by rfl) :
    PE X (.Call (.Name x p) (e :: es) [] pos) (tC1 sp t) := by
  obtain ⟨f, fd, ps, F, hm, kp, b⟩ := c.is
  constructor
  intro pins s σ H Q I h
  have vsl := F.size
  refine Call_ (ld_glob I gl hm ?_ hdb)
  refine PySem.W.callWith_K (h₀ := X.base) I.ok.mod.kin kp ?_ he hpl
  refine thn (ha.run pos pins s σ H _ I h) fun us s1 ⟨vs, H1, I1, r, q⟩ => ⟨I1.kIn, ?_⟩
  have hl : us.length = ps.length := by rw [← r.length]; exact vsl _ _ _ _ q
  have bb := b s1 us I1.kIn (by rw [List.append_nil]; exact hl)
  rw [List.append_nil] at bb
  exact goesG F hr.1 (hr.2.mono hk) I1 bb r q
theorem pe_cK0 (c : CalK X.prog X.w X.K X.mg X.base k x ks gV sp) (hr : X.A.guards = some [] ∧ Room j X.A) (hk : k ≤ j) (gl : Gl X x) (hkw : PK X kws tk)
    (h1 : (backToKw pos (keywordEach kws X.env)).all (·.1.isSome) = true := by rfl) (h2 : (backToKw pos (keywordEach kws X.env)).filterMap (·.1) = ks := by rfl)
    (hdb : (x == ("__debug__" : Str)) = false := by decide) (hpl : ((backTo pos (starEach [] X.env)).any (·.1) || (backToKw pos (keywordEach kws X.env)).any (·.1.isNone)) = false := by rfl) :
    PE X (.Call (.Name x p) [] kws pos) (tCK ks.length sp gV tk) := by
  obtain ⟨f, fd, ps, g, F, hm, kp, b⟩ := c.is
  constructor
  intro pins s σ H Q I h
  refine wpAny_Call_Name_kw (ld_glob I gl hm ?_ hdb)
  refine PySem.W.callWith_KW0 (h₀ := X.base) I.ok.mod.kin kp h1 ?_ hpl
  refine thn (hkw.run pos pins s σ H _ I h) fun ws s1 ⟨zs, H1, I1, r, hz, q⟩ => ⟨I1.kIn, ?_⟩
  rw [h2]
  have bb := b.to s1 [] ws I1.kIn rfl (r.length.symm.trans hz)
  exact goesG (args := ⟨[], ks.zip ws⟩) F hr.1 (hr.2.mono hk) I1 bb (b.rel (vs := []) .nil r) q
end
/-- the law's call at the caller of a claim: the script is the one object that is known -/
theorem lawG {P : Program} {w : World} {K : PySem.W.Frag} {mg mb : Str → Option Value} {k : Nat} {fa a : Addr} {fd : FuncData} {x : Str} {sp : Sp} {s₁ : Shared} {vs : List Value} {ns : List Int}
    (KX : K.In s₁.heap) (gn : s₁.heap.Ns mainGlobals mg) (bn : s₁.heap.Ns builtinsNs mb) (bb : ∀ x : Str, x ≠ "__name__" → mb x = bootBuiltins x) (nl : s₁.heap.NoLimit) (gens : s₁.gens = #[])
    (at_a : s₁.heap.get? a = some { cls := .type "list", data := .seq vs.toArray }) (iv : IntsAre vs ns) (few : ns.length ≤ sizeLine) (room : Room k callerA)
    (F : ∀ base : Heap, K.In base → base.Ns mainGlobals mg → FnG P w K mg base k fa fd [x] sp) (bind : ∀ (s : Shared) (u : Value), BindsTo s fd ⟨[u], []⟩ [(x, u)])
    (goal : ∀ H : Hp, SqL K H a (ns.map V.int) → sp [.ref a] H (fun v _ => v = .bl true) fun _ _ _ => False) :
    codeAny (model P w) callerA (.call (.ref fa) ⟨[.ref a], []⟩) (fun out t => out = .ok (.ret (.bool true)) ∧ OldK s₁.heap t.heap ∧ t.os = s₁.os ∧ AllBare t.gens) s₁ := by
  have rel := vals_ints iv
  -- the abstract heap: the script, unless it is an object of the written part
  obtain ⟨H, only, sql, ok, mine, offK⟩ : ∃ H : Hp, (∀ b, H b = none ∨ ∃ o xs, H b = some (.frz o (.lst xs))) ∧ SqL K H a (ns.map V.int) ∧ HOk P w H s₁.heap ∧ (∀ b, H b ≠ none → b = a) ∧ (H a ≠ none → K.lookup a = none) := by
    cases look : K.lookup a with
    | some o =>
      have same := KX a o look
      rw [at_a] at same
      cases same
      exact ⟨fun _ => none, fun _ => Or.inl rfl, .inr ⟨_, vs.toArray, _, look, rfl, rfl, rfl, by rw [List.size_toArray, iv.length]; exact few, by simpa using rel⟩, (fun _ _ z => by cases (show (none : Option HO) = some _ from z)), (fun _ z => absurd rfl z), (fun z => absurd rfl z)⟩
    | none =>
      refine ⟨fun b => if b = a then some (.frz { cls := .type "list", data := .seq vs.toArray } (.lst (ns.map V.int))) else none, fun b => ?_, .inl (.inr ⟨_, if_pos rfl⟩), fun b u z => ?_, fun b z => ?_, fun _ => rfl⟩
      · by_cases hb : b = a
        · exact Or.inr ⟨_, _, if_pos hb⟩
        · exact Or.inl (if_neg hb)
      · by_cases hb : b = a
        · subst hb
          have zz := (if_pos rfl).symm.trans z
          cases zz
          exact ⟨at_a, by rw [List.length_map]; exact few, vs, _, rel, at_a⟩
        · have zz := (if_neg hb).symm.trans z
          cases zz
      · by_cases hb : b = a
        · exact hb
        · exact absurd (if_neg hb) z
  have hid : ∀ {b : Addr} {o : Obj}, s₁.heap.get? b = some o → H b = none → (hidT s₁.heap H).get? b = some o := fun e n => hidT_get e n
  have dicts : ∀ {b : Addr} {o : Obj} {es : Array DictEntry} {ep : Nat}, s₁.heap.get? b = some o → o.data = .dict es ep → H b = none := by
    intro b o es ep e d
    apply Classical.byContradiction
    intro z
    have eb := mine b z
    subst eb
    rw [at_a] at e
    cases e
    exact absurd d (fun q => nomatch q)
  have names : ∀ {b : Addr} {m : Str → Option Value}, s₁.heap.Ns b m → (hidT s₁.heap H).Ns b m := by
    rintro b m ⟨o, es, ep, e, d, r⟩
    exact ⟨o, es, ep, hid e (dicts e d), d, r⟩
  have kin : K.In (hidT s₁.heap H) := by
    intro b o e
    refine hid (KX b o e) (Classical.byContradiction fun z => ?_)
    have eb := mine b z
    subst eb
    rw [offK z] at e
    cases e
  obtain ⟨mc, n1, n2⟩ := nl
  have env0 : Env0 P w K mg (hidT s₁.heap H) callerA [] s₁ H :=
    ⟨rfl, ⟨kin, names gn, ⟨mb, names bn, bb⟩, ⟨mc, names n1, n2⟩⟩, fun b o e => of_hidT e, Nat.le_of_eq (hidT_size _ _), trivial, fun b hb => (List.not_mem_nil hb).elim, ok, .of_eq gens⟩
  refine codeAny_mono ((F _ kin (names gn)).goes callerA [] s₁ H ⟨[.ref a], []⟩ [.ref a] [.ref a] _ _ rfl room env0 (bind s₁ (.ref a)) (.cons rfl .nil) (goal H sql)) ?_
  intro res s' z
  match res, z with
  | .ok .next, z => exact z.elim
  | .ok .brk, z => exact z.elim
  | .ok .cont, z => exact z.elim
  | .ok (.ret u), ⟨v, H', os, bare, un, ok', rv, q⟩ =>
    have vt : v = V.bl true := q
    subst vt
    have ut : u = Value.bool true := rv
    subst ut
    refine ⟨rfl, OldK.of_keep (fun b o e => ?_), os, bare⟩
    rcases only b with n | ⟨ob, xs, fz⟩
    · exact un.keep b o e n (fun m => (List.not_mem_nil m).elim) (by simp)
    · have g1 := (ok b _ fz).1
      have g2 := (ok' b _ (un.frzs b ob _ fz)).1
      rw [e] at g1
      cases g1
      exact g2
theorem walkG {l : PySem.W.OpenLaw} {k : Nat} {q : Program} {loose : List Str} {XP : (Str → Option Value) → Heap → Prop} {YP : World → Heap → Prop} {d : DefRec} {K : Params → PySem.W.Frag} {sp : PySem.W.Frag → Sp} {x : Str}
    (hn : l.most = some 63) (hdf : d.params.defaults = []) (room : Room k callerA) (hY : ∀ (w : World) (h : Heap), YP w h → (K w.params).In h)
    (F : ∀ (w : World) (mg : Str → Option Value) (at_ : Addr) (top : Heap), (K w.params).In top → top.Ns mainGlobals mg → mg d.name = some (.ref at_) →
      ∃ fd : FuncData, (∀ (s : Shared) (u : Value), BindsTo s fd ⟨[u], []⟩ [(x, u)]) ∧ ∀ base : Heap, (K w.params).In base → base.Ns mainGlobals mg → FnG l.prog w (K w.params) mg base k at_ fd [x] (sp (K w.params)))
    (goal : ∀ (K : PySem.W.Frag) (H : Hp) (a : Addr) (ns : List Int), ns.length ≤ 63 → SqL K H a (ns.map V.int) → sp K [.ref a] H (fun v _ => v = .bl true) fun _ _ _ => False) :
    PySem.W.WalkO q loose XP YP l.row.toRowW d [] (fun g args => PySem.call g args) := by
  refine Att.attach_call hn hdf ?_
  intro w _ _ mg _ fa _ _ _ _ a _ ns top behind _ _ _ named script iv few gens
  obtain ⟨fd, bind, made⟩ := F w mg fa _ (hY w _ behind) top.T.g named
  exact lawG (hY w _ behind) top.T.g top.T.b top.T.builtins top.T.nolimit gens script iv (Nat.le_trans few (by decide)) room made bind fun H hS => goal _ H a ns few hS
end Pf

set_option Elab.async false
set_option linter.all false
set_option maxRecDepth 100000
/-! Data of any kind in the abstract heap, and its repr. -/
namespace Pf
open PySem PySem.Spec PyProof.Rows L2
mutual
/-- b: it may hold dicts (then its lists do not stand at the modules' place); p: an address that is none of its own -/
inductive Dq (b : Bool) (p : Addr) (H : Hp) : V → PyData → Prop
  | non : Dq b p H .non .none
  | bl (x : Bool) : Dq b p H (.bl x) (.bool x)
  | int (i : Int) : Dq b p H (.int i) (.int i)
  | str (x : Str) : Dq b p H (.str x) (.str x)
  | lst {a : Addr} {xs : List V} {ds : List PyData} : H a = some (.lst xs) → a ≠ p → (b = true → a ≠ sysModules) → DqAll b p H xs ds → Dq b p H (.ref a) (.list ds)
  | tup {a : Addr} {xs : List V} {ds : List PyData} : H a = some (.tup xs) → a ≠ p → DqAll b p H xs ds → Dq b p H (.ref a) (.tuple ds)
  | dc0 {a : Addr} : b = true → H a = some (.dK []) → a ≠ p → Dq b p H (.ref a) (.dict [])
  | dc1 {a : Addr} {x : Str} {v : V} {d : PyData} : b = true → H a = some (.dK [(Sum.inr x, v)]) → a ≠ p → Dq b p H v d → Dq b p H (.ref a) (.dict [(.str x, d)])
inductive DqAll (b : Bool) (p : Addr) (H : Hp) : List V → List PyData → Prop
  | nil : DqAll b p H [] []
  | cons {v : V} {vs : List V} {d : PyData} {ds : List PyData} : Dq b p H v d → DqAll b p H vs ds → DqAll b p H (v :: vs) (d :: ds)
end
section
variable {X : Cx} {pins : List (Addr × Obj)} {σ : L2.St} {H : Hp} {s : Shared} {b : Bool} {p : Addr}
mutual
theorem Dq.reads (I : Inv X pins σ H s) : ∀ (d : PyData) (v : V) (u : Value), Dq b p H v d → RelV v u → ∃ as, Reads s.heap u d as ∧ (b = true → sysModules ∉ as) ∧ (b = false → d.hasDict = false)
  | .none, _, _, h, r => by
    cases h
    cases r
    exact ⟨[], Reads.none, fun _ z => (List.not_mem_nil z).elim, fun _ => by simp only [PyData.hasDict]⟩
  | .bool x, _, _, h, r => by
    cases h
    cases r
    exact ⟨[], Reads.bool x, fun _ z => (List.not_mem_nil z).elim, fun _ => by simp only [PyData.hasDict]⟩
  | .int i, _, _, h, r => by
    cases h
    obtain ⟨t, rfl⟩ := r
    exact ⟨[], Reads.int i t, fun _ z => (List.not_mem_nil z).elim, fun _ => by simp only [PyData.hasDict]⟩
  | .str x, _, _, h, r => by
    cases h
    obtain ⟨t, rfl⟩ := r
    exact ⟨[], Reads.str x t, fun _ z => (List.not_mem_nil z).elim, fun _ => by simp only [PyData.hasDict]⟩
  | .list ds, _, _, h, r => by
    cases h with
    | lst e ne sm ha =>
      cases r
      obtain ⟨_, its, n, rv, g⟩ := I.hok _ _ e
      obtain ⟨as, q, z1, z2⟩ := Dq.readsAll I ds _ its ha rv
      refine ⟨_, Reads.list g rfl rfl q, fun t m => ?_, fun f => by simp only [PyData.hasDict]; exact z2 f⟩
      rcases List.mem_cons.mp m with m | m
      · exact sm t m.symm
      · exact z1 t m
  | .tuple ds, _, _, h, r => by
    cases h with
    | tup e ne ha =>
      cases r
      obtain ⟨_, its, rv, o, g, c, n, dd⟩ := I.hok _ _ e
      obtain ⟨as, q, z1, z2⟩ := Dq.readsAll I ds _ its ha rv
      exact ⟨_, Reads.tuple g c dd q, z1, fun f => by simp only [PyData.hasDict]; exact z2 f⟩
  | .dict kvs, _, _, h, r => by
    cases h with
    | dc0 bt e ne =>
      cases r
      obtain ⟨_, sm, vs, kv, o, es, ep, g, ex, dd, _, pr, _⟩ := I.hok _ _ e
      cases kv
      have el : es.toList = [] := by cases hh : es.toList with
        | nil => rfl
        | cons x r => rw [hh] at pr; cases pr
      refine ⟨_, Reads.dict (as := []) (bs := []) g ex.1 dd (by rw [el]; exact .nil) (by rw [el]; exact .nil), fun _ m => ?_, fun f => by rw [bt] at f; cases f⟩
      rcases List.mem_cons.mp m with m | m
      · exact absurd m.symm (beq_eq_false_iff_ne.mp sm)
      · exact List.not_mem_nil m
    | @dc1 a x v d bt e ne hd =>
      cases r
      obtain ⟨_, sm, vs, kv, o, es, ep, g, ex, dd, _, pr, _⟩ := I.hok _ _ e
      obtain ⟨w, rfl, rw'⟩ : ∃ w, vs = [((Sum.inr x : Key), w)] ∧ RelV v w := by
        cases vs with
        | nil => cases kv
        | cons q r =>
          cases r with
          | nil =>
            cases kv with
            | cons k1 k2 =>
              obtain ⟨kk, w⟩ := q
              obtain ⟨k1, k3⟩ := k1
              simp only at k1 k3
              subst k1
              exact ⟨w, rfl, k3⟩
          | cons _ _ =>
            cases kv with
            | cons k1 k2 => cases k2
      by_cases tt0 : True
      · skip
        have el : ∃ en : DictEntry, es.toList = [en] ∧ keyIs (Sum.inr x) en.key = true ∧ en.val = w := by
          cases hh : es.toList with
          | nil => rw [hh] at pr; cases pr
          | cons en r =>
            rw [hh] at pr
            cases pr with
            | cons i1 i2 i3 => cases i3; exact ⟨en, rfl, i1, i2⟩
        obtain ⟨en, el, hk, hv⟩ := el
        obtain ⟨t, ek⟩ : ∃ t, en.key = Value.str x t := by
          rcases keyIs_shape hk with ⟨i, t, e1, e2⟩ | ⟨y, t, e1, e2⟩
          · cases e1
          · cases e1; exact ⟨t, e2⟩
        obtain ⟨as, q, z1, z2⟩ := Dq.reads I d v w hd rw'
        refine ⟨_, Reads.dict (as := [] ++ []) (bs := as ++ []) g ex.1 dd (by rw [el]; exact .cons (by show Reads s.heap en.key (.str x) []; rw [ek]; exact Reads.str x t) .nil) (by rw [el]; exact .cons (by show Reads s.heap en.val d as; rw [hv]; exact q) .nil), fun tt m => ?_, fun f => by rw [bt] at f; cases f⟩
        simp only [List.append_nil, List.nil_append] at m
        rcases List.mem_cons.mp m with m | m
        · exact absurd m.symm (beq_eq_false_iff_ne.mp sm)
        · exact z1 tt m
      · exact absurd trivial tt0
theorem Dq.readsAll (I : Inv X pins σ H s) : ∀ (ds : List PyData) (vs : List V) (us : List Value), DqAll b p H vs ds → Vals vs us → ∃ as, ReadsAll s.heap us ds as ∧ (b = true → sysModules ∉ as) ∧ (b = false → PyData.hasDictAll ds = false)
  | [], _, _, h, r => by
    cases h
    cases r
    exact ⟨[], ReadsAll.nil, fun _ z => (List.not_mem_nil z).elim, fun _ => by simp only [PyData.hasDictAll]⟩
  | d :: ds, _, _, h, r => by
    cases h with
    | cons h1 h2 =>
      cases r with
      | cons r1 r2 =>
        obtain ⟨as, q1, y1, y2⟩ := Dq.reads I d _ _ h1 r1
        obtain ⟨bs, q2, z1, z2⟩ := Dq.readsAll I ds _ _ h2 r2
        refine ⟨_, ReadsAll.cons q1 q2, fun t m => ?_, fun f => by simp only [PyData.hasDictAll, y2 f, z2 f, Bool.or_self]⟩
        rcases List.mem_append.mp m with m | m
        · exact y1 t m
        · exact z1 t m
end
end
/-- the text of a value, what it asks -/
def Fits (d : PyData) : Prop := d.showable = true ∧ d.shown.length ≤ sizeLine ∧ d.depth ≤ 60
section
variable {X : Cx} {k : Nat}
theorem call_reprD (hr : X.A.guards = some [] ∧ Room k X.A) : CallR X (.builtin "repr") (fun xs H Q => ∃ a d b p, xs = [.ref a] ∧ Dq b p H (.ref a) d ∧ Fits d ∧ Q (.str d.shown) H) := by
  intro pins s σ H xs us Q I r h
  obtain ⟨a, d, b, p, rfl, hd, ⟨f1, f2, f3⟩, q⟩ := h
  obtain ⟨u, rfl, ru⟩ := vals1 r
  obtain ⟨as, rd, z1, z2⟩ := Dq.reads I d _ u hd ru
  cases ru
  have un := hr.2.un
  refine repr_of_reads' rd f1 (fun hx => ?_) hr.1 (by omega) (fun _ _ e => e) (fun h' u tk hk => ?_) f2
  · cases b with
    | true => exact z1 rfl
    | false => rw [z2 rfl] at hx; cases hx
  · exact ⟨.str _, H, I.kept hk, ⟨u, rfl⟩, q⟩
theorem call_reprV (hr : X.A.guards = some [] ∧ Room k X.A) : CallR X (.builtin "repr") (fun xs H Q => ∃ v d b p, xs = [v] ∧ Dq b p H v d ∧ Fits d ∧ Q (.str d.shown) H) := by
  intro pins s σ H xs us Q I r h
  obtain ⟨v, d, b, p, e, hd, f, q⟩ := h
  have go : ∀ a, v = .ref a → wpAny (model X.prog X.w) X.A (call (.builtin "repr") us) (EP X pins σ Q) X.xe s := fun a z => by
    subst z
    exact call_reprD hr pins s σ H xs us Q I r ⟨a, d, b, p, e, hd, f, q⟩
  cases hd with
  | non =>
    subst e
    obtain ⟨u, rfl, ru⟩ := vals1 r
    cases ru
    exact PySem.P.repr_of_none ⟨.str _, H, I.tok _, ⟨_, rfl⟩, q⟩
  | bl x =>
    subst e
    obtain ⟨u, rfl, ru⟩ := vals1 r
    cases ru
    refine PySem.P.repr_of_bool ⟨.str _, H, I.tok _, ⟨_, rfl⟩, ?_⟩
    simp only [PyData.shown] at q
    cases x <;> exact q
  | int x =>
    subst e
    obtain ⟨u, rfl, t, rfl⟩ := vals1 r
    exact PySem.P.repr_of_int (of_decide_eq_true f.1) ⟨.str _, H, I.tok _, ⟨_, rfl⟩, q⟩
  | str x =>
    subst e
    obtain ⟨u, rfl, t, rfl⟩ := vals1 r
    exact PySem.P.repr_of_str ⟨.str _, H, I.tok _, ⟨_, rfl⟩, q⟩ f.2.1
  | lst _ _ _ _ => exact go _ rfl
  | tup _ _ _ => exact go _ rfl
  | dc0 _ _ _ => exact go _ rfl
  | dc1 _ _ _ _ => exact go _ rfl
/-- a new list is not the table of modules -/
def tLstM (t : TA) : TE := fun σ H Q => t σ H fun xs H1 => xs.length ≤ sizeLine ∧ ∀ p, H1 p = none → p ≠ sysModules → Q (.ref p) (upd H1 p (.lst xs))
theorem pe_lstM {es : List Expr} {t : TA} {pos : Pos} (h : PA X es t) : PE X (.List es pos) (tLstM t) := by
  constructor
  intro pins s σ H Q I hq
  refine wpAny_List_spliced (thn (h.run pos pins s σ H _ I hq) ?_)
  rintro us s1 ⟨xs, H1, I1, r, z, q⟩
  have big := I1.big
  have new := I1.hok.fresh (Nat.le_refl s1.heap.objs.size)
  refine ⟨r.length ▸ z, .ref s1.heap.objs.size, upd H1 s1.heap.objs.size (.lst xs), I1.laid (t' := s1.toks) (fun _ _ e => Heap.get?_push_of_some _ e) (Nat.le_refl _) ⟨z, us, 0, r, Heap.get?_push_size _ rfl⟩, rfl, q _ new (Nat.ne_of_gt big)⟩
/-- a power of whole numbers -/
theorem op_powW : OpR X (binaryOp .Pow) (rI (fun i j => 0 ≤ j ∧ (Builtin.Int.intBits i : Int) * j ≤ 2 ^ 27) fun i j => .int (i ^ j.toNat)) := opI fun _ _ _ _ _ _ _ hc q => pow_int hc.1 hc.2 q
end
end Pf

set_option Elab.async false
set_option linter.all false
set_option maxRecDepth 100000
/-! Heaps, the pot, rules for tracked things: no text of a program. -/
namespace Pf
open PySem PySem.Spec PyProof.Rows L2
theorem at20 {x y : V} : atI [x, y] 0 = some x := rfl
theorem at21 {x y : V} : atI [x, y] 1 = some y := rfl
theorem at0 {x y z : V} : atI [x, y, z] 0 = some x := rfl
theorem at1 {x y z : V} : atI [x, y, z] 1 = some y := rfl
theorem at2 {x y z : V} : atI [x, y, z] 2 = some z := rfl
/-- an item of a list that is tracked -/
def rIxV : R2 := fun x y H Q => ∃ p xs i v, x = .ref p ∧ y = .int i ∧ H p = some (.lst xs) ∧ atI xs i = some v ∧ Q v H
theorem ix_v {X : Cx} : IxR X rIxV := by
  intro value slice pins s σ H x y u v Q I rx ry h hs
  obtain ⟨p, xs, i, z, e1, e2, e3, e4, q⟩ := h
  exact ix_list value slice pins s σ H x y u v Q I rx ry ⟨p, xs, i, z, e1, e2, SqL.of e3, e4, q⟩ hs
theorem call_intI {X : Cx} : CallR X (.type "int") (fun xs H Q => ∃ i, xs = [.int i] ∧ Q (.int i) H) := fun pins s σ H xs us Q I r h => call_int1 pins s σ H xs us Q I r (Or.inl h)
theorem call_lenL {X : Cx} : CallR X (.builtin "len") (fun xs H Q => ∃ p ys, xs = [.ref p] ∧ H p = some (.lst ys) ∧ Q (.int ys.length) H) := by
  intro pins s σ H xs us Q I r h
  obtain ⟨p, ys, e1, e2, q⟩ := h
  exact call_len_seq pins s σ H xs us Q I r ⟨p, ys, e1, .inl (SqL.of e2), q⟩
theorem call_lenT {X : Cx} : CallR X (.builtin "len") (fun xs H Q => ∃ p ys, xs = [.ref p] ∧ H p = some (.tup ys) ∧ Q (.int ys.length) H) := by
  intro pins s σ H xs us Q I r h
  obtain ⟨p, ys, e1, e2, q⟩ := h
  exact call_len_seq pins s σ H xs us Q I r ⟨p, ys, e1, .inr (SqT.of e2), q⟩
theorem atI_some {α : Type} {xs : List α} {i : Int} (h0 : 0 ≤ i) (h1 : i < xs.length) : ∃ x, atI xs i = some x ∧ x ∈ xs := by
  obtain ⟨n, rfl⟩ := Int.eq_ofNat_of_zero_le h0
  have hn : n < xs.length := by omega
  exact ⟨xs[n], atI_nat (List.getElem?_eq_getElem hn), List.getElem_mem hn⟩
def rIxP : R2 := fun x y H Q => ∃ p xs i v, x = .ref p ∧ y = .int i ∧ H p = some (.tup xs) ∧ atI xs i = some v ∧ Q v H
theorem ix_t {X : Cx} : IxR X rIxP := by
  intro value slice pins s σ H x y u v Q I rx ry h hs
  obtain ⟨p, xs, i, z, e1, e2, e3, e4, q⟩ := h
  exact ix_tup value slice pins s σ H x y u v Q I rx ry ⟨p, xs, i, z, e1, e2, SqT.of e3, e4, q⟩ hs
/-- (a, b) = a tracked tuple -/
def gTupV (n : Nat) (t : TGs) : TG := fun v σ H Q => ∃ a xs, v = .ref a ∧ H a = some (.tup xs) ∧ xs.length = n ∧ t xs σ H Q
theorem pg_tupV {X : Cx} {es : List Expr} {k : Nat} {t : TGs} {n : Nat} {pos : Pos} (hc : X.calm = true) (h : PGs X es t) (hn : (assignEach es X.env).length = n := by rfl) (hs : (assignEach es X.env).findIdx? (·.1) = none := by rfl) : PG X (.Tuple es k pos) (gTupV n t) := by
  constructor
  intro pins s σ H v u Q I r ⟨a, xs, e1, e2, e3, q⟩
  exact (pg_tup hc h hn hs).run pins s σ H v u Q I r ⟨a, xs, e1, SqT.of e2, e3, q⟩
/-- all(l), any(l) of a tracked list of truths -/
def rAllB : List V → Hp → VK → Prop := fun xs H Q => ∃ (a : Addr) (bs : List Bool), xs = [V.ref a] ∧ H a = some (.lst (bs.map V.bl)) ∧ Q (.bl (bs.all id)) H
def rAnyB : List V → Hp → VK → Prop := fun xs H Q => ∃ (a : Addr) (bs : List Bool), xs = [V.ref a] ∧ H a = some (.lst (bs.map V.bl)) ∧ Q (.bl (bs.any id)) H
theorem call_allB {X : Cx} (hc : X.calm = true) : CallR X (.builtin "all") rAllB := fun pins s σ H xs us Q I r ⟨a, bs, e1, e2, q⟩ => cr_all hc pins s σ H xs us Q I r ⟨a, bs, e1, SqL.of e2, q⟩
theorem call_anyB {X : Cx} (hc : X.calm = true) : CallR X (.builtin "any") rAnyB := fun pins s σ H xs us Q I r ⟨a, bs, e1, e2, q⟩ => cr_any hc pins s σ H xs us Q I r ⟨a, bs, e1, SqL.of e2, q⟩
/-- t[1:] of a tracked tuple -/
def rSl1 : V → Option Int → Option Int → Hp → VK → Prop := fun x lo hi H Q => ∃ (a : Addr) (xs : List V), x = .ref a ∧ lo = some 1 ∧ hi = none ∧ H a = some (.tup xs) ∧ ∀ (H' : Hp) (c : Addr), Same H H' → H' c = some (.tup (xs.drop 1)) → Q (.ref c) H'
theorem sl_one {X : Cx} : SlR X rSl1 := by
  intro pins s σ H x v vl vu lo hi sl Q I rx hs pl pu h
  obtain ⟨a, xs, e1, e2, e3, e4, q⟩ := h
  subst e2 e3
  have h1 : HT.sIx xs.length 0 (some 1) = min 1 xs.length := HT.sIx_nat xs.length 0 1
  have h2 : HT.sIx xs.length xs.length none = xs.length := HT.sIx_none ..
  refine sl_tupA pins s σ H x v vl vu _ _ sl Q I rx hs pl pu ⟨a, xs, e1, SqT.of e4, fun z => ?_, fun z c hc => ?_⟩
  · rw [h1, h2] at z
    have nil : xs = [] := List.eq_nil_of_length_eq_zero (by omega)
    subst nil
    exact q H a (Same.refl H) e4
  · refine q _ c (fun b o g => ?_) ?_
    · rw [upd_ne (ne_of_none g hc)]
      exact g
    · have cut : cutV xs (some 1) none = xs.drop 1 := by
        unfold cutV
        rw [h1, h2]
        cases xs with
        | nil => rfl
        | cons y r =>
          rw [show min 1 (y :: r).length = 1 from Nat.min_eq_left (by simp)]
          exact List.take_of_length_le (by simp)
      rw [cut, upd_same]
theorem call_tupleL {X : Cx} : CallR X (.type "tuple") (fun xs H Q => ∃ p ys, xs = [.ref p] ∧ H p = some (.lst ys) ∧ ∀ l, H l = none → Q (.ref l) (upd H l (.tup ys))) := fun pins s σ H xs us Q I r ⟨p, ys, e1, e2, q⟩ => call_tuple_of pins s σ H xs us Q I r ⟨p, ys, e1, .inl ⟨SqL.of e2, q⟩⟩
theorem call_listT {X : Cx} : CallR X (.type "list") (fun xs H Q => ∃ p ys, xs = [.ref p] ∧ H p = some (.tup ys) ∧ ∀ l, H l = none → Q (.ref l) (upd H l (.lst ys))) := fun pins s σ H xs us Q I r ⟨p, ys, e1, e2, q⟩ => call_list_of pins s σ H xs us Q I r ⟨p, ys, e1, .inr (SqT.of e2), q⟩
theorem ixN30 : ixN 3 0 = some 0 := rfl
theorem ixN32 : ixN 3 2 = some 2 := rfl
local macro_rules | `(tactic| walk_at "rd") => `(tactic| simp only [tC1, tCK, tB, rNe, rEq, tChain, gTupV, gCons, gNil, Nat.sub_self, Nat.reduceSub, List.replicate_zero, List.replicate_succ, tTest, tIfS, tIf, tNot, tAnd, tOr, tAndV, tOrV, tNotV, tDrop, tNext, rIxV, rIxP,
  gSub, rSetL, tSl, tPart, tNoPart, rSl1, tAsg2, ipI, tDNewK, tBM, rAppend, wipe, rAllB, rAnyB, iTup, iList, RZ.iZipA, iRng1, iRng2, tYes, upd_same, at0, at1, at2, at20, at21, ixN30, ixN32, HO.lst.injEq, HO.tup.injEq, Nat.reduceAdd, tSeq, tAsg, tPar, tAug, tOp, tVar, tC, tCB, tCons, tNil, rI, rI0, rU, tUn, gName, tRet, tLst, tLstM, tTup, L2.start, List.map_cons, List.map_nil, List.length_cons, List.length_nil, List.replicate, List.cons_append,
  List.nil_append, List.set_cons_zero, List.set_cons_succ, List.getElem?_cons_zero, List.getElem?_cons_succ, Option.some.injEq, V.int.injEq, V.ref.injEq, V.bl.injEq, V.str.injEq, List.cons.injEq, exists_eq_left', exists_eq_left, exists_and_left, exists_and_right, and_true, true_and, reduceCtorEq, false_and,
  exists_false, or_false, false_or, exists_const, exists_eq, exists_eq', Bool.not_true, Bool.not_false, Bool.false_eq_true, if_true, if_false, ite_true, ite_false])
/-- all that stood stays, but what is at p -/
def Kp (p : Addr) (H H' : Hp) : Prop := ∀ b o, b ≠ p → H b = some o → H' b = some o
theorem Kp.refl (p : Addr) (H : Hp) : Kp p H H := fun _ _ _ h => h
theorem Kp.trans {p : Addr} {H H1 H2 : Hp} (a : Kp p H H1) (b : Kp p H1 H2) : Kp p H H2 := fun c o n h => b c o n (a c o n h)
theorem Kp.of {p : Addr} {H H' : Hp} (a : Same H H') : Kp p H H' := fun c o _ h => a c o h
theorem Kp.new {p q : Addr} {H : Hp} {o : HO} (h : H q = none) : Kp p H (upd H q o) := fun b u _ e => by
  rw [upd_ne (ne_of_none e h)]
  exact e
theorem Kp.put {p : Addr} {H : Hp} {o : HO} : Kp p H (upd H p o) := fun b u n e => by
  rw [upd_ne n]
  exact e
theorem new_same {q : Addr} {H : Hp} {o : HO} (h : H q = none) : Same H (upd H q o) := fun b u e => by
  rw [upd_ne (ne_of_none e h)]
  exact e
theorem Kp.seqL {K : PySem.W.Frag} {p a : Addr} {H H' : Hp} {xs : List V} (k : Kp p H H') (n : a ≠ p) (h : SqL K H a xs) : SqL K H' a xs := by
  rcases h with (h | ⟨o, h⟩) | h
  · exact .inl (.inl (k _ _ n h))
  · exact .inl (.inr ⟨o, k _ _ n h⟩)
  · exact .inr h
/-- a place that is free behind was free ahead -/
theorem Kp.free {p q : Addr} {H H' : Hp} {u : HO} (k : Kp p H H') (hp : H' p = some u) (h : H' q = none) : H q = none := by
  cases e : H q with
  | none => rfl
  | some o =>
    by_cases n : q = p
    · rw [n, hp] at h
      cases h
    · rw [k _ _ n e] at h
      cases h
/-- a comprehension without ifs, whose turns leave what stood: its new list is out -/
theorem lcMap {J : It} {n : Nat} {G : Hp → Prop} {Y : Nat → Hp → V → Hp → Prop} (w : Walk J n G Y) {g : TG} {te : TE} {vs : List Nat} {σ : L2.St} {H1 : Hp} {Qd : Addr → Hp → Prop} (out : List V) (hn : out.length = n) (hz : n ≤ sizeLine) (hG : ∀ H, Same H1 H → G H)
    (hs : ∀ (i : Nat) (x : V) (H H' : Hp) (y : V) (R : VK), out[i]? = some y → Same H1 H → Y i H x H' → (∀ H4, Same H H4 → R y H4) → g x (wipe σ vs) H' fun σ2 H2 => wipe σ2 vs = wipe σ vs ∧ te σ2 H2 R)
    (hd : ∀ H D, H1 D = none → Same H1 H → H D = some (.lst out) → Qd D H) :
    ∀ D, H1 D = none → ∃ W : Nat → Nat → Hp → Prop, (∃ m, W 0 m (upd H1 D (.lst []))) ∧ ∀ i m H, W i m H →
      (J.stop i H ∧ Qd D H) ∨ (J.go i H ∧ ∃ Nx : Hp → Prop, (∀ H', Nx H' → ∃ m', m' < m ∧ W (i + 1) m' H') ∧ ∀ x H', J.yld i H x H' → g x (wipe σ vs) H' fun σ2 H2 => wipe σ2 vs = wipe σ vs ∧ tYes σ2 H2 fun on H3 =>
        if on = true then te σ2 H3 fun y H4 => ∃ made, H4 D = some (.lst made) ∧ made.length < sizeLine ∧ Nx (upd H4 D (.lst (made ++ [y]))) else Nx H3) := by
  intro D hD
  refine lc_it w (Qd := fun H => Qd D H) (fun i H => Same H1 H ∧ H D = some (.lst (out.take i))) ⟨new_same hD, by rw [upd_same]; rfl⟩ (fun i H _ h => hG H h.1) ?_ (fun H h => hd H D hD h.1 (by rw [h.2, List.take_of_length_le (by omega)]))
  rintro i x H H' hi ⟨hS, hL⟩ hy
  have hi2 : i < out.length := by omega
  simp only [tYes, if_true]
  refine hs i x H H' out[i] _ (List.getElem?_eq_getElem hi2) hS hy fun H4 h4 => ?_
  have l4 := h4 _ _ hL
  refine ⟨_, l4, by rw [List.length_take]; omega, fun b o e => ?_, ?_⟩
  · rw [upd_ne (ne_of_none e hD)]
    exact h4 _ _ (hS _ _ e)
  · rw [upd_same, List.take_add_one, List.getElem?_eq_getElem hi2]
    rfl
/-- zip of two tuples -/
theorem walk_zipT {K : PySem.W.Frag} {a b : Addr} {xs ys : List V} {n : Nat} (hn : n = min xs.length ys.length) : Walk (RZ.ItzT K a b) n (fun H => SqT K H a xs ∧ SqT K H b ys) (YPair (fun i => xs[i]?) (fun i => ys[i]?)) := by
  subst hn
  constructor
  · intro i H hi q
    have h1 : i < xs.length := Nat.lt_of_lt_of_le hi (Nat.min_le_left _ _)
    have h2 : i < ys.length := Nat.lt_of_lt_of_le hi (Nat.min_le_right _ _)
    exact ⟨xs, ys, xs[i], ys[i], q.1, q.2, List.getElem?_eq_getElem h1, List.getElem?_eq_getElem h2⟩
  · intro H q
    exact ⟨xs, ys, q.1, q.2, by omega⟩
  · rintro i H v H' _ q ⟨T, x, y, e1, e2, e3, e4, e5⟩
    exact ⟨T, x, y, e1, e2, e3, e4 xs q.1, e5 ys q.2⟩
/-- the pot: what is left of the cell, the mixed number, the draws so far (at most m) -/
def Pot (H : Hp) (p : Addr) (m : Nat) : Prop := ∃ a b c : Int, H p = some (.lst [.int a, .int b, .int c]) ∧ 0 ≤ a ∧ a.natAbs < 2 ^ 1000 ∧ 0 ≤ b ∧ b < 2 ^ 61 ∧ 0 ≤ c ∧ c ≤ m
theorem Pot.lst {H : Hp} {p : Addr} {m : Nat} (h : Pot H p m) : ∃ xs, H p = some (.lst xs) := by
  obtain ⟨a, b, c, e, _⟩ := h
  exact ⟨_, e⟩
theorem Pot.up {H : Hp} {p : Addr} {m n : Nat} (h : Pot H p m) (l : m ≤ n) : Pot H p n := by
  obtain ⟨a, b, c, e, h1, h2, h3, h4, h5, h6⟩ := h
  exact ⟨a, b, c, e, h1, h2, h3, h4, h5, by omega⟩
theorem Pot.same {H H' : Hp} {p : Addr} {m : Nat} (h : Pot H p m) (s : Same H H') : Pot H' p m := by
  obtain ⟨a, b, c, e, r⟩ := h
  exact ⟨a, b, c, s _ _ e, r⟩
theorem cell_at {ns : List Int} {k : Nat} (h : k < ns.length) : atI (ns.map V.int) (k : Int) = some (.int ns[k]) := atI_nat (by rw [List.getElem?_map, List.getElem?_eq_getElem h]; rfl)
theorem pow_bits {i j : Int} (h0 : 0 ≤ j) {n : Nat} (h : Builtin.Int.intBits i ≤ n) (h2 : (n : Int) * j ≤ 2 ^ 27) : 0 ≤ j ∧ (Builtin.Int.intBits i : Int) * j ≤ 2 ^ 27 :=
  ⟨h0, Int.le_trans (Int.mul_le_mul_of_nonneg_right (by omega) h0) h2⟩
theorem pot_c1 : (0 : Int) ≤ 60 ∧ (Builtin.Int.intBits 10 : Int) * 60 ≤ 2 ^ 27 := by decide +kernel
theorem pot_c2 : (0 : Int) ≤ 5 ∧ (Builtin.Int.intBits (10 ^ Int.toNat 60) : Int) * 5 ≤ 2 ^ 27 := by decide +kernel
theorem pot_c3 : (0 : Int) < (10 ^ Int.toNat 60) ^ Int.toNat 5 := by decide +kernel
theorem pot_c4 : (0 : Int) ≤ 18 ∧ (Builtin.Int.intBits 10 : Int) * 18 ≤ 2 ^ 27 := by decide +kernel
theorem pot_c5 {x y : Int} {b : Bool} : CMul (x % y) (if b = true then 1 else 0) := by
  cases b with
  | true => exact Or.inr (by decide)
  | false => exact Or.inr (by decide)
theorem pot_c6 (c : Int) : CMul (c % 2305843009213693951) 71993 := Or.inr (by decide)
theorem pot_c7 (x : Int) (h : -(2 ^ 64) < x ∧ x < 2 ^ 64) {k : Nat} (hk : k ≤ 63) : CMul x (k : Int) := Or.inl h
theorem pot_c8 {k : Nat} (hk : k ≤ 63) : CMul (9241 * (k : Int)) (k : Int) := Or.inr (by omega)
theorem pot_c9 : (((10 : Int) ^ Int.toNat 60) ^ Int.toNat 5).natAbs < 2 ^ 1000 := by decide +kernel
theorem pot_made (H : Hp) (p : Addr) (x y : Int) (b : Bool) : Pot (upd H p (.lst [.int (x % (10 ^ Int.toNat 60) ^ Int.toNat 5 * if b = true then 1 else 0), .int (y % 2305843009213693921), .int 0])) p 0 := by
  have g1 := Int.emod_nonneg x (Int.ne_of_gt pot_c3)
  have g2 := Int.emod_lt_of_pos x pot_c3
  have g3 := pot_c9
  refine ⟨_, _, _, upd_same, ?_, ?_, by omega, by omega, by decide, by decide⟩
  · cases b with
    | true => exact Int.mul_nonneg g1 (by decide)
    | false => exact Int.mul_nonneg g1 (by decide)
  · cases b with
    | true =>
      rw [if_pos rfl, Int.mul_one]
      exact Nat.lt_trans (Int.natAbs_lt_natAbs_of_nonneg_of_lt g1 g2) g3
    | false =>
      rw [if_neg Bool.false_ne_true, Int.mul_zero]
      exact Nat.two_pow_pos _
theorem five {j : Int} (h0 : 0 ≤ j) (h5 : j < 5) : ∃ q : Int, 0 < q ∧ q < 2 ^ 31 ∧ atI [V.int 2147483647, V.int 2147483629, V.int 2147483587, V.int 2147483579, V.int 2147483563] j = some (.int q) := by
  have c : j = 0 ∨ j = 1 ∨ j = 2 ∨ j = 3 ∨ j = 4 := by omega
  rcases c with rfl | rfl | rfl | rfl | rfl
  · exact ⟨2147483647, by decide, by decide, rfl⟩
  · exact ⟨2147483629, by decide, by decide, rfl⟩
  · exact ⟨2147483587, by decide, by decide, rfl⟩
  · exact ⟨2147483579, by decide, by decide, rfl⟩
  · exact ⟨2147483563, by decide, by decide, rfl⟩
end Pf

set_option Elab.async false
set_option linter.all false
set_option maxRecDepth 100000
/-! Which values are range sets; pairs. -/
namespace Pf
open PySem PySem.Spec PyProof.Rows L2
local macro_rules | `(tactic| walk_at "rd") => `(tactic| simp only [tC1, tCK, tB, rNe, rEq, tChain, gTupV, gCons, gNil, Nat.sub_self, Nat.reduceSub, List.replicate_zero, List.replicate_succ, tTest, tIfS, tIf, tNot, tAnd, tOr, tAndV, tOrV, tNotV, tDrop, tNext, rIxV, rIxP,
  gSub, rSetL, tSl, tPart, tNoPart, rSl1, tAsg2, ipI, tDNewK, tBM, rAppend, wipe, rAllB, rAnyB, iTup, iList, RZ.iZipA, iRng1, iRng2, tYes, upd_same, at0, at1, at2, at20, at21, ixN30, ixN32, HO.lst.injEq, HO.tup.injEq, Nat.reduceAdd, tSeq, tAsg, tPar, tAug, tOp, tVar, tC, tCB, tCons, tNil, rI, rI0, rU, tUn, gName, tRet, tLst, tLstM, tTup, L2.start, List.map_cons, List.map_nil, List.length_cons, List.length_nil, List.replicate, List.cons_append,
  List.nil_append, List.set_cons_zero, List.set_cons_succ, List.getElem?_cons_zero, List.getElem?_cons_succ, Option.some.injEq, V.int.injEq, V.ref.injEq, V.bl.injEq, V.str.injEq, List.cons.injEq, exists_eq_left', exists_eq_left, exists_and_left, exists_and_right, and_true, true_and, reduceCtorEq, false_and,
  exists_false, or_false, false_or, exists_const, exists_eq, exists_eq', Bool.not_true, Bool.not_false, Bool.false_eq_true, if_true, if_false, ite_true, ite_false])
/-! ### the mirror -/
def isIntD : PyData → Bool
  | .int _ => true
  | .bool _ => true
  | _ => false
def isBoolD : PyData → Bool
  | .bool _ => true
  | _ => false
def isTupD : PyData → Bool
  | .tuple _ => true
  | _ => false
def isNumD : PyData → Bool
  | .int _ => true
  | _ => false
def pairOf : PyData → Option (Int × Int)
  | .tuple [.int a, .int b] => some (a, b)
  | _ => none
def isPairD (d : PyData) : Bool :=
  match pairOf d with
  | some q => decide (q.1 ≤ q.2)
  | none => false
def stepD (d e : PyData) : Bool :=
  match pairOf d, pairOf e with
  | some q, some r => decide (q.2 + 2 ≤ r.1)
  | _, _ => false
def stepsD : List PyData → List Bool
  | d :: e :: r => stepD d e :: stepsD (e :: r)
  | _ => []
def isRangesD : PyData → Bool
  | .tuple ds => ds.all isPairD && (stepsD ds).all id
  | _ => false
theorem pairOf_len {ds : List PyData} (h : ds.length ≠ 2) : pairOf (.tuple ds) = none := by
  unfold pairOf
  split
  · rename_i e
    cases e
    exact absurd rfl h
  · rfl
theorem _root_.L2.Same.seqT {K : PySem.W.Frag} {H H' : Hp} {a : Addr} {xs : List V} (e : Same H H') (h : SqT K H a xs) : SqT K H' a xs := by
  rcases h with (h | ⟨o, h⟩) | h
  · exact .inl (.inl (e _ _ h))
  · exact .inl (.inr ⟨o, e _ _ h⟩)
  · exact .inr h
theorem DqAll.length {b : Bool} {p : Addr} {H : Hp} : ∀ {vs : List V} {ds : List PyData}, DqAll b p H vs ds → vs.length = ds.length
  | _, _, .nil => rfl
  | _, _, .cons _ t => congrArg Nat.succ (DqAll.length t)
theorem DqAll.get {b : Bool} {p : Addr} {H : Hp} : ∀ {vs : List V} {ds : List PyData} {i : Nat} {v : V}, DqAll b p H vs ds → vs[i]? = some v → ∃ d, ds[i]? = some d ∧ Dq b p H v d
  | _, _, _, _, .nil, e => by simp at e
  | _, _, 0, _, .cons h _, e => by
    simp at e
    subst e
    exact ⟨_, rfl, h⟩
  | _, _, i + 1, _, .cons _ t, e => by
    obtain ⟨d, e1, e2⟩ := DqAll.get (i := i) t (by simpa using e)
    exact ⟨d, by simpa using e1, e2⟩
mutual
theorem Dq.keep {b : Bool} {p : Addr} {H H' : Hp} (k : Kp p H H') : ∀ (d : PyData) (v : V), Dq b p H v d → Dq b p H' v d
  | .none, _, h => by cases h; exact .non
  | .bool x, _, h => by cases h; exact .bl x
  | .int x, _, h => by cases h; exact .int x
  | .str x, _, h => by cases h; exact .str x
  | .list ds, _, h => by
    cases h with
    | lst g ne sm ha => exact .lst (k _ _ ne g) ne sm (Dq.keepAll k ds _ ha)
  | .tuple ds, _, h => by
    cases h with
    | tup g ne ha => exact .tup (k _ _ ne g) ne (Dq.keepAll k ds _ ha)
  | .dict kvs, _, h => by
    cases h with
    | dc0 t g ne => exact .dc0 t (k _ _ ne g) ne
    | @dc1 a x v d t g ne hd => exact .dc1 t (k _ _ ne g) ne (Dq.keep k d v hd)
theorem Dq.keepAll {b : Bool} {p : Addr} {H H' : Hp} (k : Kp p H H') : ∀ (ds : List PyData) (vs : List V), DqAll b p H vs ds → DqAll b p H' vs ds
  | [], _, h => by cases h; exact .nil
  | d :: ds, _, h => by
    cases h with
    | cons h1 h2 => exact .cons (Dq.keep k d _ h1) (Dq.keepAll k ds _ h2)
end
theorem Dq.same {b : Bool} {p : Addr} {H H' : Hp} {d : PyData} {v : V} (h : Dq b p H v d) (s : Same H H') : Dq b p H' v d := Dq.keep (Kp.of s) d v h
theorem DqAll.same {b : Bool} {p : Addr} {H H' : Hp} {ds : List PyData} {vs : List V} (h : DqAll b p H vs ds) (s : Same H H') : DqAll b p H' vs ds := Dq.keepAll (Kp.of s) ds vs h
theorem stepsD_len : ∀ ds : List PyData, (stepsD ds).length = ds.length - 1
  | [] => rfl
  | [_] => rfl
  | d :: e :: r => by
    have ih := stepsD_len (e :: r)
    unfold stepsD
    rw [List.length_cons, ih]
    simp
theorem stepsD_get : ∀ {ds : List PyData} {i : Nat} {d e : PyData}, ds[i]? = some d → ds[i + 1]? = some e → (stepsD ds)[i]? = some (stepD d e)
  | [], _, _, _, h, _ => by simp at h
  | [_], 0, _, _, _, h => by simp at h
  | [_], i + 1, _, _, h, _ => by simp at h
  | a :: b :: r, 0, d, e, h, h2 => by
    simp at h h2
    subst h h2
    rfl
  | a :: b :: r, i + 1, d, e, h, h2 => by
    unfold stepsD
    simpa using stepsD_get (ds := b :: r) (i := i) (by simpa using h) (by simpa using h2)
theorem pair_of {ds : List PyData} {i : Nat} {d : PyData} (al : ds.all isPairD = true) (h : ds[i]? = some d) : ∃ l r, pairOf d = some (l, r) := by
  have q := List.all_eq_true.mp al d (List.mem_of_getElem? h)
  unfold isPairD at q
  split at q
  · rename_i z e
    exact ⟨z.1, z.2, e⟩
  · cases q
theorem Dq.pair {b : Bool} {p : Addr} {H : Hp} {v : V} {d : PyData} {l r : Int} (h : Dq b p H v d) (e : pairOf d = some (l, r)) : ∃ t, v = .ref t ∧ H t = some (.tup [.int l, .int r]) := by
  unfold pairOf at e
  split at e
  · cases e
    cases h with
    | tup g ne ha =>
      cases ha with
      | cons h1 t1 =>
        cases t1 with
        | cons h2 t2 =>
          cases h1
          cases h2
          cases t2
          exact ⟨_, rfl, g⟩
  · cases e
def loD (d : PyData) : Int :=
  match pairOf d with
  | some q => q.1
  | none => 0
def hiD (d : PyData) : Int :=
  match pairOf d with
  | some q => q.2
  | none => 0
def inOne (n : Int) (d : PyData) : Bool :=
  match pairOf d with
  | some q => decide (q.1 ≤ n) && decide (n ≤ q.2)
  | none => false
def inD (ds : List PyData) (n : Int) : Bool := ds.any (inOne n)
theorem pair_lohi {d : PyData} {l h : Int} (e : pairOf d = some (l, h)) : loD d = l ∧ hiD d = h ∧ ∀ n, inOne n d = (decide (l ≤ n) && decide (n ≤ h)) := by
  unfold loD hiD inOne
  rw [e]
  exact ⟨rfl, rfl, fun _ => rfl⟩
structure Rgs (ds : List PyData) : Prop where
  pr : ∀ i, i < ds.length → pairOf (ds.getD i .none) = some (loD (ds.getD i .none), hiD (ds.getD i .none))
  le : ∀ i, i < ds.length → loD (ds.getD i .none) ≤ hiD (ds.getD i .none)
  st : ∀ i, i + 1 < ds.length → hiD (ds.getD i .none) + 2 ≤ loD (ds.getD (i + 1) .none)
theorem getD_at {ds : List PyData} {i : Nat} (h : i < ds.length) : ds[i]? = some (ds.getD i .none) := by
  rw [List.getD_eq_getElem?_getD, List.getElem?_eq_getElem h]
  rfl
theorem rgs_of {ds : List PyData} (h : isRangesD (.tuple ds) = true) : Rgs ds := by
  have h' : (ds.all isPairD && (stepsD ds).all id) = true := h
  obtain ⟨h1, h2⟩ := Bool.and_eq_true_iff.mp h'
  have pr : ∀ i, i < ds.length → pairOf (ds.getD i .none) = some (loD (ds.getD i .none), hiD (ds.getD i .none)) := fun i hi => by
    obtain ⟨l, r, e⟩ := pair_of h1 (getD_at hi)
    obtain ⟨e1, e2, _⟩ := pair_lohi e
    rw [e1, e2]
    exact e
  refine ⟨pr, fun i hi => ?_, fun i hi => ?_⟩
  · have q := List.all_eq_true.mp h1 _ (List.mem_of_getElem? (getD_at hi))
    unfold isPairD at q
    rw [pr i hi] at q
    exact of_decide_eq_true q
  · have g := stepsD_get (getD_at (show i < ds.length by omega)) (getD_at hi)
    have q := List.all_eq_true.mp h2 _ (List.mem_of_getElem? g)
    unfold stepD at q
    rw [pr i (by omega), pr (i + 1) hi] at q
    exact of_decide_eq_true q
theorem Rgs.up {ds : List PyData} (r : Rgs ds) : ∀ (j i : Nat), i ≤ j → j < ds.length → loD (ds.getD i .none) ≤ loD (ds.getD j .none) ∧ hiD (ds.getD i .none) ≤ hiD (ds.getD j .none)
  | 0, i, h, _ => by
    have e : i = 0 := by omega
    rw [e]
    exact ⟨Int.le_refl _, Int.le_refl _⟩
  | j + 1, i, h, hj => by
    by_cases e : i = j + 1
    · rw [e]
      exact ⟨Int.le_refl _, Int.le_refl _⟩
    · have ih := r.up j i (by omega) (by omega)
      have s1 := r.st j hj
      have s2 := r.le j (by omega)
      have s3 := r.le (j + 1) hj
      omega
theorem Rgs.find {ds : List PyData} (r : Rgs ds) {n : Int} {f : Nat} (hf : f ≤ ds.length) (h1 : ∀ i, i < f → hiD (ds.getD i .none) < n) (h2 : ∀ i, f ≤ i → i < ds.length → n ≤ hiD (ds.getD i .none)) :
    inD ds n = (decide (f < ds.length) && decide (loD (ds.getD f .none) ≤ n)) := by
  have one : ∀ i, i < ds.length → inOne n (ds.getD i .none) = (decide (loD (ds.getD i .none) ≤ n) && decide (n ≤ hiD (ds.getD i .none))) := fun i hi => (pair_lohi (r.pr i hi)).2.2 n
  by_cases hl : f < ds.length ∧ loD (ds.getD f .none) ≤ n
  · rw [decide_eq_true hl.1, decide_eq_true hl.2]
    refine List.any_eq_true.mpr ⟨ds.getD f .none, List.mem_of_getElem? (getD_at hl.1), ?_⟩
    rw [one f hl.1, decide_eq_true hl.2, decide_eq_true (h2 f (Nat.le_refl _) hl.1)]
    rfl
  · have e : (decide (f < ds.length) && decide (loD (ds.getD f .none) ≤ n)) = false := by
      rw [← Bool.decide_and]
      exact decide_eq_false hl
    rw [e]
    refine List.any_eq_false.mpr fun d hd => ?_
    obtain ⟨i, hi, e⟩ := List.getElem_of_mem hd
    have ed : d = ds.getD i .none := by
      have := getD_at hi
      rw [List.getElem?_eq_getElem hi, e] at this
      exact Option.some.inj this
    rw [ed, one i hi]
    by_cases lt : i < f
    · rw [decide_eq_false (show ¬ n ≤ hiD (ds.getD i .none) by have := h1 i lt; omega), Bool.and_false]
      exact Bool.false_ne_true
    · have u := (r.up i f (by omega) hi).1
      have nl : ¬ loD (ds.getD i .none) ≤ n := fun z => hl ⟨by omega, by omega⟩
      rw [decide_eq_false nl, Bool.false_and]
      exact Bool.false_ne_true
def gap : L2.St → Nat
  | [_, _, some (.int x), some (.int y), _] => (y - x).toNat
  | _ => 0
/-! ### rules -/
theorem isiD {X : Cx} {b : Bool} {p : Addr} {H : Hp} {v : V} {d : PyData} (h : Dq b p H v d) {T : String} {r : Bool} (e : ∀ t, TyX X.K H v (.type t) → t ∈ ["NoneType", "bool", "int", "str", "list", "tuple", "dict"] → kitB t T = some r) : ∃ t, TyX X.K H v t ∧ PySem.W.kitOne X.K t (.type T) = some r := by
  cases h with
  | non => exact ⟨_, .base .non, kit_ty (e _ (.base .non) (by decide))⟩
  | bl x => exact ⟨_, .base (.bl x), kit_ty (e _ (.base (.bl x)) (by decide))⟩
  | int x => exact ⟨_, .base (.int x), kit_ty (e _ (.base (.int x)) (by decide))⟩
  | str x => exact ⟨_, .base (.str x), kit_ty (e _ (.base (.str x)) (by decide))⟩
  | lst g _ _ _ => exact ⟨_, .base (.lst g), kit_ty (e _ (.base (.lst g)) (by decide))⟩
  | tup g _ _ => exact ⟨_, .base (.tup g), kit_ty (e _ (.base (.tup g)) (by decide))⟩
  | dc0 _ g _ => exact ⟨_, .base (.dK g), kit_ty (e _ (.base (.dK g)) (by decide))⟩
  | dc1 _ g _ _ => exact ⟨_, .base (.dK g), kit_ty (e _ (.base (.dK g)) (by decide))⟩
theorem tyD {K : PySem.W.Frag} {b : Bool} {p : Addr} {H : Hp} {v : V} {d : PyData} (h : Dq b p H v d) : ∃ t, TyX K H v (.type t) ∧ kitB t "int" = some (isIntD d) ∧ kitB t "bool" = some (isBoolD d) ∧ kitB t "tuple" = some (isTupD d) := by
  cases h with
  | non => exact ⟨_, .base .non, by decide +kernel, by decide +kernel, by decide +kernel⟩
  | bl x => exact ⟨_, .base (.bl x), by show kitB "bool" "int" = some true; decide +kernel, by show kitB "bool" "bool" = some true; decide +kernel, by show kitB "bool" "tuple" = some false; decide +kernel⟩
  | int x => exact ⟨_, .base (.int x), by show kitB "int" "int" = some true; decide +kernel, by show kitB "int" "bool" = some false; decide +kernel, by show kitB "int" "tuple" = some false; decide +kernel⟩
  | str x => exact ⟨_, .base (.str x), by show kitB "str" "int" = some false; decide +kernel, by show kitB "str" "bool" = some false; decide +kernel, by show kitB "str" "tuple" = some false; decide +kernel⟩
  | lst g _ _ _ => exact ⟨_, .base (.lst g), by show kitB "list" "int" = some false; decide +kernel, by show kitB "list" "bool" = some false; decide +kernel, by show kitB "list" "tuple" = some false; decide +kernel⟩
  | tup g _ _ => exact ⟨_, .base (.tup g), by show kitB "tuple" "int" = some false; decide +kernel, by show kitB "tuple" "bool" = some false; decide +kernel, by show kitB "tuple" "tuple" = some true; decide +kernel⟩
  | dc0 _ g _ => exact ⟨_, .base (.dK g), by show kitB "dict" "int" = some false; decide +kernel, by show kitB "dict" "bool" = some false; decide +kernel, by show kitB "dict" "tuple" = some false; decide +kernel⟩
  | dc1 _ g _ _ => exact ⟨_, .base (.dK g), by show kitB "dict" "int" = some false; decide +kernel, by show kitB "dict" "bool" = some false; decide +kernel, by show kitB "dict" "tuple" = some false; decide +kernel⟩
section
variable {X : Cx}
theorem call_isiInt : CallR X (.builtin "isinstance") (fun xs H Q => ∃ v d b p, xs = [v, .ty "int"] ∧ Dq b p H v d ∧ Q (.bl (isIntD d)) H) := by
  intro pins s σ H xs us Q I r h
  obtain ⟨v, d, b, p, e, hd, q⟩ := h
  obtain ⟨t, ty, k1, k2, k3⟩ := tyD (K := X.K) hd
  exact call_isi pins s σ H xs us Q I r ⟨v, _, _, _, _, e, .ty _, ty, kit_ty k1, q⟩
theorem call_isiBool : CallR X (.builtin "isinstance") (fun xs H Q => ∃ v d b p, xs = [v, .ty "bool"] ∧ Dq b p H v d ∧ Q (.bl (isBoolD d)) H) := by
  intro pins s σ H xs us Q I r h
  obtain ⟨v, d, b, p, e, hd, q⟩ := h
  obtain ⟨t, ty, k1, k2, k3⟩ := tyD (K := X.K) hd
  exact call_isi pins s σ H xs us Q I r ⟨v, _, _, _, _, e, .ty _, ty, kit_ty k2, q⟩
theorem call_isiTup : CallR X (.builtin "isinstance") (fun xs H Q => ∃ v d b p, xs = [v, .ty "tuple"] ∧ Dq b p H v d ∧ Q (.bl (isTupD d)) H) := by
  intro pins s σ H xs us Q I r h
  obtain ⟨v, d, b, p, e, hd, q⟩ := h
  obtain ⟨t, ty, k1, k2, k3⟩ := tyD (K := X.K) hd
  exact call_isi pins s σ H xs us Q I r ⟨v, _, _, _, _, e, .ty _, ty, kit_ty k3, q⟩
end
/-! ### pairs as tuples of two numbers -/
def prD (q : Int × Int) : PyData := .tuple [.int q.1, .int q.2]
theorem pairOf_pr (q : Int × Int) : pairOf (prD q) = some q := rfl
/-- v is a tuple of the two numbers q -/
def PrAt (H : Hp) (v : V) (q : Int × Int) : Prop := ∃ t, v = .ref t ∧ H t = some (.tup [.int q.1, .int q.2])
abbrev PrAll (H : Hp) : List V → List (Int × Int) → Prop := Paired (PrAt H)
/-- tuples stay -/
def TK (H H' : Hp) : Prop := ∀ b xs, H b = some (.tup xs) → H' b = some (.tup xs)
theorem TK.refl (H : Hp) : TK H H := fun _ _ h => h
theorem TK.trans {H H1 H2 : Hp} (a : TK H H1) (b : TK H1 H2) : TK H H2 := fun c xs h => b c xs (a c xs h)
theorem TK.of {H H' : Hp} (s : Same H H') : TK H H' := fun b xs h => s b _ h
theorem TK.kp {p : Addr} {H H' : Hp} (k : Kp p H H') {ys : List V} (e : H p = some (.lst ys)) : TK H H' := fun b xs h => k b _ (fun z => by rw [z, e] at h; cases h) h
theorem TK.put {l : Addr} {H : Hp} {ys : List V} {o : HO} (e : H l = some (.lst ys)) : TK H (upd H l o) := fun b xs h => by
  rw [upd_ne (fun z => by rw [z, e] at h; cases h)]
  exact h
theorem PrAll.tk {H H' : Hp} {xs : List V} {ps : List (Int × Int)} (h : PrAll H xs ps) (k : TK H H') : PrAll H' xs ps := Paired.mono (fun v q ⟨t, e1, e2⟩ => ⟨t, e1, k _ _ e2⟩) h
theorem PrAll.len {H : Hp} {xs : List V} {ps : List (Int × Int)} (h : PrAll H xs ps) : xs.length = ps.length := Paired.length h
theorem PrAll.snoc {H : Hp} {xs : List V} {ps : List (Int × Int)} {v : V} {q : Int × Int} (h : PrAll H xs ps) (k : PrAt H v q) : PrAll H (xs ++ [v]) (ps ++ [q]) := Paired.snoc h k
theorem PrAll.dq {b : Bool} {p : Addr} {H : Hp} {ys : List V} (e : H p = some (.lst ys)) : ∀ {xs : List V} {ps : List (Int × Int)}, PrAll H xs ps → DqAll b p H xs (ps.map prD)
  | _, _, .nil => .nil
  | _, _, .cons ⟨t, e1, e2⟩ r => by
    subst e1
    exact .cons (.tup e2 (fun z => by rw [z, e] at e2; cases e2) (.cons (.int _) (.cons (.int _) .nil))) (PrAll.dq e r)
theorem Kp.putNew {p l : Addr} {H H' : Hp} {o : HO} (k : Kp p H H') (hl : H l = none) : Kp p H (upd H' l o) := fun b u n e => by
  rw [upd_ne (ne_of_none e hl)]
  exact k b u n e
theorem Pot.eq {p : Addr} {H H' : Hp} {m : Nat} (h : Pot H p m) (e : H' p = H p) : Pot H' p m := by
  obtain ⟨a, b, c, g, r⟩ := h
  exact ⟨a, b, c, e.trans g, r⟩
theorem menu6 {w a b c : Int} (hw : 0 ≤ w) (ha : 0 ≤ a ∧ a ≤ 5) (hb : 0 ≤ b ∧ b ≤ 5) (hc : 0 ≤ c ∧ c ≤ 5) {x : V} (h : x ∈ [V.int 0, V.int 0, V.int a, V.int b, V.int c, V.int w]) : ∃ v, x = .int v ∧ 0 ≤ v ∧ v ≤ w + 5 := by
  simp only [List.mem_cons, List.not_mem_nil, or_false] at h
  rcases h with rfl | rfl | rfl | rfl | rfl | rfl
  · exact ⟨0, rfl, by omega, by omega⟩
  · exact ⟨0, rfl, by omega, by omega⟩
  · exact ⟨a, rfl, by omega, by omega⟩
  · exact ⟨b, rfl, by omega, by omega⟩
  · exact ⟨c, rfl, by omega, by omega⟩
  · exact ⟨w, rfl, by omega, by omega⟩
theorem menu5 {w a b : Int} (hw : 0 ≤ w) (ha : 0 ≤ a ∧ a ≤ 5) (hb : 0 ≤ b ∧ b ≤ 5) {x : V} (h : x ∈ [V.int 0, V.int 0, V.int a, V.int b, V.int w]) : ∃ v, x = .int v ∧ 0 ≤ v ∧ v ≤ w + 5 := by
  simp only [List.mem_cons, List.not_mem_nil, or_false] at h
  rcases h with rfl | rfl | rfl | rfl | rfl
  · exact ⟨0, rfl, by omega, by omega⟩
  · exact ⟨0, rfl, by omega, by omega⟩
  · exact ⟨a, rfl, by omega, by omega⟩
  · exact ⟨b, rfl, by omega, by omega⟩
  · exact ⟨w, rfl, by omega, by omega⟩
theorem pair_intro : ∀ {es : List PyData}, es.length = 2 → es.all isNumD = true → ∃ q, pairOf (.tuple es) = some q
  | [], h, _ => by cases h
  | [_], h, _ => by cases h
  | a :: b :: c :: r, h, _ => by simp at h
  | [a, b], _, h => by
    have h' : (isNumD a && (isNumD b && true)) = true := h
    cases a with
    | int x =>
      cases b with
      | int y => exact ⟨(x, y), rfl⟩
      | none => cases h'
      | bool _ => cases h'
      | str _ => cases h'
      | list _ => cases h'
      | tuple _ => cases h'
      | dict _ => cases h'
    | none => cases h'
    | bool _ => cases h'
    | str _ => cases h'
    | list _ => cases h'
    | tuple _ => cases h'
    | dict _ => cases h'
theorem pair_some {es : List PyData} {q : Int × Int} (h : pairOf (.tuple es) = some q) : es.length = 2 ∧ es.all isNumD = true := by
  unfold pairOf at h
  split at h
  · rename_i e
    cases e
    exact ⟨rfl, rfl⟩
  · cases h
theorem not_pair {d : PyData} (h : pairOf d = none) : isPairD d = false := by
  unfold isPairD
  rw [h]
theorem not_ranges {ds : List PyData} {i : Nat} {d : PyData} (e : ds[i]? = some d) (h : isPairD d = false) : isRangesD (.tuple ds) = false := by
  have n : ds.all isPairD = false := by
    cases q : ds.all isPairD with
    | false => rfl
    | true =>
      have := List.all_eq_true.mp q d (List.mem_of_getElem? e)
      rw [h] at this
      cases this
  show (ds.all isPairD && (stepsD ds).all id) = false
  rw [n]
  rfl
end Pf

/-! Range sets as lists of pairs: what is in them, that each set of numbers has one, and what the program's functions make of them. No Python here. -/
namespace Rng
abbrev Prs := List (Int × Int)
/-- ascending pairs that do not touch, from k upwards -/
def From (k : Int) : Prs → Prop
  | [] => True
  | q :: r => k ≤ q.1 ∧ q.1 ≤ q.2 ∧ From (q.2 + 2) r
/-- a range set -/
def Rg (ps : Prs) : Prop := ∃ k, From k ps
def In (n : Int) (ps : Prs) : Prop := ∃ q, q ∈ ps ∧ q.1 ≤ n ∧ n ≤ q.2
theorem From.down {k j : Int} {ps : Prs} (h : From k ps) (l : j ≤ k) : From j ps := by
  cases ps with
  | nil => trivial
  | cons q r => exact ⟨by have := h.1; omega, h.2⟩
theorem In.nil {n : Int} : ¬ In n [] := fun ⟨_, m, _⟩ => List.not_mem_nil m
theorem In.cons {n : Int} {q : Int × Int} {r : Prs} : In n (q :: r) ↔ (q.1 ≤ n ∧ n ≤ q.2) ∨ In n r := by
  constructor
  · rintro ⟨z, m, h⟩
    rcases List.mem_cons.mp m with e | m
    · exact Or.inl (e ▸ h)
    · exact Or.inr ⟨z, m, h⟩
  · rintro (h | ⟨z, m, h⟩)
    · exact ⟨q, List.mem_cons_self, h⟩
    · exact ⟨z, List.mem_cons_of_mem _ m, h⟩
theorem In.app {n : Int} {r s : Prs} : In n (r ++ s) ↔ In n r ∨ In n s := by
  constructor
  · rintro ⟨z, m, h⟩
    rcases List.mem_append.mp m with m | m
    · exact Or.inl ⟨z, m, h⟩
    · exact Or.inr ⟨z, m, h⟩
  · rintro (⟨z, m, h⟩ | ⟨z, m, h⟩)
    · exact ⟨z, List.mem_append_left _ m, h⟩
    · exact ⟨z, List.mem_append_right _ m, h⟩
theorem From.ge {k n : Int} : ∀ {ps : Prs}, From k ps → In n ps → k ≤ n
  | [], _, h => (In.nil h).elim
  | q :: r, ⟨h1, h2, h3⟩, h => by
    rcases In.cons.mp h with h | h
    · omega
    · have := From.ge h3 h
      omega
/-- each set of numbers has one range set -/
theorem From.one : ∀ {k j : Int} {ps qs : Prs}, From k ps → From j qs → (∀ n, In n ps ↔ In n qs) → ps = qs
  | _, _, [], [], _, _, _ => rfl
  | _, _, [], q :: s, _, h, e => (In.nil ((e q.1).mpr (In.cons.mpr (Or.inl ⟨Int.le_refl _, h.2.1⟩)))).elim
  | _, _, p :: r, [], h, _, e => (In.nil ((e p.1).mp (In.cons.mpr (Or.inl ⟨Int.le_refl _, h.2.1⟩)))).elim
  | _, _, p :: r, q :: s, ⟨a1, a2, a3⟩, ⟨b1, b2, b3⟩, e => by
    have low : ∀ {p : Int × Int} {r : Prs} {n : Int}, p.1 ≤ p.2 → From (p.2 + 2) r → In n (p :: r) → p.1 ≤ n := fun {p r n} h f g => by
      rcases In.cons.mp g with g | g
      · exact g.1
      · have := f.ge g
        omega
    have hd : p.1 = q.1 := by
      have x1 := low b2 b3 ((e p.1).mp (In.cons.mpr (Or.inl ⟨Int.le_refl _, a2⟩)))
      have x2 := low a2 a3 ((e q.1).mpr (In.cons.mpr (Or.inl ⟨Int.le_refl _, b2⟩)))
      omega
    have gap : ∀ {p : Int × Int} {r : Prs}, From (p.2 + 2) r → ¬ In (p.2 + 1) (p :: r) := fun {p r} f g => by
      rcases In.cons.mp g with g | g
      · omega
      · have := f.ge g
        omega
    have tl : p.2 = q.2 := by
      rcases Int.lt_trichotomy p.2 q.2 with c | c | c
      · exact (gap a3 ((e (p.2 + 1)).mpr (In.cons.mpr (Or.inl ⟨by omega, by omega⟩)))).elim
      · exact c
      · exact (gap b3 ((e (q.2 + 1)).mp (In.cons.mpr (Or.inl ⟨by omega, by omega⟩)))).elim
    have pq : p = q := Prod.ext hd tl
    subst pq
    have rest : r = s := From.one a3 b3 fun n => by
      have en := e n
      constructor
      · intro g
        have ge := a3.ge g
        rcases In.cons.mp (en.mp (In.cons.mpr (Or.inr g))) with z | z
        · omega
        · exact z
      · intro g
        have ge := b3.ge g
        rcases In.cons.mp (en.mpr (In.cons.mpr (Or.inr g))) with z | z
        · omega
        · exact z
    rw [rest]
theorem Rg.one {ps qs : Prs} (h : Rg ps) (g : Rg qs) (e : ∀ n, In n ps ↔ In n qs) : ps = qs := by
  obtain ⟨_, h⟩ := h
  obtain ⟨_, g⟩ := g
  exact h.one g e
/-! ### both -/
def cutTo (p q : Int × Int) : Prs := if max p.1 q.1 ≤ min p.2 q.2 then [(max p.1 q.1, min p.2 q.2)] else []
def both : Prs → Prs → Prs
  | [], _ => []
  | _ :: _, [] => []
  | p :: r, q :: s => cutTo p q ++ (if p.2 < q.2 then both r (q :: s) else both (p :: r) s)
termination_by x y => x.length + y.length
theorem in_cut {n : Int} {p q : Int × Int} : In n (cutTo p q) ↔ (p.1 ≤ n ∧ n ≤ p.2) ∧ q.1 ≤ n ∧ n ≤ q.2 := by
  unfold cutTo
  split
  · rename_i h
    constructor
    · intro g
      rcases In.cons.mp g with g | g
      · simp only at g
        omega
      · exact (In.nil g).elim
    · intro g
      exact In.cons.mpr (Or.inl ⟨by show max p.1 q.1 ≤ n; omega, by show n ≤ min p.2 q.2; omega⟩)
  · rename_i h
    constructor
    · exact fun g => (In.nil g).elim
    · intro g
      omega
theorem both_in (n : Int) : ∀ (x y : Prs) (k j : Int), From k x → From j y → (In n (both x y) ↔ In n x ∧ In n y)
  | [], y, _, _, _, _ => by
    unfold both
    exact ⟨fun g => (In.nil g).elim, fun g => (In.nil g.1).elim⟩
  | p :: r, [], _, _, _, _ => by
    unfold both
    exact ⟨fun g => (In.nil g).elim, fun g => (In.nil g.2).elim⟩
  | p :: r, q :: s, k, j, f, g => by
    unfold both
    rw [In.app, in_cut]
    by_cases c : p.2 < q.2
    · rw [if_pos c, both_in n r (q :: s) _ _ f.2.2 g, In.cons, In.cons]
      constructor
      · rintro (h | h)
        · exact ⟨Or.inl h.1, Or.inl h.2⟩
        · exact ⟨Or.inr h.1, h.2⟩
      · rintro ⟨h | h, h2⟩
        · rcases h2 with h2 | h2
          · exact Or.inl ⟨h, h2⟩
          · have := g.2.2.ge h2
            omega
        · exact Or.inr ⟨h, h2⟩
    · rw [if_neg c, both_in n (p :: r) s _ _ f g.2.2, In.cons, In.cons]
      constructor
      · rintro (h | h)
        · exact ⟨Or.inl h.1, Or.inl h.2⟩
        · exact ⟨h.1, Or.inr h.2⟩
      · rintro ⟨h1, h | h⟩
        · rcases h1 with h1 | h1
          · exact Or.inl ⟨h1, h⟩
          · have := f.2.2.ge h1
            omega
        · exact Or.inr ⟨h1, h⟩
termination_by x y => x.length + y.length
theorem both_from : ∀ (x y : Prs) (k j : Int), From k x → From j y → From (max k j) (both x y)
  | [], y, _, _, _, _ => by
    unfold both
    trivial
  | p :: r, [], _, _, _, _ => by
    unfold both
    trivial
  | p :: r, q :: s, k, j, f, g => by
    have f' := f
    have g' := g
    obtain ⟨f1, f2, f3⟩ := f
    obtain ⟨g1, g2, g3⟩ := g
    unfold both
    by_cases c : p.2 < q.2
    · rw [if_pos c]
      have ih := both_from r (q :: s) (p.2 + 2) q.1 f3 ⟨Int.le_refl _, g2, g3⟩
      unfold cutTo
      split
      · refine ⟨by show max k j ≤ max p.1 q.1; omega, by show max p.1 q.1 ≤ min p.2 q.2; omega, ?_⟩
        exact ih.down (by show min p.2 q.2 + 2 ≤ max (p.2 + 2) q.1; omega)
      · exact ih.down (by omega)
    · rw [if_neg c]
      have ih := both_from (p :: r) s p.1 (q.2 + 2) ⟨Int.le_refl _, f2, f3⟩ g3
      unfold cutTo
      split
      · refine ⟨by show max k j ≤ max p.1 q.1; omega, by show max p.1 q.1 ≤ min p.2 q.2; omega, ?_⟩
        exact ih.down (by show min p.2 q.2 + 2 ≤ max p.1 (q.2 + 2); omega)
      · exact ih.down (by omega)
termination_by x y => x.length + y.length
/-! ### united -/
/-- pairs with their ends in order, ascending by their beginnings, from k upwards -/
def Asc (k : Int) : Prs → Prop
  | [] => True
  | q :: r => k ≤ q.1 ∧ q.1 ≤ q.2 ∧ Asc q.1 r
theorem Asc.down {k j : Int} {ps : Prs} (h : Asc k ps) (l : j ≤ k) : Asc j ps := by
  cases ps with
  | nil => trivial
  | cons q r => exact ⟨by have := h.1; omega, h.2⟩
def pour (l h : Int) : Prs → Prs
  | [] => [(l, h)]
  | q :: r => if q.1 > h + 1 then (l, h) :: pour q.1 q.2 r else pour l (max h q.2) r
theorem pour_spec : ∀ (r : Prs) (l h : Int), l ≤ h → Asc l r → From l (pour l h r) ∧ ∀ n, In n (pour l h r) ↔ (l ≤ n ∧ n ≤ h) ∨ In n r
  | [], l, h, lh, _ => by
    unfold pour
    exact ⟨⟨Int.le_refl _, lh, trivial⟩, fun n => In.cons⟩
  | q :: r, l, h, lh, ⟨a1, a2, a3⟩ => by
    unfold pour
    by_cases c : q.1 > h + 1
    · rw [if_pos c]
      obtain ⟨i1, i2⟩ := pour_spec r q.1 q.2 a2 a3
      refine ⟨⟨Int.le_refl _, lh, i1.down (by show h + 2 ≤ q.1; omega)⟩, fun n => ?_⟩
      rw [In.cons, In.cons, i2]
    · rw [if_neg c]
      obtain ⟨i1, i2⟩ := pour_spec r l (max h q.2) (by omega) (a3.down a1)
      refine ⟨i1, fun n => ?_⟩
      rw [i2, In.cons]
      constructor
      · rintro (g | g)
        · by_cases z : n ≤ h
          · exact Or.inl ⟨g.1, z⟩
          · exact Or.inr (Or.inl ⟨by omega, by omega⟩)
        · exact Or.inr (Or.inr g)
      · rintro (g | g | g)
        · exact Or.inl ⟨g.1, by omega⟩
        · exact Or.inl ⟨by omega, by omega⟩
        · exact Or.inr g
def united : Prs → Prs
  | [] => []
  | q :: r => pour q.1 q.2 r
theorem united_spec {ps : Prs} {k : Int} (h : Asc k ps) : Rg (united ps) ∧ ∀ n, In n (united ps) ↔ In n ps := by
  cases ps with
  | nil => exact ⟨⟨0, trivial⟩, fun n => Iff.rfl⟩
  | cons q r =>
    obtain ⟨i1, i2⟩ := pour_spec r q.1 q.2 h.2.1 h.2.2
    exact ⟨⟨_, i1⟩, fun n => by
      show In n (pour q.1 q.2 r) ↔ _
      rw [i2, In.cons]⟩
/-! ### gaps -/
/-- the numbers from s to high that are not in inner, whose pairs lie from s upwards -/
def holes (s high : Int) : Prs → Prs
  | [] => if s ≤ high then [(s, high)] else []
  | q :: r => (if s ≤ q.1 - 1 then [(s, q.1 - 1)] else []) ++ holes (q.2 + 1) high r
theorem holes_spec (high : Int) : ∀ (r : Prs) (s : Int), From s r → (∀ n, In n r → n ≤ high) → From s (holes s high r) ∧ ∀ n, In n (holes s high r) ↔ (s ≤ n ∧ n ≤ high) ∧ ¬ In n r
  | [], s, _, _ => by
    unfold holes
    split
    · rename_i c
      refine ⟨⟨Int.le_refl _, c, trivial⟩, fun n => ?_⟩
      rw [In.cons]
      exact ⟨fun g => ⟨g.elim id fun z => (In.nil z).elim, In.nil⟩, fun g => Or.inl g.1⟩
    · rename_i c
      refine ⟨trivial, fun n => ⟨fun g => (In.nil g).elim, fun g => ?_⟩⟩
      omega
  | q :: r, s, ⟨a1, a2, a3⟩, hh => by
    have hi : q.2 ≤ high := hh q.2 (In.cons.mpr (Or.inl ⟨a2, Int.le_refl _⟩))
    obtain ⟨i1, i2⟩ := holes_spec high r (q.2 + 1) (a3.down (by omega)) (fun n g => hh n (In.cons.mpr (Or.inr g)))
    have mid : ∀ n, In n ((if s ≤ q.1 - 1 then [(s, q.1 - 1)] else []) ++ holes (q.2 + 1) high r) ↔ (s ≤ n ∧ n ≤ high) ∧ ¬ In n (q :: r) := fun n => by
      rw [In.app, i2, In.cons]
      constructor
      · rintro (g | g)
        · have g' : s ≤ n ∧ n ≤ q.1 - 1 := by
            split at g
            · rcases In.cons.mp g with g | g
              · exact g
              · exact (In.nil g).elim
            · exact (In.nil g).elim
          refine ⟨⟨by omega, by omega⟩, ?_⟩
          rintro (z | z)
          · omega
          · have := a3.ge z
            omega
        · refine ⟨⟨by omega, by omega⟩, ?_⟩
          rintro (z | z)
          · omega
          · exact g.2 z
      · rintro ⟨⟨g1, g2⟩, g3⟩
        by_cases c : n < q.1
        · left
          rw [if_pos (by omega)]
          exact In.cons.mpr (Or.inl ⟨g1, by show n ≤ q.1 - 1; omega⟩)
        · right
          refine ⟨⟨?_, g2⟩, fun z => g3 (Or.inr z)⟩
          apply Classical.byContradiction
          intro z
          exact g3 (Or.inl ⟨by omega, by omega⟩)
    refine ⟨?_, mid⟩
    show From s ((if s ≤ q.1 - 1 then [(s, q.1 - 1)] else []) ++ holes (q.2 + 1) high r)
    split
    · rename_i c
      exact ⟨Int.le_refl _, c, i1.down (by show q.1 - 1 + 2 ≤ q.2 + 1; omega)⟩
    · exact i1.down (by omega)
end Rng

set_option Elab.async false
set_option linter.all false
set_option maxRecDepth 100000
/-! sorted(t) of a tuple of pairs. -/
namespace SrtO
open PySem PyProof.Rows Srt
section
variable {prog : Program} {w : World} {A : Around} {E : Value → Shared → Prop} {s : Shared}
theorem sorted_tupP {t : Addr} {o : Obj} {n : Nat} {vs : List Value} {k : Value → Int × Int} {Q : Value → Shared → Prop} (ho : s.heap.get? t = some o) (hc : o.cls = .type "tuple") (hd : o.data = .seq vs.toArray n)
    (hz : vs.length ≤ sizeLine) (hp : ∀ v ∈ vs, IsPair s.heap v (k v).1 (k v).2)
    (h : ∀ (h' : Heap) (d : Addr) (out : List Value), Srtd (fun v u => lexB (k v) (k u)) out → Stb (fun v u => lexB (k v) (k u)) out vs → ∀ h1 : Heap, (∀ b o, s.heap.get? b = some o → h1.get? b = some o) → (∀ b o, h1.get? b = some o → h'.get? b = some o) → h1.objs.size ≤ d →
      (∃ n, h'.get? d = some (seqObj "list" out.toArray n)) → Q (.ref d) { s with heap := h' }) :
    wpAny (model prog w) A (call (.builtin "sorted") [.ref t]) Q E s := by
  refine Calls.call_function_entry kind_sorted plain_sorted entry_sorted (args_sorted1 _) ?_
  unfold Builtin.«sorted»
  refine wpAny_bind (m := checkCount "sorted" 1 1 _) (wpAny_pure ?_)
  refine wpAny_bind (wpAny_collect_seq t (.inr rfl) ho hc hd (fun h1 k1 => ?_) (by rw [List.size_toArray]; exact hz))
  have e0 : vs.toArray.toList = vs := by simp
  rw [e0]
  refine wpAny_bind (wpAny_newList ?_ hz)
  have at1 : (h1.push (seqObj "list" vs.toArray 0)).get? h1.objs.size = some (seqObj "list" vs.toArray 0) := Heap.get?_push_size _ rfl
  have old : ∀ b o, h1.get? b = some o → b ≠ h1.objs.size ∧ (h1.push (seqObj "list" vs.toArray 0)).get? b = some o := fun b o e => ⟨Nat.ne_of_lt (Heap.lt_size e), Heap.get?_push_of_some _ e⟩
  refine wpAny_bind (wpAny_holding (wpAny_call_entry slot_list_sort ⟨_, at1, rfl⟩ entry_list_sort (list_sort_ord (swo_lex k) at1 hz (fun h2 => ?_) fun out hs hb => ⟨_, rfl, ?_⟩) (args_list_sort _)))
  · refine pairs_sortableO (by omega) (fun v hv => (hp v hv).keeps fun b o e _ => (old b o (k1 b o e)).2) fun o e c => ?_
    have z : some o = some (seqObj "list" vs.toArray 0) := e.symm.trans at1
    cases z
    exact absurd (Value.type.inj c) (by decide)
  · refine wpAny_pure ⟨_, rfl, h _ _ out hs hb h1 k1 (fun b o e => ?_) (Nat.le_refl _) (sortedHeap_at at1)⟩
    obtain ⟨x1, x2⟩ := old b o e
    exact (sortedHeap_old x1 (Heap.lt_size x2)).trans x2
end
end SrtO
namespace L2
open PySem PySem.Spec PyProof.Rows
/-- sorted(t) of a tuple of pairs: k says which -/
def rSortTP (K : PySem.W.Frag) : List V → Hp → VK → Prop := fun vs H Q => ∃ (a : Addr) (xs : List V) (k : V → Int × Int), vs = [V.ref a] ∧ SqT K H a xs ∧ (∀ x ∈ xs, ∃ t, x = V.ref t ∧ H t = some (.tup [.int (k x).1, .int (k x).2])) ∧
  ∀ ys p, SrtO.Srtd (ltP k) ys → SrtO.Stb (ltP k) ys xs → H p = none → Q (.ref p) (upd H p (.lst ys))
theorem cr_sortTP {X : Cx} : CallR X (.builtin "sorted") (rSortTP X.K) := by
  intro pins s σ H vs us Q I r h
  obtain ⟨a, xs, k, rfl, hs, hx, q⟩ := h
  obtain ⟨its, rv, ⟨o, ho, hc, n, hd⟩, hz⟩ := I.tuple hs
  obtain ⟨u, rfl, ru⟩ := vals1 r
  cases ru
  have len := rv.length
  obtain ⟨e1, e2⟩ := refs_back rv fun x m => (hx x m).imp fun _ z => z.1
  refine SrtO.sorted_tupP (k := fun u => k (backV u)) ho hc hd (by omega) (fun v hv => ?_) fun h' d out h1 h2 hm km kp hd' hn => ?_
  · obtain ⟨t, rfl⟩ := e2 v hv
    have hmem : V.ref t ∈ xs := e1 ▸ List.mem_map.mpr ⟨Value.ref t, hv, rfl⟩
    obtain ⟨t', e, ht⟩ := hx _ hmem
    cases e
    obtain ⟨_, its2, r2, o2, ho2, hc2, n2, hd2⟩ := I.hok _ _ ht
    obtain ⟨u1, u2, rfl, ⟨t1, rfl⟩, ⟨t2, rfl⟩⟩ := vals2 r2
    exact ⟨t, o2, t1, t2, n2, rfl, ho2, hc2, hd2⟩
  · obtain ⟨n2, hn⟩ := hn
    have all : ∀ u ∈ out, ∃ a, u = Value.ref a := fun u hu => e2 u (h2.perm.subset hu)
    have stb : SrtO.Stb (ltP k) (out.map backV) xs := e1 ▸ SrtO.Stb.map (ltP_swo k) backV h2
    have I1 : Inv X pins σ H { s with heap := hm, toks := s.toks } := I.kept (t' := s.toks) km
    have z : (out.map backV).length ≤ sizeLine := by
      rw [stb.len]
      omega
    exact ⟨.ref d, upd H d (.lst (out.map backV)), I1.laid (t' := s.toks) kp hd' ⟨z, out, n2, vals_back all, hn⟩, rfl, q _ d (SrtO.srtd_map h1) stb (I1.hok.fresh hd')⟩
end L2

set_option Elab.async false
set_option linter.all false
set_option maxRecDepth 100000
/-! The length of a text. -/
namespace Pf
open PySem PySem.Spec PyProof.Rows L2
theorem char_lt (c : Char) : c.toNat < 0x110000 := by
  rcases c.valid with h | h
  · exact Nat.lt_trans (show c.val.toNat < 0xd800 from h) (by decide)
  · exact h.2
theorem strOk_of (s : String) : PyData.strOk (Str.ofString s) = true := by
  rw [Str.ofString_eq_toList]
  unfold PyData.strOk
  rw [Array.all_eq_true]
  intro i hi
  simp only [List.size_toArray, List.length_map] at hi
  simp only [List.getElem_toArray, List.getElem_map]
  exact decide_eq_true (char_lt _)
theorem strOk_app {a b : Str} (h1 : PyData.strOk a = true) (h2 : PyData.strOk b = true) : PyData.strOk (a ++ b) = true := by
  unfold PyData.strOk at *
  rw [show (a ++ b).cps = a.cps ++ b.cps from rfl, Array.all_append, h1, h2]
  rfl
theorem strOk_join {sep : Str} (h : PyData.strOk sep = true) : ∀ ts : List Str, (∀ t ∈ ts, PyData.strOk t = true) → PyData.strOk (Str.join sep ts) = true
  | [], _ => (show PyData.strOk Str.empty = true by decide +kernel)
  | [x], k => k x List.mem_cons_self
  | x :: y :: r, k => strOk_app (strOk_app (k x List.mem_cons_self) h) (strOk_join h (y :: r) fun t m => k t (List.mem_cons_of_mem _ m))
theorem strOk_from : ∀ (ts : List Str) (k : Nat) (acc : Str), PyData.strOk acc = true → (∀ t ∈ ts, PyData.strOk t = true) → PyData.strOk (textFrom k acc ts) = true
  | [], _, _, h, _ => h
  | t :: ts, k, acc, h, g => strOk_from ts (k + 1) _ (strOk_app (strOk_app h (strOk_of _)) (g t List.mem_cons_self)) fun u m => g u (List.mem_cons_of_mem _ m)
def tup1000 : PyData → Bool
  | .tuple ds => decide (ds.length ≤ 1000)
  | _ => true
def tlB (d : PyData) : Bool := PyData.strOk d.shown && tup1000 d
theorem shown_mem : ∀ {ds : List PyData}, (∀ d ∈ ds, tlB d = true) → ∀ t ∈ PyData.shownAll ds, PyData.strOk t = true
  | [], _, t, m => by simp only [PyData.shownAll] at m; exact (List.not_mem_nil m).elim
  | d :: ds, h, t, m => by
    simp only [PyData.shownAll] at m
    rcases List.mem_cons.mp m with e | m
    · rw [e]
      exact (Bool.and_eq_true_iff.mp (h d List.mem_cons_self)).1
    · exact shown_mem (fun e he => h e (List.mem_cons_of_mem _ he)) t m
def szB (n k : Nat) (d : PyData) : Bool := d.showable && (decide (d.shown.length ≤ n) && (decide (d.depth ≤ k) && tlB d))
def Sz (n k : Nat) (d : PyData) : Prop := d.showable = true ∧ d.shown.length ≤ n ∧ d.depth ≤ k ∧ tlB d = true
theorem sz_of {n k : Nat} {d : PyData} (h : szB n k d = true) : Sz n k d := by
  unfold szB at h
  rw [Bool.and_eq_true, Bool.and_eq_true, Bool.and_eq_true] at h
  exact ⟨h.1, of_decide_eq_true h.2.1, of_decide_eq_true h.2.2.1, h.2.2.2⟩
theorem Sz.up {n k n' k' : Nat} {d : PyData} (h : Sz n k d) (hn : n ≤ n') (hk : k ≤ k') : Sz n' k' d := ⟨h.1, Nat.le_trans h.2.1 hn, Nat.le_trans h.2.2.1 hk, h.2.2.2⟩
theorem Sz.tl {n k : Nat} {d : PyData} (h : Sz n k d) : ∀ ds, d = .tuple ds → ds.length ≤ 1000 := fun ds e => by
  have q := h.2.2.2
  rw [e] at q
  exact of_decide_eq_true (Bool.and_eq_true_iff.mp q).2
theorem Sz.ok {n k : Nat} {d : PyData} (h : Sz n k d) : PyData.strOk d.shown = true := (Bool.and_eq_true_iff.mp h.2.2.2).1
theorem Sz.fits {n k : Nat} {d : PyData} (h : Sz n k d) (hn : n ≤ sizeLine) (hk : k ≤ 60) : Fits d := ⟨h.1, Nat.le_trans h.2.1 hn, Nat.le_trans h.2.2.1 hk⟩
theorem Sz.all {n k : Nat} : ∀ {ds : List PyData}, (∀ d ∈ ds, Sz n k d) → PyData.showableAll ds = true ∧ ((PyData.shownAll ds).map (·.length)).sum ≤ ds.length * n ∧ (PyData.shownAll ds).length = ds.length ∧ PyData.depthAll ds ≤ k
  | [], _ => ⟨rfl, by simp [PyData.shownAll], rfl, Nat.zero_le _⟩
  | d :: ds, h => by
    obtain ⟨h1, h2, h3, _⟩ := h d List.mem_cons_self
    obtain ⟨i1, i2, i3, i4⟩ := Sz.all (ds := ds) fun e he => h e (List.mem_cons_of_mem _ he)
    refine ⟨?_, ?_, ?_, ?_⟩
    · simp only [PyData.showableAll, h1, i1, Bool.and_self]
    · simp only [PyData.shownAll, List.map_cons, List.sum_cons, List.length_cons, Nat.add_mul, Nat.one_mul]
      omega
    · simp only [PyData.shownAll, List.length_cons, i3]
    · simp only [PyData.depthAll]
      exact Nat.max_le.mpr ⟨h3, i4⟩
theorem Sz.tuple {n k : Nat} {ds : List PyData} (h : ∀ d ∈ ds, Sz n k d) (hl : ds.length ≤ 1000 := by simp) : Sz (ds.length * (n + 2) + 3) (k + 1) (.tuple ds) := by
  obtain ⟨i1, i2, i3, i4⟩ := Sz.all h
  refine ⟨by simp only [PyData.showable]; exact i1, ?_, by simp only [PyData.depth]; omega, Bool.and_eq_true_iff.mpr ⟨by
    simp only [PyData.shown, tupleText]
    exact strOk_app (strOk_app (strOk_of _) (strOk_join (strOk_of _) _ (shown_mem fun d m => (h d m).2.2.2))) (strOk_of _), decide_eq_true hl⟩⟩
  have := tupleText_len_le (PyData.shownAll ds)
  simp only [PyData.shown]
  rw [Nat.mul_add]
  omega
theorem Sz.list {n k : Nat} {ds : List PyData} (h : ∀ d ∈ ds, Sz n k d) : Sz (ds.length * (n + 2) + 3) (k + 1) (.list ds) := by
  obtain ⟨i1, i2, i3, i4⟩ := Sz.all h
  refine ⟨by simp only [PyData.showable]; exact i1, ?_, by simp only [PyData.depth]; omega, Bool.and_eq_true_iff.mpr ⟨by
    simp only [PyData.shown, listText]
    exact strOk_app (strOk_from _ _ _ (strOk_of _) (shown_mem fun d m => (h d m).2.2.2)) (strOk_of _), rfl⟩⟩
  have := listText_len_le (PyData.shownAll ds)
  simp only [PyData.shown]
  rw [Nat.mul_add]
  omega
theorem int_sz {i : Int} (h : i.natAbs < 10 ^ 40) : Sz 41 0 (.int i) := by
  have e := int_text_length_le10 (k := 40) (by decide) h
  have lg : i.natAbs.log2 < 1920 := by
    by_cases z : i.natAbs = 0
    · rw [z]
      decide
    · exact (Nat.log2_lt z).mpr (Nat.lt_of_lt_of_le h (by decide +kernel))
  refine ⟨by simp only [PyData.showable]; exact decide_eq_true lg, ?_, by simp only [PyData.depth]; omega, Bool.and_eq_true_iff.mpr ⟨by
    simp only [PyData.shown]
    exact strOk_of _, rfl⟩⟩
  simp only [PyData.shown]
  rw [PySem.ofString_length]
  exact e
def Near (q : Int × Int) : Prop := q.1.natAbs < 10 ^ 40 ∧ q.2.natAbs < 10 ^ 40
theorem pr_sz {q : Int × Int} (h : Near q) : Sz 100 1 (prD q) := by
  refine (Sz.tuple (n := 41) (k := 0) fun e he => ?_).up (by simp only [List.length_cons, List.length_nil]; omega) (by omega)
  rcases List.mem_cons.mp he with e1 | he
  · rw [e1]
    exact int_sz h.1
  · rw [List.mem_singleton.mp he]
    exact int_sz h.2
theorem prs_sz {ps : List (Int × Int)} (h : ∀ q ∈ ps, Near q) : ∀ d ∈ ps.map prD, Sz 100 1 d := fun d hd => by
  obtain ⟨q, hq, e⟩ := List.mem_map.mp hd
  rw [← e]
  exact pr_sz (h q hq)
end Pf

set_option Elab.async false
set_option linter.all false
set_option maxRecDepth 100000
set_option maxHeartbeats 2000000
/-! A caught exception that is kept behind its except clause: what is still known of it. -/
namespace Pf
open PySem PySem.Spec PyProof.Rows L2
/-- an exception object at a, of that class and with that dict -/
def xvP (a : Addr) (cls : Value) (d : Option Addr) : Heap → Prop := fun h => ∃ (oe : Obj) (vs : Array Value), h.get? a = some oe ∧ Zc cls d oe ∧ oe.data = .fields vs
abbrev XV (a : Addr) (cls : Value) (d : Option Addr) : HO := .ext (xvP a cls d)
theorem notFrame {h B : Heap} {l : List Env} {a : Addr} {o : Obj} {vs : Array Value} (ff : h.FunFrames B l) (e : h.get? a = some o) (d : o.data = .fields vs) : a ∉ frs l := by
  intro m
  obtain ⟨_, o', e', no⟩ := ff.mem m
  cases e.symm.trans e'
  exact no _ d
section
variable {X : Cx} {pins : List (Addr × Obj)} {σ : L2.St} {H : Hp} {s : Shared} {a : Addr} {cls : Value} {d : Option Addr}
/-- what is known of an untracked object may be kept from now on, if it is none of the entry's -/
theorem keepX (I : Inv X pins σ H s) (new : X.s_0.heap.get? a = none) (hx : xvP a cls d s.heap) (na : H a = none) (nL : a ≠ X.env.locals) (np : ∀ p ∈ X.pn ++ pins, p.1 ≠ a) : Inv X pins σ (upd H a (XV a cls d)) s := by
  have old : ∀ {b : Addr} {o : Obj}, X.s_0.heap.get? b = some o → b ≠ a := fun e z => by
    rw [z, new] at e
    cases e
  have tr : ∀ {b : Addr} {o : HO}, H b = some o → b ≠ a := fun e => ne_of_none e na
  refine ⟨I.ok, I.os, I.bare, ⟨I.base.keep, I.base.slot, fun b o e n hb => ?_, I.base.there, fun b xs e => ?_, fun b o u e => ?_, fun b ps e => ?_⟩, I.loc, I.cell, ?_, fun x c e => ?_, fun p hp => ?_, HOk.laidN I.hok (fun _ _ z => z) na ?_, I.len⟩
  · rw [upd_ne (old e)]
    exact I.base.free b o e n hb
  · have z := I.base.tups b xs e
    rw [upd_ne (tr z)]
    exact z
  · have z := I.base.frzs b o u e
    rw [upd_ne (tr z)]
    exact z
  · obtain ⟨m, z⟩ := I.base.tbls b ps e
    refine ⟨m, ?_⟩
    rw [upd_ne (tr z)]
    exact z
  · rw [upd_ne nL.symm]
    exact I.free
  · obtain ⟨v, o, ho, hd⟩ := I.cell x c e
    obtain ⟨oe, vs, he, _, hv⟩ := hx
    have ne : c ≠ a := fun z => by
      rw [z, he] at ho
      cases ho
      rw [hv] at hd
      cases hd
    rw [upd_ne ne]
    exact I.freeC x c e
  · obtain ⟨p1, p2, p3⟩ := I.pin p hp
    refine ⟨p1, ?_, p3⟩
    rw [upd_ne (np p hp)]
    exact p2
  · obtain ⟨oe, vs, he, hz, hv⟩ := id hx
    exact ⟨hx, ⟨oe, he⟩, fun h1 h2 ⟨o1, v1, e1, z1, d1⟩ k => ⟨o1, v1, k _ e1, z1, d1⟩⟩
end
/-- the clause 'except x as n' whose exception is kept: behind the suite it is tracked -/
def wKp (K : PySem.W.Frag) (c : Value) (i : Nat) (ts : TS) (Wout : WX) (D : Ends) : WX := fun cls d σ H =>
  ∃ b, PySem.W.exmOne K cls c = some b ∧ (b = true → ∀ a, H a = none → ts { nx := fun σ' H' => D.nx (σ'.set i none) (upd H' a (XV a cls d)), rt := fun _ _ => False, bk := fun _ _ => False, ct := fun _ _ => False } (σ.set i (some (.ref a))) H) ∧
    (b = false → Wout cls d σ H)
section
variable {X : Cx} {x n : Str} {c : Value} {i : Nat} {body suite : List Stmt} {b₀ : Stmt} {np pos pos' : Pos} {tb : WX → TS} {ts : TS} {Wout : WX}
theorem ps_try_kept (hs : X.stack = X.env :: X.outer) (hf : X.env.frame = some X.env.locals) (hex : X.ex = []) (hN : X.N.Nodup) (hi : X.N[i]? = some n) (hln : X.env.kindOf n = some .local) (hc : Names X x c) (tk : Takes X Wout)
    (hb : ∀ (W : WX) (pn : List (Addr × Obj)) (xe : Value → Shared → Prop), Takes (X.tr pn xe) W → PassesOwn (model X.prog X.w) X.A X.env xe → PSs (X.tr pn xe) body (tb W))
    (hsu : ∀ (a : Addr) (oe : Obj) (pn : List (Addr × Obj)), PSs (X.suite a ((a, oe) :: pn)) (b₀ :: suite) ts) :
    PS X (.Try body [.ExceptHandler (some (.Name x np)) (some n) (b₀ :: suite) pos'] [] [] pos) (fun D σ H => tb (wKp X.K c i ts Wout D) D σ H) := by
  constructor
  intro pins s σ H D I h
  have ok := I.ok
  have hfr : X.A.frames = some (X.env :: X.outer) := by rw [ok.frames, hs]
  refine wpAny_Try_except (wpAny_mono ((hb (wKp X.K c i ts Wout D) (X.pn ++ pins) (fun e s₁ => wpAny (model X.prog X.w) X.A (noteFrame e X.env) (fun _ s₂ => wpAny (model X.prog X.w) X.A (setFlight e none) (fun _ s₃ =>
    wpAny (model X.prog X.w) X.A (handleBy e X.env [.ExceptHandler (some (.Name x np)) (some n) (b₀ :: suite) pos']) (SP X pins D) X.xe s₃) X.xe s₂) X.xe s₁) ?caught PassesOwn.looking).run [] s σ H D (I.toTry _) h) ?through (fun e s1 he => he))
  case through =>
    intro f s1 z
    match f, z with
    | .next, ⟨σ', H', J, q⟩ => exact wpAny_execs_nil ⟨σ', H', J.ofTry ok, q⟩
    | .brk, ⟨σ', H', J, q⟩ => exact ⟨σ', H', J.ofTry ok, q⟩
    | .cont, ⟨σ', H', J, q⟩ => exact ⟨σ', H', J.ofTry ok, q⟩
    | .ret u, ⟨v, σ', H', J, r, q⟩ => exact ⟨v, σ', H', J.ofTry ok, r, q⟩
  case caught =>
    rintro u s' ⟨a, B, sI, pins', σ', H', cls, d, rfl, J', nb, up, sky, na, os, ag, b, matches_, yes, no⟩
    have J := J'.ofTry ok
    rw [hs] at sky
    refine Sky.land Zc.steady hfr hf sky fun h3 fl3 up3 => ?_
    have J3 : Inv X pins σ' H' { s' with heap := h3 } := J.landed nb fl3.1 (up.trans up3) os ag
    obtain ⟨oe3, vs3, he3, hz3, hd3⟩ := fl3.there
    have nfr : a ∉ frs X.stack := by rw [hs]; exact notFrame fl3.2.2.1 he3 hd3
    have nL : a ≠ X.env.locals := fun z => nfr (by rw [hs]; exact List.mem_filterMap.mpr ⟨X.env, List.mem_cons_self, by rw [hf, z]⟩)
    have nF : a ∉ X.fs := fun m => by
      obtain ⟨e, he, q⟩ := List.mem_filterMap.mp m
      exact nfr (by rw [hs]; exact List.mem_filterMap.mpr ⟨e, List.mem_cons_of_mem _ he, q⟩)
    -- it is none of what was there before
    have nI : sI.heap.get? a = none := by
      cases e : sI.heap.get? a with
      | none => rfl
      | some o =>
        have z := nb a o e nfr
        rw [fl3.2.1] at z
        cases z
    have new : X.s_0.heap.get? a = none := by
      cases e : X.s_0.heap.get? a with
      | none => rfl
      | some o =>
        obtain ⟨o', z⟩ := J.base.there a o e (by rw [hex]; exact fun m => nomatch m)
        rw [nI] at z
        cases z
    have npin : ∀ p ∈ X.pn ++ pins, p.1 ≠ a := fun p hp z => by
      have q := (J.pin p hp).1
      rw [z, nI] at q
      cases q
    have S3 := J3.suite he3 hd3 na nL nF
    refine wpAny_handleBy_cons (codeAny_handlers_test ?_) (by intro q; cases q)
    have LT : PySem.W.Looks (model X.prog X.w) h3 (typeOf (.ref a)) cls := fun A Q E s k q => wpAny_typeOf_ref (k _ _ he3) (by rw [hz3.1]; exact q)
    have LM := PySem.W.exm_one (M := model X.prog X.w) J3.kIn LT matches_
    have named : ∀ {Q : Value → Shared → Prop} {E : Value → Shared → Prop}, Q c { s' with heap := h3 } → wpAny (model X.prog X.w) (X.A.mark (some (.ref a))) (eval (.Name x np) X.env) Q E { s' with heap := h3 } := fun {Q E} q => by
      obtain ⟨g, dbg, m | ⟨m, v, nn⟩⟩ := hc
      · exact ld_glob (X := X.suite a ((a, oe3) :: (X.pn ++ pins))) S3 g m q dbg
      · exact ld_blt (X := X.suite a ((a, oe3) :: (X.pn ++ pins))) S3 g m v q nn dbg
    refine named (LM.here ?_)
    cases b with
    | true =>
      refine codeAny_handlers_suite_as (HandSPX.lands_againZ fl3 fun h4 fl4 up4 => ?_)
      have J4 : Inv X pins σ' H' { s' with heap := h4 } := J.landed nb fl4.1 ((up.trans up3).trans up4) os ag
      obtain ⟨oe4, vs4, he4, hz4, hd4⟩ := fl4.there
      refine store_ok (X := X.suite a ((a, oe4) :: (X.pn ++ pins))) (v := .ref a) (J4.suite he4 hd4 na nL nF) hN hi (.inl hln) rfl (fun s5 S5 => ?_) (.inr hln)
      refine wpAny_mono ((hsu a oe4 (X.pn ++ pins)).run [] s5 _ H' _ S5 (yes rfl a na)) ?_ (fun _ _ z => False.elim z)
      intro f s6 z
      match f, z with
      | .ret u, ⟨_, _, _, _, _, q⟩ => exact q.elim
      | .brk, ⟨_, _, _, q⟩ => exact q.elim
      | .cont, ⟨_, _, _, q⟩ => exact q.elim
      | .next, ⟨σ6, H6, S6, q6⟩ =>
        refine gone_ok (X := X.suite a ((a, oe4) :: (X.pn ++ pins))) S6 hN hi hln fun s7 S7 => ?_
        obtain ⟨p1, p2, _⟩ := S7.pin (a, oe4) (List.mem_append_left _ List.mem_cons_self)
        exact ⟨_, _, keepX (S7.unsuite ok) new ⟨oe4, vs4, p1, hz4, hd4⟩ p2 nL npin, q6⟩
    | false =>
      show wpAny _ X.A (handleBy (.ref a) X.env []) _ _ _
      refine wpAny_handleBy_nil ?_
      obtain ⟨_, _, _, oe, vs, T, oT, ts', he, hz, hd, h1, _⟩ := id fl3
      have fin : wpAny (model X.prog X.w) X.A (setFlight (.ref a) X.env.frame) (fun _ s4 => wpAny (model X.prog X.w) X.A (throw (.ref a) : Sem Flow) (SP X pins D) X.xe s4) X.xe { s' with heap := h3 } := by
        rw [hf]
        exact HandSPX.setFlight_upZ fl3 fun h4 hh4 up4 => wpAny_throw (tk _ _ ⟨a, B, sI, pins, σ', H', cls, d, rfl, J, nb, (up.trans up3).trans up4, .inr (.inr (by rw [hs]; exact hh4)), na, os, ag, no rfl⟩)
      unfold PySem.passOn
      refine wpAny_bind (wpAny_field he hd h1 ?_)
      rw [if_neg (show ¬ ((Value.ref T == Value.none) = true) from by simp)]
      first
        | exact wpAny_bind (wpAny_pure (wpAny_bind fin))
        | exact wpAny_bind fin
end
end Pf

set_option Elab.async false
set_option linter.all false
set_option maxRecDepth 100000
set_option maxHeartbeats 2000000
/-! A kept exception is looked at: isinstance, its attributes. -/
namespace Pf
open PySem PySem.Spec PyProof.Rows L2
section
variable {X : Cx}
theorem xv_inst {P : Program} {w : World} {H : Hp} {h : Heap} {a C dd : Addr} {fs : List (Str × V)} (k : HOk P w H h) (e : H a = some (XV a (.ref C) (some dd))) (ed : H dd = some (.xd fs)) :
    ∃ (oe od : Obj) (mA : Str → Option Value), h.get? dd = some od ∧ PySem.W.InstAt h a oe C (some od) ∧ h.Ns1 dd mA ∧ ∀ f, RelO (fs.lookup f) (mA f) := by
  obtain ⟨⟨oe, vs, he, hz, hv⟩, _⟩ := k a _ e
  have hx : ObjOk P w H h dd (.xd fs) := k dd _ ed
  obtain ⟨mA, hns, hr⟩ := hx
  obtain ⟨od, ho, hl⟩ := lookIn_ns hns
  refine ⟨oe, od, mA, ho, ⟨he, hz.1, ?_, ?_⟩, hns, hr⟩
  · unfold PySem.W.notCls
    rw [hv] <;> rfl
  · rw [hz.2]
    exact ho
/-- isinstance(e, c), e a kept exception -/
def rIsX (K : PySem.W.Frag) : List V → Hp → VK → Prop := fun xs H Q => ∃ (a D dd : Addr) (fs : List (Str × V)) (c : V) (cv : Value) (b : Bool), xs = [.ref a, c] ∧ H a = some (XV a (.ref D) (some dd)) ∧ H dd = some (.xd fs) ∧ ExcC K D ∧
  (∀ u, RelV c u → u = cv) ∧ PySem.W.kitOne K (.ref D) cv = some b ∧ Q (.bl b) H
theorem call_isiX : CallR X (.builtin "isinstance") (rIsX X.K) := by
  intro pins s σ H xs us Q I r h
  obtain ⟨a, D, dd, fs, c, cv, b, rfl, e, ed, C, hcv, k, q⟩ := h
  obtain ⟨u, v, rfl, ru, rv⟩ := vals2 r
  obtain rfl : u = Value.ref a := ru
  cases hcv _ rv
  obtain ⟨oe, od, mA, ho, J, _, _⟩ := xv_inst I.hok e ed
  have hcl : (PySem.W.clsIn X.K D).isSome = true := by
    have z := C.hd
    unfold PySem.W.hasDictIn at z
    cases e : PySem.W.clsIn X.K D with
    | none => rw [e] at z; cases z
    | some _ => rfl
  exact PySem.W.kia_one (PySem.W.kitx_exc hcl C.hg C.hk C.hs C.ha C.hn C.ht C.hm) I.kIn J k (fun z => nomatch z) fun tk => ⟨.bl b, H, I.kept (t' := tk) fun _ _ z => z, rfl, q⟩
/-- e.f, e a kept exception -/
def tXv (K : PySem.W.Frag) (f : Str) (te : TE) : TE := fun σ H Q => te σ H fun x H1 => ∃ (a C dd : Addr) (fs : List (Str × V)) (v : V), x = .ref a ∧ H1 a = some (XV a (.ref C) (some dd)) ∧ H1 dd = some (.xd fs) ∧ XfC K C ∧ PySem.W.findIn K (.ref C) f = some none ∧
  fs.lookup f = some v ∧ Q v H1
theorem pe_xv {e : Expr} {te : TE} {pos : Pos} {n : Str} (he : PE X e te) (hb : attributeBase e n X.env (eval e X.env) = eval e X.env := by rfl) : PE X (.Attribute e n pos) (tXv X.K n te) := by
  constructor
  intro pins s σ H Q I h
  refine attr_of hb (thn (he.run pins s σ H _ I h) ?_)
  rintro u s1 ⟨x, H1, I1, rx, a, C, dd, fs, v, rfl, e, ed, T, hno, l, q⟩
  obtain rfl : u = Value.ref a := rx
  obtain ⟨oe, od, mA, ho, J, hns, hr⟩ := xv_inst I1.hok e ed
  obtain ⟨od', ho', hl⟩ := lookIn_ns hns
  rw [ho] at ho'
  cases ho'
  obtain ⟨u, hu, ru⟩ := RelO.some_of (v := v) (o := mA n) (by rw [← l]; exact hr n)
  exact HandSPX.exc_get I1.kIn J T.ga T.gg T.exC (PySem.W.findObj_own T.hdC hno rfl (by rw [hl, hu])) (handed_of ru) ⟨v, H1, I1.tok _, ru, q⟩
end
end Pf

set_option Elab.async false
set_option linter.all false
set_option maxRecDepth 100000
set_option maxHeartbeats 2000000
/-! Defs that may raise, where no repr is under way; lambdas without parameters that may raise, handed to a def that calls them in a try. -/
namespace Pf
open PySem PySem.Spec PyProof.Rows L2 LamX NdefX
/-- the promise of a def that may raise, kept wherever no repr is under way -/
structure FnX (P : Program) (w : World) (K : PySem.W.Frag) (mg : Str → Option Value) (base : Heap) (k : Nat) (f : Addr) (fd : FuncData) (ps : List Str) (sp : Sp) : Prop where
  size : ∀ vs H Q E, sp vs H Q E → vs.length = ps.length
  goes : ∀ (A : Around) (outer : List Env) (s : Shared) (H : Hp) (args : Args) (us : List Value) (vs : List V) (Q : VK) (E : XK), A.guards = some [] → Room k A →
    Env0 P w K mg base A outer s H → BindsTo s fd args (ps.zip us) → Vals vs us → sp vs H Q E → codeAny (model P w) A (.call (.ref f) args) (CR (L2.CX P w) outer P w H s Q E) s
section
variable {base : Heap} {P : Program} {w : World} {mg : Str → Option Value} {K : PySem.W.Frag}
/-- .. by its body -/
theorem okX {x qual : Str} {st : Stmt} {f : Addr} {fd : FuncData} {N ps : List Str} {k : Nat} {sp : Sp} (F : Fun K x qual st f fd) (S : FnScope N ps (defScope st)) (hlen : ∀ vs H Q E, sp vs H Q E → vs.length = ps.length)
    (bd : ∀ (cdv : Value) (A : Around) (outer : List Env) (s : Shared) (H : Hp) (vs : List V) (Q : VK) (E : XK), (A.deeper (envOfC qual (defScope st) s.heap.objs.size f cdv)).guards = some [] →
      Room k (A.deeper (envOfC qual (defScope st) s.heap.objs.size f cdv)) → sp vs H Q E →
      ∃ t, PSs (cxOf (L2.CX P w) P w K mg base N qual (defScope st) f cdv A outer s H E) (defBody st) t ∧ t { nx := fun _ H' => Q .non H', rt := Q } (start N vs) H) : FnX P w K mg base (k + 1) f fd ps sp := by
  obtain ⟨_, _, _, _, _, _, cdv, _, _, hfd, lk, hcd⟩ := F.ex
  subst hfd
  constructor
  · exact hlen
  intro A outer s H args us vs Q E hg hr env0 bind rel promise
  have vsl := hlen vs H Q E promise
  have kin : K.In s.heap := env0.mod.kin.keeps (fun b o z => (env0.bs b o z).1)
  have nolim : s.heap.NoLimit := env0.mod.nolimit.keeps (fun b o z => (env0.bs b o z).1)
  obtain ⟨t, der, rd⟩ := bd cdv A outer s H vs Q E (guards_deeper hg) (hr.deeper _) promise
  refine codeAny_call_function hr.depth (kin _ _ lk) rfl S.co S.gen rfl (PySem.W.codeRec_of kin hcd) (bind _ _ _ _ (wpAny_newFunctionEnv_cells S.kind ?kinds ?enter))
  case kinds =>
    rintro ⟨n, v⟩ hy
    cases S.par n (List.of_mem_zip hy).1 with
    | inl q => exact Or.inl q
    | inr q => exact Or.inr (And.intro q (PySem.W.cellsFrom_some _ _ _ (Or.inl q)))
  case enter =>
    intro env he s1 inside
    subst he
    constructor
    · exact nolim.keeps inside.toInCall.keep
    refine codeAny_func (wpAny_mono (der.run [] s1 (start N vs) H _ (inv_start S hr.hd env0 vsl rel inside) rd) ?_ (fun e s' z => z))
    intro flow s' z
    match flow, z with
    | .ret u, ⟨v, σ', H', J, rv, q⟩ => exact ⟨v, H', J.os, J.bare, J.base, J.hok, rv, q⟩
    | .next, ⟨σ', H', J, q⟩ => exact ⟨V.non, H', J.os, J.bare, J.base, J.hok, rfl, q⟩
    | .brk, ⟨_, _, _, q⟩ => exact q.elim
    | .cont, ⟨_, _, _, q⟩ => exact q.elim
end
/-- a def that may raise, called by its name: n values, then keywords -/
structure CalX (P : Program) (w : World) (K : PySem.W.Frag) (mg : Str → Option Value) (base : Heap) (k : Nat) (x : Str) (n : Nat) (ks : List Str) (gV : List V → List V → List V) (sp : Sp) : Prop where
  is : ∃ (f : Addr) (fd : FuncData) (ps : List Str) (g : List Value → List Value → List Value), FnX P w K mg base k f fd ps sp ∧ mg x = some (.ref f) ∧ PySem.W.keepIn K (.ref f) = true ∧ KBn K fd ps n ks g gV
def tCX (n m : Nat) (sp : Sp) (gV : List V → List V → List V) (E : XK) (t tk : TA) : TE := fun σ H Q => t σ H fun vs H1 => tk σ H1 fun zs H2 => vs.length = n ∧ zs.length = m ∧ sp (gV vs zs) H2 Q E
section
variable {X : Cx} {j k n : Nat} {x : Str} {sp : Sp} {p pos : Pos} {e : Expr} {es : List Expr} {t tk : TA} {kws : List Keyword} {ks : List Str} {gV : List V → List V → List V} {E : XK} {W : WX}
theorem goesX {pins : List (Addr × Obj)} {σ : L2.St} {H : Hp} {s : Shared} {Q : VK} {f : Addr} {fd : FuncData} {ps : List Str} {args : Args} {us : List Value} {vs : List V} (F : FnX X.prog X.w X.K X.mg X.base k f fd ps sp) (hg : X.A.guards = some []) (hr : Room k X.A)
    (tk : Takes X W) (hW : ∀ cls d σ H, E cls d H → W cls d σ H) (I : Inv X pins σ H s) (b : BindsTo s fd args (ps.zip us)) (r : Vals vs us) (h : sp vs H Q E) : wpAny (model X.prog X.w) X.A (call (.ref f) args.pos args.kw) (EP X pins σ Q) X.xe s := by
  refine wpAny_call (codeAny_mono (F.goes X.A X.stack s H args us vs Q E hg hr I.env0 b r h) ?_)
  intro res s' z
  match res, z with
  | .error e, z => exact passes_call tk hW pins σ H s e s' I z
  | .ok (.ret u), z => exact I.after z
  | .ok .next, z => exact z.elim
  | .ok .brk, z => exact z.elim
  | .ok .cont, z => exact z.elim
theorem pe_cX (c : CalX X.prog X.w X.K X.mg X.base k x n ks gV sp) (hr : X.A.guards = some [] ∧ Room j X.A) (hk : k ≤ j) (gl : Gl X x) (tk' : Takes X W) (hW : ∀ cls d σ H, E cls d H → W cls d σ H) (ha : PA X (e :: es) t) (hkw : PK X kws tk)
    (hall : (backToKw pos (keywordEach kws X.env)).all (·.1.isSome) = true := by rfl) (hks : (backToKw pos (keywordEach kws X.env)).filterMap (·.1) = ks := by rfl)
    (hdb : (x == ("__debug__" : Str)) = false := by decide) (he : starEach (e :: es) X.env = (false, eval e X.env) :: starEach es X.env := by rfl)
    (hpl : ((backTo pos (starEach (e :: es) X.env)).any (·.1) || (backToKw pos (keywordEach kws X.env)).any (·.1.isNone)) = false := by rfl) :
    PE X (.Call (.Name x p) (e :: es) kws pos) (tCX n ks.length sp gV E t tk) := by
  obtain ⟨f, fd, ps, g, F, hm, kp, b⟩ := c.is
  constructor
  intro pins s σ H Q I h
  refine wpAny_Call_Name_kw (ld_glob I gl hm ?_ hdb)
  refine PySem.W.callWith_KW (h₀ := X.base) I.ok.mod.kin kp hall (thn (ha.run pos pins s σ H _ I h) ?_) hpl he
  rintro us s1 ⟨vs, H1, I1, r, q⟩
  refine thn (hkw.run pos pins s1 σ H1 _ I1 q) ?_
  rintro ws s2 ⟨zs, H2, I2, rz, l1, l2, q2⟩
  refine ⟨I2.kIn, ?_⟩
  rw [hks]
  exact goesX (args := ⟨us, ks.zip ws⟩) F hr.1 (hr.2.mono hk) tk' hW I2 (b.to s2 us ws I2.kIn (r.length.symm.trans l1) (rz.length.symm.trans l2)) (b.rel r rz) q2
theorem pe_cX0 (c : CalX X.prog X.w X.K X.mg X.base k x 0 ks gV sp) (hr : X.A.guards = some [] ∧ Room j X.A) (hk : k ≤ j) (gl : Gl X x) (tk' : Takes X W) (hW : ∀ cls d σ H, E cls d H → W cls d σ H) (hkw : PK X kws tk)
    (h1 : (backToKw pos (keywordEach kws X.env)).all (·.1.isSome) = true := by rfl) (h2 : (backToKw pos (keywordEach kws X.env)).filterMap (·.1) = ks := by rfl)
    (hdb : (x == ("__debug__" : Str)) = false := by decide) (hpl : ((backTo pos (starEach [] X.env)).any (·.1) || (backToKw pos (keywordEach kws X.env)).any (·.1.isNone)) = false := by rfl) :
    PE X (.Call (.Name x p) [] kws pos) (tCX 0 ks.length sp gV E tNil tk) := by
  obtain ⟨f, fd, ps, g, F, hm, kp, b⟩ := c.is
  constructor
  intro pins s σ H Q I h
  refine wpAny_Call_Name_kw (ld_glob I gl hm ?_ hdb)
  refine PySem.W.callWith_KW0 (h₀ := X.base) I.ok.mod.kin kp h1 ?_ hpl
  refine thn (hkw.run pos pins s σ H _ I h) ?_
  rintro ws s1 ⟨zs, H1, I1, r, _, hz, q⟩
  refine ⟨I1.kIn, ?_⟩
  rw [h2]
  exact goesX (args := ⟨[], ks.zip ws⟩) F hr.1 (hr.2.mono hk) tk' hW I1 (b.to s1 [] ws I1.kIn rfl (r.length.symm.trans hz)) (b.rel (vs := []) .nil r) q
/-- such a def called with values alone -/
theorem pe_cXp (c : CalX X.prog X.w X.K X.mg X.base k x n [] gV sp) (hr : X.A.guards = some [] ∧ Room j X.A) (hk : k ≤ j) (gl : Gl X x) (tk' : Takes X W) (hW : ∀ cls d σ H, E cls d H → W cls d σ H) (ha : PA X (e :: es) t)
    (hdb : (x == ("__debug__" : Str)) = false := by decide) (he : starEach (e :: es) X.env = (false, eval e X.env) :: starEach es X.env := by rfl) (hpl : (backTo pos (starEach es X.env)).any (·.1) = false := by rfl) :
    PE X (.Call (.Name x p) (e :: es) [] pos) (tCX n 0 sp gV E t tNil) := by
  obtain ⟨f, fd, ps, g, F, hm, kp, b⟩ := c.is
  constructor
  intro pins s σ H Q I h
  refine Call_ (ld_glob I gl hm ?_ hdb)
  refine PySem.W.callWith_K (h₀ := X.base) I.ok.mod.kin kp ?_ he hpl
  refine thn (ha.run pos pins s σ H _ I h) ?_
  rintro us s1 ⟨vs, H1, I1, r, l1, _, q⟩
  refine ⟨I1.kIn, ?_⟩
  exact goesX (args := ⟨us, []⟩) F hr.1 (hr.2.mono hk) tk' hW I1 (b.to s1 us [] I1.kIn (r.length.symm.trans l1) rfl) (b.rel r (zs := []) .nil) q
end
/-- from the state s on the function at f, called without arguments, does what tl says -/
structure AnsX (P : Program) (w : World) (K : PySem.W.Frag) (mg : Str → Option Value) (base : Heap) (k : Nat) (f : Addr) (tl : XK → Hp → VK → Prop) (s : Shared) (H : Hp) (fs : List Addr) : Prop where
  here : ∀ (s1 : Shared) (H1 : Hp), Un fs [] H H1 s.heap s1.heap → PySem.W.FnAt f s1.heap
  run : ∀ (A : Around) (outer : List Env) (s1 : Shared) (H1 : Hp) (Q : VK) (E : XK), A.guards = some [] → Room k A → Env0 P w K mg base A outer s1 H1 → Un fs [] H H1 s.heap s1.heap → L2.Same H H1 → tl E H1 Q →
    codeAny (model P w) A (.call (.ref f) ⟨[], []⟩) (CR (L2.CX P w) outer P w H1 s1 Q E) s1
section
variable {X : Cx} {i j k : Nat} {x : Str} {f : Addr} {tl : XK → Hp → VK → Prop} {p1 p2 : Pos} {W : WX}
def tAnsX (i : Nat) (f : Addr) (tl : XK → Hp → VK → Prop) (H0 : Hp) (W : WX) : TE := fun σ H Q => σ[i]? = some (some (.ref f)) ∧ L2.Same H0 H ∧ ∃ E : XK, (∀ cls d σ' H', E cls d H' → W cls d σ' H') ∧ tl E H Q
theorem pe_ansX (C : AnsX X.prog X.w X.K X.mg X.base k f tl X.s_0 X.H_0 X.fs) (hex : X.ex = []) (hr : X.A.guards = some [] ∧ Room j X.A) (hk : k ≤ j) (tk : Takes X W) (hN : X.N[i]? = some x) (hv : Vis X.env.scope x)
    (hd : (x == ("__debug__" : Str)) = false := by decide) (hcd : (x == ("__classdict__" : Str)) = false := by decide) :
    PE X (.Call (.Name x p1) [] [] p2) (tAnsX i f tl X.H_0 W) := by
  constructor
  rintro pins s σ H Q I ⟨hs, sm, E, hW, h⟩
  refine wpAny_Call_Name_kw (thn ((pe_var (pos := p1) hN hv hd hcd).run pins s σ H (fun v H1 => v = .ref f ∧ H1 = H) I ⟨.ref f, hs, rfl, rfl⟩) ?_)
  rintro u s1 ⟨v, H1, I1, r1, rfl, rfl⟩
  obtain rfl : u = Value.ref f := r1
  have un1 : Un X.fs [] X.H_0 H1 X.s_0.heap s1.heap := hex ▸ I1.base
  refine PySem.W.callWith_F0 (C.here _ _ un1) ?_
  refine wpAny_call (codeAny_mono (C.run X.A X.stack s1 H1 Q E hr.1 (hr.2.mono hk) I1.env0 un1 sm h) ?_)
  intro res s' z
  match res, z with
  | .error e, z => exact passes_call tk (fun cls d σ' H' q => hW cls d σ' H' q) pins σ H1 s1 e s' I1 z
  | .ok (.ret u), z => exact I1.after z
  | .ok .next, z => exact z.elim
  | .ok .brk, z => exact z.elim
  | .ok .cont, z => exact z.elim
end
/-- what the body of a lambda without parameters does with what it captured -/
theorem ansX_made {X : Cx} {pins : List (Addr × Obj)} {σ : L2.St} {H : Hp} {s : Shared} {f c' : Addr} {pm ctv : Value} {params : Arguments} {body : Expr} {scope : Scope} {k : Nat} {N fr : List Str} {js : List Nat} {tb : XK → TE}
    (I : Inv X pins σ H s) (hf : s.heap.get? f = some (PySem.W.kla_obj "<lambda>" (X.env.qual ++ "<lambda>") params body scope (cloFrom X.env.cells scope.names []) pm c' ctv)) (hfn : H f = none) (hfr : f ∉ frs X.stack)
    (hco : H c' = some (CodeO c' (X.env.qual ++ "<lambda>"))) (S : NScope N [] fr scope) (cp : Caps X (cloFrom X.env.cells scope.names []) fr js)
    (hbind : bindArgs (PySem.W.kla_fn "<lambda>" (X.env.qual ++ "<lambda>") params body scope (cloFrom X.env.cells scope.names []) pm (.ref c') ctv) ⟨[], []⟩ = pure [])
    (hbody : ∀ (A : Around) (outer : List Env) (s : Shared) (H : Hp) (E : XK), (A.deeper (envF ⟨"<lambda>", X.env.qual ++ "<lambda>", params, [], scope, cloFrom X.env.cells scope.names [], c'⟩ f s.heap.objs.size)).guards = some [] →
      Room k (A.deeper (envF ⟨"<lambda>", X.env.qual ++ "<lambda>", params, [], scope, cloFrom X.env.cells scope.names [], c'⟩ f s.heap.objs.size)) →
      PE (ncx (L2.CX X.prog X.w) X.prog X.w X.K X.mg X.base N ⟨"<lambda>", X.env.qual ++ "<lambda>", params, [], scope, cloFrom X.env.cells scope.names [], c'⟩ f A outer s H E) body (tb E)) :
    AnsX X.prog X.w X.K X.mg X.base (k + 1) f (fun E H1 R => tb E (startF N [] (js.map (slotAt σ))) H1 R) s H (frs X.stack) := by
  have keep : ∀ (s1 : Shared) (H1 : Hp), Un (frs X.stack) [] H H1 s.heap s1.heap → s1.heap.get? f = some (PySem.W.kla_obj "<lambda>" (X.env.qual ++ "<lambda>") params body scope (cloFrom X.env.cells scope.names []) pm c' ctv) := fun s1 H1 un => un.keep f _ hf hfn hfr (fun z => nomatch z)
  refine ⟨fun s1 H1 un => ⟨_, _, _, _, keep s1 H1 un⟩, fun A outer s1 H1 Q E hg hr e0 un sm q => ?_⟩
  have lim : s1.heap.NoLimit := e0.mod.nolimit.keeps fun b o e => (e0.bs b o e).1
  have C0 := cells_of I cp
  have C1 : CellsAt (cloFrom X.env.cells scope.names []) fr (js.map (slotAt σ)) s1.heap H1 := by
    have cell : ∀ {c : Addr} {v : Option Value}, H c = none → s.heap.IsCell c v → H1 c = none ∧ s1.heap.IsCell c v := fun {c v} nn ⟨o, ho, hd⟩ => by
      obtain ⟨sl, z⟩ := un.any ho nn (fun z => nomatch z)
      exact ⟨un.free c o ho nn (fun z => nomatch z), _, z, hd⟩
    refine ⟨C0.len, fun y c e => ?_, C0.inj, fun i y e => ?_⟩
    · obtain ⟨z1, v, z2⟩ := C0.all y c e
      exact ⟨(cell z1 z2).1, v, (cell z1 z2).2⟩
    · obtain ⟨c, z1, z2⟩ := C0.has i y e
      refine ⟨c, z1, fun v hv => ?_⟩
      obtain ⟨w', r, z3⟩ := z2 v hv
      exact ⟨w', r, (cell (C0.all y c z1).1 z3).2⟩
  obtain ⟨⟨oc, vs, t, hoc, hdc, hvc⟩, _, _⟩ := e0.hok c' _ (sm _ _ hco)
  refine PySem.W.kla_callFunE hr.depth (keep s1 H1 un) rfl S.co S.gen rfl ⟨c', oc, vs, t, rfl, hoc, hdc, hvc⟩ ?_
  rw [hbind]
  refine wpAny_pure (wpAny_newFunctionEnv S.nocell (fun y hy => ?_) (fun h₁ hns hsb => ⟨lim.fresh _ hsb, ?_⟩) S.kind)
  · exact absurd hy (fun z => nomatch z)
  have kp : ∀ b o, s1.heap.get? b = some o → h₁.get? b = some o := fun b o e => hsb.extBut b o (Nat.ne_of_lt (Heap.lt_size e)) (Heap.get?_push_of_some _ e)
  have J := inv_startN (CX := L2.CX X.prog X.w) (F := ⟨"<lambda>", X.env.qual ++ "<lambda>", params, [], scope, cloFrom X.env.cells scope.names [], c'⟩) (f := f) (E := E) (us := []) (vs := []) (tk := s1.toks + 0) S hr.hd e0 rfl .nil C1 hns kp
  show codeAny _ _ (.expr body (envF ⟨"<lambda>", X.env.qual ++ "<lambda>", params, [], scope, cloFrom X.env.cells scope.names [], c'⟩ f s1.heap.objs.size)) _ _
  refine PySem.W.kla_codeExpr (wpAny_mono ((hbody A outer s1 H1 E (guards_deeper hg) (hr.deeper _)).run [] _ _ H1 Q J q) ?_ (fun e s' hq => hq))
  rintro v s' ⟨w', H', J', rv, q'⟩
  exact ⟨w', H', J'.os, J'.bare, J'.base, J'.hok, rv, q'⟩
/-- a def of one parameter that calls it -/
structure CalM (P : Program) (w : World) (K : PySem.W.Frag) (mg : Str → Option Value) (base : Heap) (j m : Nat) (x : Str) (sp : (XK → Hp → VK → Prop) → Hp → VK → Prop) : Prop where
  is : ∃ (g : Addr) (fd : FuncData) (ps : List Str), mg x = some (.ref g) ∧ PySem.W.keepIn K (.ref g) = true ∧ Binds K fd ps [] ∧ ps.length = 1 ∧
    ∀ (A : Around) (outer : List Env) (s : Shared) (H : Hp) (args : Args) (f : Addr) (tl : XK → Hp → VK → Prop) (Q : VK), A.guards = some [] → Room m A → Env0 P w K mg base A outer s H → BindsTo s fd args (ps.zip [.ref f]) →
      AnsX P w K mg base j f tl s H (frs outer) → sp tl H Q → codeAny (model P w) A (.call (.ref g) args) (CR CX0 outer P w H s Q noErr) s
/-- g(lambda: body) -/
def tLamM (T : List (Addr × Str)) (sp : (XK → Hp → VK → Prop) → Hp → VK → Prop) (N : List Str) (js : List Nat) (tb : XK → TE) : TE := fun σ H Q => Tabs T H ∧ ∀ H2, ExtN H H2 → Tabs T H2 → sp (fun E H3 R => tb E (startF N [] (js.map (slotAt σ))) H3 R) H2 Q
theorem pe_lamM {X : Cx} {T : List (Addr × Str)} {x : Str} {c P : Addr} {i k m : Nat} {params : Arguments} {body : Expr} {scope : Scope} {N fr : List Str} {js : List Nat} {sp : (XK → Hp → VK → Prop) → Hp → VK → Prop} {tb : XK → TE} {pp lpos pos : Pos}
    (G : CalM X.prog X.w X.K X.mg X.base (k + 1) m x sp) (hr : X.A.guards = some [] ∧ Room i X.A) (hm : m ≤ i) (gl : Gl X x)
    (TB : TabB X.base X.mg c P) (hcode : X.env.code = .ref c) (hmT : (P, X.env.qual ++ "<lambda>") ∈ T) (hu : ∀ p ∈ T, p.1 = P → p.2 = X.env.qual ++ "<lambda>") (S : NScope N [] fr scope)
    (hfree : ∀ z ∈ scope.names, z.2 = .free → X.env.scope.names.lookup z.1 = some .cell ∨ X.env.scope.names.lookup z.1 = some .free) (hfr : ∀ z ∈ fr, (z, NameKind.free) ∈ scope.names) (hjs : js.map (fun j => X.N[j]?) = fr.map some)
    (hdef : defaultsOf params X.env = ([], []))
    (hbind : ∀ (q : Str) (cl : List (Str × Addr)) (pm cv ctv : Value), bindArgs (PySem.W.kla_fn "<lambda>" q params body scope cl pm cv ctv) ⟨[], []⟩ = pure [])
    (hbody : ∀ (nm ql : Str) (cl : List (Str × Addr)) (c' f : Addr) (A : Around) (outer : List Env) (s : Shared) (H : Hp) (E : XK), ((A.deeper (envF ⟨nm, ql, params, [], scope, cl, c'⟩ f s.heap.objs.size)).guards = some [] ∧ Room k (A.deeper (envF ⟨nm, ql, params, [], scope, cl, c'⟩ f s.heap.objs.size))) →
      PE (ncx (L2.CX X.prog X.w) X.prog X.w X.K X.mg X.base N ⟨nm, ql, params, [], scope, cl, c'⟩ f A outer s H E) body (tb E))
    (hdb : (x == ("__debug__" : Str)) = false := by decide) :
    PE X (.Call (.Name x pp) [.Lambda params body scope lpos] [] pos) (tLamM T sp N js tb) := by
  obtain ⟨g, fd, ps, hmx, kp, b, l1, run⟩ := G.is
  constructor
  rintro pins s σ H Q I ⟨T1, q⟩
  refine Call_ (ld_glob I gl hmx ?_ hdb)
  refine PySem.W.callWith_K (h₀ := X.base) I.ok.mod.kin kp ?_ (by rfl) (by rfl)
  show wpAny _ _ (spliced ((false, eval (.Lambda params body scope lpos) X.env) :: backTo pos (starEach [] X.env))) _ _ s
  have has : ∀ z ∈ scope.names, z.2 = .free → ∃ c, X.env.cells.lookup z.1 = some c := fun z hz e => (hfree z hz e).elim (fun k => I.ok.has _ (.inl k)) fun k => I.ok.has _ (.inr k)
  refine Calls.spliced_cons (lam_make2 I TB hcode hmT hu T1 hdef has fun f c' pm ctv H2 s2 I2 eN T2 hf hfn hfr' hco => Calls.spliced_nil ⟨I2.kIn, ?_⟩)
  have q2 := q H2 eN T2
  have ans := ansX_made (tb := tb) I2 hf hfn hfr' hco S (Caps.made I2.ok hfree hfr hjs) (hbind _ _ _ _ _) (fun A outer s H E h1 h2 => hbody _ _ _ _ f A outer s H E ⟨h1, h2⟩)
  have bb := b s2 [.ref f] I2.kIn (by rw [List.append_nil]; exact l1.symm)
  rw [List.append_nil] at bb
  refine wpAny_call (codeAny_mono (run X.A X.stack s2 H2 _ f _ Q hr.1 (hr.2.mono hm) I2.env0 bb ans q2) ?_)
  intro res s' z
  match res, z with
  | .error e, z => exact pass0 pins σ H2 s2 e s' I2 z
  | .ok (.ret u), z => exact I2.after z
  | .ok .next, z => exact z.elim
  | .ok .brk, z => exact z.elim
  | .ok .cont, z => exact z.elim
/-- such a def by its body -/
theorem calM_of {P : Program} {w : World} {K : PySem.W.Frag} {mg : Str → Option Value} {base : Heap} {x qual : Str} {st : Stmt} {f : Addr} {fd : FuncData} {N : List Str} {a : Str} {j k : Nat} {sp : (XK → Hp → VK → Prop) → Hp → VK → Prop} (F : Fun K x qual st f fd) (S : FnScope N [a] (defScope st)) (hm : mg x = some (.ref f)) (hb : Binds K fd [a] [])
    (bd : ∀ (cdv : Value) (A : Around) (outer : List Env) (s : Shared) (H : Hp) (h : Addr) (tl : XK → Hp → VK → Prop) (Q : VK), (A.deeper (envOfC qual (defScope st) s.heap.objs.size f cdv)).guards = some [] →
      Room k (A.deeper (envOfC qual (defScope st) s.heap.objs.size f cdv)) → AnsX P w K mg base j h tl s H (frs outer) → sp tl H Q →
      ∃ t, PSs (cxOf CX0 P w K mg base N qual (defScope st) f cdv A outer s H noErr).nox (defBody st) t ∧ t { nx := fun _ H' => Q .non H', rt := Q } (start N [.ref h]) H) : CalM P w K mg base j (k + 1) x sp := by
  refine ⟨f, fd, [a], hm, F.kp, hb, rfl, ?_⟩
  obtain ⟨_, _, _, _, _, _, cdv, _, _, hfd, lk, hcd⟩ := F.ex
  subst hfd
  intro A outer s H args h tl Q hg hr e0 bind ans promise
  refine run_ofS (CX := CX0) (E := noErr) (us := [.ref h]) (vs := [.ref h]) lk hcd S hr e0 bind (.cons rfl .nil) rfl fun hr' => ?_
  obtain ⟨t, der, rd⟩ := bd cdv A outer s H h tl Q (guards_deeper hg) hr' ans promise
  exact ⟨t, der.nox, rd⟩
end Pf

set_option Elab.async false
set_option linter.all false
set_option maxRecDepth 100000
set_option maxHeartbeats 2000000
/-! Instances of the program's own classes, made where no repr is under way. -/
namespace Pf
open PySem PySem.Spec PyProof.Rows L2
structure MakG (P : Program) (w : World) (K : PySem.W.Frag) (mg : Str → Option Value) (base : Heap) (k : Nat) (x : Str) (C : Addr) (sp : Sp) : Prop where
  is : ∃ (f : Addr) (fd : FuncData) (ps : List Str), Mk K C f ∧ FnG P w K mg base k f fd ps sp ∧ mg x = some (.ref C) ∧ Binds K fd ps []
def tMkG (C : Addr) (sp : Sp) (t : TA) : TE := fun σ H Q => t σ H fun vs H1 => ∀ x dx, H1 x = none → H1 dx = none → dx ≠ x → sp (.ref x :: vs) (upd (upd H1 dx (.own x)) x (.ins C dx [])) (fun v H2 => v = .non ∧ Q (.ref x) H2) noErr
section
variable {X : Cx} {j k : Nat} {x : Str} {C : Addr} {sp : Sp} {p pos : Pos} {e : Expr} {es : List Expr} {t : TA}
theorem run_makeG {pins : List (Addr × Obj)} {σ : L2.St} {H : Hp} {s : Shared} {Q : VK} {f : Addr} {fd : FuncData} {ps : List Str} {us : List Value} {vs : List V} (M : Mk X.K C f) (F : FnG X.prog X.w X.K X.mg X.base k f fd ps sp) (hg : X.A.guards = some []) (hr : Room (k + 1) X.A)
    (hb : Binds X.K fd ps []) (I : Inv X pins σ H s) (r : Vals vs us)
    (h : ∀ x dx, H x = none → H dx = none → dx ≠ x → sp (.ref x :: vs) (upd (upd H dx (.own x)) x (.ins C dx [])) (fun v H2 => v = .non ∧ Q (.ref x) H2) noErr) :
    wpAny (model X.prog X.w) X.A (call (.ref C) us) (EP X pins σ Q) X.xe s := by
  have want := h (s.heap.objs.size + 1) s.heap.objs.size (I.hok.fresh (Nat.le_succ _)) (I.hok.fresh (Nat.le_refl _)) (Nat.ne_of_lt (Nat.lt_succ_self _))
  have made := Inv.made (C := C) I
  have rel : Vals (V.ref (s.heap.objs.size + 1) :: vs) (Value.ref (s.heap.objs.size + 1) :: us) := .cons rfl r
  have len : (Value.ref (s.heap.objs.size + 1) :: us).length = ps.length := rel.length.symm.trans (F.size _ _ _ _ want)
  have bb := hb _ (Value.ref (s.heap.objs.size + 1) :: us) made.kIn (by rw [List.append_nil]; exact len)
  rw [List.append_nil] at bb
  refine wpAny_call (make_map (f := f) I.kIn M.makes M.init (beq_iff_eq.mp M.fn) (codeAny_mono (F.goes _ X.stack _ _ ⟨Value.ref (s.heap.objs.size + 1) :: us, []⟩ _ _ _ noErr hg (hr.make C us []) (made.env0.make C us []) bb rel want) ?_))
  intro res s' z
  match res, z with
  | .error e, z => exact pass0 pins σ _ _ e s' made z
  | .ok (.ret u), z =>
    obtain ⟨v, H', I3, rv, ev, q3⟩ := made.after z
    subst ev
    exact ⟨rv, ⟨V.ref (s.heap.objs.size + 1), H', I3, rfl, q3⟩⟩
  | .ok .next, z => exact z.elim
  | .ok .brk, z => exact z.elim
  | .ok .cont, z => exact z.elim
theorem pe_mkG (c : MakG X.prog X.w X.K X.mg X.base k x C sp) (hr : X.A.guards = some [] ∧ Room j X.A) (hk : k + 1 ≤ j) (gl : Gl X x) (ha : PA X (e :: es) t)
    (hdb : (x == ("__debug__" : Str)) = false := by decide) (he : starEach (e :: es) X.env = (false, eval e X.env) :: starEach es X.env := by rfl) (hpl : (backTo pos (starEach es X.env)).any (·.1) = false := by rfl) :
    PE X (.Call (.Name x p) (e :: es) [] pos) (tMkG C sp t) := by
  obtain ⟨f, fd, ps, M, F, hm, b⟩ := c.is
  constructor
  intro pins s σ H Q I h
  refine wpAny_Call_Name_kw (ld_glob I gl hm ?_ hdb)
  refine PySem.W.callWith_K (h₀ := X.base) I.ok.mod.kin M.kp (thn (ha.run pos pins s σ H _ I h) ?_) he hpl
  rintro us s1 ⟨vs, H1, I1, r, q⟩
  exact ⟨I1.kIn, run_makeG M F hr.1 (hr.2.mono hk) b I1 r q⟩
end
/-- the promise of an error's __init__ that keeps its value under the name f -/
def sp_err (C : Addr) (f : Str) : Sp := fun vs H Q _ => ∃ (a : Addr) (v : V), vs = [.ref a, v] ∧ H a = some (exo a C none) ∧ ∀ dx, H dx = none → dx ≠ a → Q .non (upd (upd H dx (exd dx [(f, v)])) a (exo a C (some dx)))
/-- such an own error -/
structure ErrC (P : Program) (w : World) (K : PySem.W.Frag) (mg : Str → Option Value) (base : Heap) (x f : Str) (C : Addr) : Prop where
  oex : OexC K C
  named : mg x = some (.ref C)
  is : ∃ (fI : Addr) (fd : FuncData), PySem.W.findIn K (.ref C) "__init__" = some (some (.ref fI)) ∧ PySem.W.typeIn K (.ref fI) = some (.type "function") ∧ Binds K fd ["self", f] [] ∧ FnOk P w K mg base CX0 1 fI fd ["self", f] (sp_err C f)
theorem pmk_err {X : Cx} {j : Nat} {x f : Str} {C : Addr} {e : Expr} {te : TE} {p pos : Pos} (G : ErrC X.prog X.w X.K X.mg X.base x f C) (hr : X.A.guards = some [] ∧ Room j X.A) (hj : 2 ≤ j) (gl : Gl X x) (he : PE X e te)
    (hdb : (x == ("__debug__" : Str)) = false := by decide) (hs : starEach [e] X.env = (false, eval e X.env) :: starEach [] X.env := by rfl) : PMk X (.Call (.Name x p) [e] [] pos) (tMkO C (sp_err C f) [] (tCons te tNil)) := by
  obtain ⟨fI, fd, iC, tI, b, F⟩ := G.is
  exact pmk_oex (X := X) (p := p) (pos := pos) (dvs := []) G.oex iC tI F (hr.2.mono hj) b .nil pass0 gl G.named (pa_cons he pa_nil hs) hdb hs (by rfl)
/-- what it asks -/
theorem err_want {C : Addr} {f : Str} {v : V} {H1 : Hp} {Q : XK} (q : ∀ d, H1 d = none → Q (.ref C) (some d) (upd H1 d (.xd [(f, v)]))) : [v].length ≤ 1000 ∧ ∀ a, H1 a = none → sp_err C f (.ref a :: ([v] ++ [])) (upd H1 a (exo a C none))
    (fun u H2 => u = .non ∧ ∃ (d : Addr) (fs : List (Str × V)), H2 a = some (exo a C (some d)) ∧ H2 d = some (exd d fs) ∧ H1 d = none ∧ Q (.ref C) (some d) (upd (del H2 a) d (.xd fs))) (fun _ _ _ => False) := by
  refine ⟨(show 1 ≤ 1000 by decide), fun a ha => ⟨a, v, rfl, upd_same, fun dx hd ne => ?_⟩⟩
  rw [upd_ne ne] at hd
  refine ⟨rfl, dx, _, upd_same, by rw [upd_ne ne]; exact upd_same, hd, ?_⟩
  have e : upd (del (upd (upd (upd H1 a (exo a C none)) dx (exd dx [(f, v)])) a (exo a C (some dx))) a) dx (.xd [(f, v)]) = upd H1 dx (.xd [(f, v)]) := by
    funext b
    by_cases h1 : b = dx
    · rw [h1, upd_same, upd_same]
    · rw [upd_ne h1, upd_ne h1]
      by_cases h2 : b = a
      · rw [h2, del_same, ha]
      · rw [del_ne h2, upd_ne h2, upd_ne h1, upd_ne h2]
  rw [e]
  exact q dx hd
end Pf

set_option Elab.async false
set_option linter.all false
set_option maxRecDepth 100000
/-! The text of the program and of the law. -/
namespace Pf
open PySem PySem.Spec PyProof.Rows L2
def topS (i : Nat) : Stmt := PySem.Challenge.pw_piecefacts_k05_conditions_of_any_values.main.body.getD i (.Pass ⟨0, 0, 0, 0⟩)
def clsB : Stmt → List Stmt
  | .ClassDef (body := b) .. => b
  | _ => []
structure Txt (mg : Str → Option Value) : Prop where
  b_ValueError : mg "ValueError" = none
  b_abs : mg "abs" = none
  b_all : mg "all" = none
  b_any : mg "any" = none
  b_bool : mg "bool" = none
  b_int : mg "int" = none
  b_isinstance : mg "isinstance" = none
  b_len : mg "len" = none
  b_max : mg "max" = none
  b_min : mg "min" = none
  b_range : mg "range" = none
  b_repr : mg "repr" = none
  b_sorted : mg "sorted" = none
  b_str : mg "str" = none
  b_tuple : mg "tuple" = none
  b_zip : mg "zip" = none
  g_LOWEST : ∃ u, mg "LOWEST" = some u ∧ RelV (.int (-9999)) u
  g_HIGHEST : ∃ u, mg "HIGHEST" = some u ∧ RelV (.int (9999)) u
  g_MOST_LETTERS : ∃ u, mg "MOST_LETTERS" = some u ∧ RelV (.int (8)) u
  g_LETTERS : ∃ u, mg "LETTERS" = some u ∧ RelV (.str "abcdefghijklmnopqrstuvwxyz") u
  g_MOST_COLUMNS : ∃ u, mg "MOST_COLUMNS" = some u ∧ RelV (.int (8)) u
  g_MOST_PAIRS : ∃ u, mg "MOST_PAIRS" = some u ∧ RelV (.int (4)) u
structure ClsA where
  FactsError : Addr
  BadColumn : Addr
  BadRanges : Addr
  BadFlag : Addr
  NoColumn : Addr
  Twice : Addr
  TooMany : Addr
  Question : Addr
  Condition : Addr
  Joined : Addr
structure TxtC (mg : Str → Option Value) (cl : ClsA) : Prop where
  g_FactsError : mg "FactsError" = some (.ref cl.FactsError)
  g_BadColumn : mg "BadColumn" = some (.ref cl.BadColumn)
  g_BadRanges : mg "BadRanges" = some (.ref cl.BadRanges)
  g_BadFlag : mg "BadFlag" = some (.ref cl.BadFlag)
  g_NoColumn : mg "NoColumn" = some (.ref cl.NoColumn)
  g_Twice : mg "Twice" = some (.ref cl.Twice)
  g_TooMany : mg "TooMany" = some (.ref cl.TooMany)
  g_Question : mg "Question" = some (.ref cl.Question)
  g_Condition : mg "Condition" = some (.ref cl.Condition)
  g_Joined : mg "Joined" = some (.ref cl.Joined)
end Pf

set_option Elab.async false
set_option linter.all false
set_option maxRecDepth 100000
/-! The law's own draws. -/
namespace Pf
open PySem PySem.Spec PyProof.Rows L2
local macro_rules | `(tactic| walk_at "rd") => `(tactic| simp only [tC1, tCK, tB, rNe, rEq, tChain, gTupV, gCons, gNil, Nat.sub_self, Nat.reduceSub, List.replicate_zero, List.replicate_succ, tTest, tIfS, tIf, tNot, tAnd, tOr, tAndV, tOrV, tNotV, tDrop, tNext, rIxV, rIxP,
  gSub, rSetL, tSl, tPart, tNoPart, rSl1, tAsg2, ipI, tDNewK, tBM, rAppend, wipe, rAllB, rAnyB, iTup, iList, RZ.iZipA, iRng1, iRng2, tYes, upd_same, at0, at1, at2, at20, at21, ixN30, ixN32, HO.lst.injEq, HO.tup.injEq, Nat.reduceAdd, tSeq, tAsg, tPar, tAug, tOp, tVar, tC, tCB, tCons, tNil, rI, rI0, rU, tUn, gName, tRet, tLst, tLstM, tTup, L2.start, List.map_cons, List.map_nil, List.length_cons, List.length_nil, List.replicate, List.cons_append,
  List.nil_append, List.set_cons_zero, List.set_cons_succ, List.getElem?_cons_zero, List.getElem?_cons_succ, Option.some.injEq, V.int.injEq, V.ref.injEq, V.bl.injEq, V.str.injEq, List.cons.injEq, exists_eq_left', exists_eq_left, exists_and_left, exists_and_right, and_true, true_and, reduceCtorEq, false_and,
  exists_false, or_false, false_or, exists_const, exists_eq, exists_eq', Bool.not_true, Bool.not_false, Bool.false_eq_true, if_true, if_false, ite_true, ite_false])
abbrev s__law_pot : Stmt := topS 50
theorem sc__law_pot : FnScope ["_law_script", "_law_k", "_law_cell", "_law_own"] ["_law_script", "_law_k"] (defScope s__law_pot) := ⟨rfl, rfl, rfl, by decide +kernel, rfl, by decide +kernel, by decide +kernel⟩
abbrev s__law_draw : Stmt := topS 51
theorem sc__law_draw : FnScope ["_law_pot_here", "_law_many", "_law_digit", "_law_prime", "_law_made"] ["_law_pot_here", "_law_many"] (defScope s__law_draw) := ⟨rfl, rfl, rfl, by decide +kernel, rfl, by decide +kernel, by decide +kernel⟩
abbrev s__law_any : Stmt := topS 52
theorem sc__law_any : FnScope ["_law_pot_here", "_law_items"] ["_law_pot_here", "_law_items"] (defScope s__law_any) := ⟨rfl, rfl, rfl, by decide +kernel, rfl, by decide +kernel, by decide +kernel⟩
section
variable {base : Heap} {P : Program} {w : World} {mg : Str → Option Value} {K : PySem.W.Frag}
def sp_pot (K : PySem.W.Frag) : Sp := fun vs H Q _ => ∃ (a : Addr) (ns : List Int) (k : Nat), vs = [.ref a, .int k] ∧ SqL K H a (ns.map V.int) ∧ ns.length ≤ 63 ∧ k ≤ 63 ∧ ∀ H' p, Same H H' → H p = none → Pot H' p 0 → Q (.ref p) H'
theorem ok_pot {f : Addr} {fd : FuncData} (F : Fun K "_law_pot" "_law_pot" s__law_pot f fd) (T : Txt mg) : FnG P w K mg base 1 f fd ["_law_script", "_law_k"] (sp_pot K) := by
  refine okG F sc__law_pot (fun vs H Q E h => ?_) (fun cdv A outer s H vs Q E hg hr h => ?_)
  · obtain ⟨a, ns, k, rfl, _⟩ := h
    rfl
  · obtain ⟨a, ns, k, rfl, hS, hlen, hk, q⟩ := h
    replace hr := And.intro hg hr
    refine ⟨_, (pss_cons (ps_set (i := 2) sc__law_pot.nd rfl (Or.inl rfl) (pe_ifExp (pt_cmpR op_lt (pv 1) (pe_callB call_len_seq (by rfl) T.b_len (by decide +kernel) (pa_cons (pv 0) pa_nil)) (nomark _)) (pe_ix ix_list (pv 0) (pv 1) (fun _ _ => rfl)) (pe_op op_add (pe_op op_mul pe_int (pv 1)) pe_int)))
        (pss_cons (ps_set (i := 3) sc__law_pot.nd rfl (Or.inl rfl) (pe_op op_mul (pe_op op_mod (pe_callTy call_intI (by rfl) T.b_int (by decide +kernel) (pa_cons (pe_callB call_abs (by rfl) T.b_abs (by decide +kernel) (pa_cons (pv 2) pa_nil)) pa_nil)) (pe_op op_powW (pe_op op_powW pe_int pe_int) pe_int)) (pe_callTy call_int1 (by rfl) T.b_int (by decide +kernel) (pa_cons (pe_cmpR op_ge (pe_callB call_abs (by rfl) T.b_abs (by decide +kernel) (pa_cons (pv 2) pa_nil)) (pe_op op_powW pe_int pe_int) (nomark _)) pa_nil))))
        (pss_one (ps_ret (pe_lst (pa_cons (pv 3) (pa_cons (pe_op op_mod (pe_callTy call_intI (by rfl) T.b_int (by decide +kernel) (pa_cons (pe_op op_add (pe_op op_add (pe_op op_mul (pe_op op_mod (pe_callTy call_intI (by rfl) T.b_int (by decide +kernel) (pa_cons (pv 2) pa_nil)) pe_int) pe_int) (pe_op op_mul (pe_op op_mul pe_int (pv 1)) (pv 1))) pe_int) pa_nil)) pe_int) (pa_cons pe_int pa_nil)))))))), ?_⟩
    refine ⟨.int k, rfl, .ref a, rfl, a, _, rfl, .inl hS, (k : Int), _, rfl, rfl, _, rfl, ?_⟩
    refine ite2 (fun e => ?_) (fun e => ?_)
    · have hlt : k < ns.length := by
        have := of_decide_eq_true e
        rw [List.length_map] at this
        omega
      refine ⟨.ref a, rfl, .int k, rfl, a, _, (k : Int), _, rfl, rfl, hS, cell_at hlt, ?_⟩
      generalize ns[k] = c
      walk_at "rd"
      refine ⟨pot_c1, pot_c2, pot_c3, pot_c4, pot_c5, by decide, pot_c6 c, pot_c7 9241 (by decide) hk, pot_c8 hk, by decide, by decide, fun p hp => q _ p (new_same hp) hp (pot_made H p _ _ _)⟩
    · walk_at "rd"
      refine ⟨pot_c7 11 (by decide) hk, pot_c1, pot_c2, pot_c3, pot_c4, pot_c5, by decide, pot_c6 _, pot_c7 9241 (by decide) hk, pot_c8 hk, by decide, by decide, fun p hp => q _ p (new_same hp) hp (pot_made H p _ _ _)⟩
def sp_draw : Sp := fun vs H Q _ => ∃ (p : Addr) (many : Int) (m : Nat), vs = [.ref p, .int many] ∧ Pot H p m ∧ m < 1000000 ∧ 1 ≤ many ∧ many.natAbs < 2 ^ 200 ∧
  ∀ (H' : Hp) (r : Int), Kp p H H' → Pot H' p (m + 1) → 0 ≤ r → r < many → Q (.int r) H'
theorem ok_draw {f : Addr} {fd : FuncData} (F : Fun K "_law_draw" "_law_draw" s__law_draw f fd) (T : Txt mg) : FnG P w K mg base 1 f fd ["_law_pot_here", "_law_many"] sp_draw := by
  refine okG F sc__law_draw (fun vs H Q E h => ?_) (fun cdv A outer s H vs Q E hg hr h => ?_)
  · obtain ⟨p, many, m, rfl, _⟩ := h
    rfl
  · obtain ⟨p, many, m, rfl, ⟨a, b, c, e, h1, h2, h3, h4, h5, h6⟩, hm, hn, hn2, q⟩ := h
    replace hr := And.intro hg hr
    refine ⟨_, (pss_cons (ps_if (pt_cmpR op_gt (pe_ix ix_v (pv 0) pe_int (fun _ _ => rfl)) pe_int (nomark _)) (pss_cons (ps_set (i := 2) sc__law_draw.nd rfl (Or.inl rfl) (pe_op op_mod (pe_callTy call_intI (by rfl) T.b_int (by decide +kernel) (pa_cons (pe_ix ix_v (pv 0) pe_int (fun _ _ => rfl)) pa_nil)) (pv 1)))
        (pss_cons (ps_asg (pe_op op_fdivW (pe_ix ix_v (pv 0) pe_int (fun _ _ => rfl)) (pv 1)) (pg_sub (pv 0) pe_int set_list))
        (pss_one (ps_ret (pv 2))))) pss_nil)
        (pss_cons (ps_asg (pe_op op_add (pe_ix ix_v (pv 0) pe_int (fun _ _ => rfl)) pe_int) (pg_sub (pv 0) pe_int set_list))
        (pss_cons (ps_set (i := 3) sc__law_draw.nd rfl (Or.inl rfl) (pe_ix ix_v (pe_lst (pa_cons pe_int (pa_cons pe_int (pa_cons pe_int (pa_cons pe_int (pa_cons pe_int pa_nil)))))) (pe_op op_mod (pe_callTy call_intI (by rfl) T.b_int (by decide +kernel) (pa_cons (pe_ix ix_v (pv 0) pe_int (fun _ _ => rfl)) pa_nil)) pe_int) (fun _ _ => rfl)))
        (pss_cons (ps_set (i := 4) sc__law_draw.nd rfl (Or.inl rfl) (pe_op op_mod (pe_callTy call_intI (by rfl) T.b_int (by decide +kernel) (pa_cons (pe_op op_pow (pe_op op_add (pe_op op_add (pe_ix ix_v (pv 0) pe_int (fun _ _ => rfl)) (pe_op op_mul (pe_op op_mul pe_int (pe_ix ix_v (pv 0) pe_int (fun _ _ => rfl))) (pe_ix ix_v (pv 0) pe_int (fun _ _ => rfl)))) pe_int) pe_int) pa_nil)) (pv 3)))
        (pss_cons (ps_set (i := 4) sc__law_draw.nd rfl (Or.inl rfl) (pe_op op_mod (pe_callTy call_intI (by rfl) T.b_int (by decide +kernel) (pa_cons (pe_op op_mul (pv 4) (pe_op op_add (pe_op op_mod (pe_callTy call_intI (by rfl) T.b_int (by decide +kernel) (pa_cons (pv 4) pa_nil)) pe_int) (pe_op op_mul pe_int (pe_ix ix_v (pv 0) pe_int (fun _ _ => rfl))))) pa_nil)) pe_int))
        (pss_one (ps_ret (pe_op op_mod (pe_callTy call_intI (by rfl) T.b_int (by decide +kernel) (pa_cons (pe_op op_fdivW (pv 4) pe_int) pa_nil)) (pv 1))))))))), ?_⟩
    walk_at "rd"
    simp only [e, Option.some.injEq, HO.lst.injEq, exists_eq_left']
    walk_at "rd"
    refine ite2 (fun g => ?_) (fun g => ?_)
    · refine ⟨hn, wide_div hn hn2 (by decide) (by decide), q _ _ Kp.put ⟨_, _, _, upd_same, Int.ediv_nonneg h1 (by omega), ?_, h3, h4, h5, by omega⟩ (Int.emod_nonneg _ (by omega)) (Int.emod_lt_of_pos _ hn)⟩
      have le : a / many ≤ a := Int.ediv_le_self _ h1
      have ge := Int.ediv_nonneg h1 (show 0 ≤ many by omega)
      exact wide_le ge le h2
    · refine ⟨by decide, fun r nr => ?_⟩
      have npr : p ≠ r := fun z => by
        rw [z, upd_same] at nr
        cases nr
      have e2 : ∀ o, upd (upd H p (HO.lst [V.int a, V.int b, V.int (c + 1)])) r o p = some (.lst [V.int a, V.int b, V.int (c + 1)]) := fun o => by rw [upd_ne npr, upd_same]
      simp only [e2, Option.some.injEq, HO.lst.injEq, exists_eq_left']
      walk_at "rd"
      obtain ⟨d, d0, d1, ed⟩ := five (Int.emod_nonneg (c + 1) (by decide : (5 : Int) ≠ 0)) (Int.emod_lt_of_pos (c + 1) (by decide))
      simp only [ed, Option.some.injEq, exists_eq_left', e2, HO.lst.injEq]
      walk_at "rd"
      have t0 : 0 ≤ c + 1 := by omega
      have t1 : c + 1 ≤ 1000000 := by omega
      have t2 : (c + 1) * (c + 1) ≤ 1000000 * 1000000 := Int.mul_le_mul t1 t1 t0 (by decide)
      have t3 : 0 ≤ (c + 1) * (c + 1) := Int.mul_nonneg t0 t0
      have t4 : 99991 * (c + 1) * (c + 1) = 99991 * ((c + 1) * (c + 1)) := Int.mul_assoc _ _ _
      have m0 := Int.emod_nonneg ((b + 99991 * (c + 1) * (c + 1) + 61) ^ Int.toNat 3) (show d ≠ 0 by omega)
      have m1 := Int.emod_lt_of_pos ((b + 99991 * (c + 1) * (c + 1) + 61) ^ Int.toNat 3) d0
      refine ⟨by decide, Or.inl (by decide), Or.inr (by omega), ⟨by decide, by decide, by omega⟩, d0, by decide, Or.inl (by decide), Or.inl (by omega), by decide, ⟨by decide, by decide⟩, hn,
        q _ _ (Kp.trans Kp.put (Kp.new nr)) ⟨_, _, _, e2 _, h1, h2, h3, h4, t0, by omega⟩ (Int.emod_nonneg _ (by omega)) (Int.emod_lt_of_pos _ hn)⟩
def sp_any : Sp := fun vs H Q _ => ∃ (p l : Addr) (xs : List V) (m : Nat), vs = [.ref p, .ref l] ∧ Pot H p m ∧ m < 1000000 ∧ l ≠ p ∧ H l = some (.lst xs) ∧ xs ≠ [] ∧ xs.length < 2 ^ 20 ∧
  ∀ (H' : Hp) (x : V), Kp p H H' → Pot H' p (m + 1) → x ∈ xs → Q x H'
theorem ok_any {f : Addr} {fd : FuncData} (F : Fun K "_law_any" "_law_any" s__law_any f fd) (T : Txt mg) (C__law_draw : Cal P w K mg base 1 "_law_draw" sp_draw) : FnG P w K mg base 2 f fd ["_law_pot_here", "_law_items"] sp_any := by
  refine okG F sc__law_any (fun vs H Q E h => ?_) (fun cdv A outer s H vs Q E hg hr h => ?_)
  · obtain ⟨p, l, xs, m, rfl, _⟩ := h
    rfl
  · obtain ⟨p, l, xs, m, rfl, hp, hm, nlp, e, ne, hz, q⟩ := h
    replace hr := And.intro hg hr
    refine ⟨_, (pss_one (ps_ret (pe_ix ix_v (pv 1) (pe_c C__law_draw hr (by decide) (by rfl) (pa_cons (pv 0) (pa_cons (pe_callB call_lenL (by rfl) T.b_len (by decide +kernel) (pa_cons (pv 1) pa_nil)) pa_nil))) (fun _ _ => rfl)))), ?_⟩
    walk_at "rd"
    simp only [e, Option.some.injEq, HO.lst.injEq, exists_eq_left']
    have pos : 0 < xs.length := List.length_pos_iff.mpr ne
    refine ⟨p, _, m, rfl, hp, hm, by omega, Nat.lt_of_lt_of_le (show ((xs.length : Nat) : Int).natAbs < 2 ^ 20 by simpa using hz) (by decide), fun H1 r k1 p1 r0 r1 => ?_⟩
    have e1 := k1 _ _ nlp e
    obtain ⟨x, hx, mx⟩ := atI_some r0 r1
    exact ⟨_, r, rfl, e1, x, hx, q _ _ k1 p1 mx⟩
end
end Pf

set_option Elab.async false
set_option linter.all false
set_option maxRecDepth 100000
/-! is_number, is_pair, is_ranges, holds -/
namespace Pf
open PySem PySem.Spec PyProof.Rows L2
local macro_rules | `(tactic| walk_at "rd") => `(tactic| simp only [tC1, tCK, tB, rNe, rEq, tChain, gTupV, gCons, gNil, Nat.sub_self, Nat.reduceSub, List.replicate_zero, List.replicate_succ, tTest, tIfS, tIf, tNot, tAnd, tOr, tAndV, tOrV, tNotV, tDrop, tNext, rIxV, rIxP,
  gSub, rSetL, tSl, tPart, tNoPart, rSl1, tAsg2, ipI, tDNewK, tBM, rAppend, wipe, rAllB, rAnyB, iTup, iList, RZ.iZipA, iRng1, iRng2, tYes, upd_same, at0, at1, at2, at20, at21, ixN30, ixN32, HO.lst.injEq, HO.tup.injEq, Nat.reduceAdd, tSeq, tAsg, tPar, tAug, tOp, tVar, tC, tCB, tCons, tNil, rI, rI0, rU, tUn, gName, tRet, tLst, tLstM, tTup, L2.start, List.map_cons, List.map_nil, List.length_cons, List.length_nil, List.replicate, List.cons_append,
  List.nil_append, List.set_cons_zero, List.set_cons_succ, List.getElem?_cons_zero, List.getElem?_cons_succ, Option.some.injEq, V.int.injEq, V.ref.injEq, V.bl.injEq, V.str.injEq, List.cons.injEq, exists_eq_left', exists_eq_left, exists_and_left, exists_and_right, and_true, true_and, reduceCtorEq, false_and,
  exists_false, or_false, false_or, exists_const, exists_eq, exists_eq', Bool.not_true, Bool.not_false, Bool.false_eq_true, if_true, if_false, ite_true, ite_false])
abbrev s_is_number : Stmt := topS 13
theorem sc_is_number : FnScope ["value"] ["value"] (defScope s_is_number) := ⟨rfl, rfl, rfl, by decide +kernel, rfl, by decide +kernel, by decide +kernel⟩
abbrev s_is_ranges : Stmt := topS 17
theorem sc_is_ranges : FnScope ["value", "before", "after", "pair"] ["value"] (defScope s_is_ranges) := ⟨rfl, rfl, rfl, by decide +kernel, rfl, by decide +kernel, by decide +kernel⟩
abbrev s_holds : Stmt := topS 18
theorem sc_holds : FnScope ["ranges", "number", "first", "behind", "middle"] ["ranges", "number"] (defScope s_holds) := ⟨rfl, rfl, rfl, by decide +kernel, rfl, by decide +kernel, by decide +kernel⟩
abbrev s_is_pair : Stmt := topS 22
theorem sc_is_pair : FnScope ["value", "low", "high"] ["value"] (defScope s_is_pair) := ⟨rfl, rfl, rfl, by decide +kernel, rfl, by decide +kernel, by decide +kernel⟩
section
variable {base : Heap} {P : Program} {w : World} {mg : Str → Option Value} {K : PySem.W.Frag}
def sp_number : Sp := fun vs H Q _ => ∃ v d b p, vs = [v] ∧ Dq b p H v d ∧ Q (.bl (isNumD d)) H
theorem ok_number {f : Addr} {fd : FuncData} (F : Fun K "is_number" "is_number" s_is_number f fd) (T : Txt mg) : FnG P w K mg base 1 f fd ["value"] sp_number := by
  refine okG F sc_is_number (fun vs H Q E h => ?_) (fun cdv A outer s H vs Q E hg hr h => ?_)
  · obtain ⟨v, d, b, p, rfl, _⟩ := h
    rfl
  · obtain ⟨v, d, b, p, rfl, hd, q⟩ := h
    refine ⟨_, (pss_one (ps_ret (pe_and (pe_callB call_isiInt (by rfl) T.b_isinstance (by decide +kernel) (pa_cons (pv 0) (pa_cons (pe_bltn (v := .ty "int") (u := .type "int") (by rfl) T.b_int (by decide +kernel) rfl) pa_nil))) (pe_one (pe_not (pe_callB call_isiBool (by rfl) T.b_isinstance (by decide +kernel) (pa_cons (pv 0) (pa_cons (pe_bltn (v := .ty "bool") (u := .type "bool") (by rfl) T.b_bool (by decide +kernel) rfl) pa_nil)))))))), ?_⟩
    walk_at "rd"
    refine ⟨d, ⟨b, p, hd⟩, ?_⟩
    cases d with
    | int i => exact ⟨.int i, ⟨b, p, hd⟩, q⟩
    | bool i => exact ⟨.bool i, ⟨b, p, hd⟩, q⟩
    | none => exact q
    | str x => exact q
    | list x => exact q
    | tuple x => exact q
    | dict x => exact q
def sp_pair : Sp := fun vs H Q _ => ∃ v d b p, vs = [v] ∧ Dq b p H v d ∧ Q (.bl (isPairD d)) H
theorem ok_pair {f : Addr} {fd : FuncData} (F : Fun K "is_pair" "is_pair" s_is_pair f fd) (T : Txt mg) (C_is_number : Cal P w K mg base 1 "is_number" sp_number) : FnG P w K mg base 2 f fd ["value"] sp_pair := by
  refine okG F sc_is_pair (fun vs H Q E h => ?_) (fun cdv A outer s H vs Q E hg hr h => ?_)
  · obtain ⟨v, d, b, p, rfl, _⟩ := h
    rfl
  · obtain ⟨v, d, b, p, rfl, hd, q⟩ := h
    replace hr := And.intro hg hr
    refine ⟨_, (pss_cons (ps_if (PW.pt (pw_or (pt_not (pt_val (pe_callB call_isiTup (by rfl) T.b_isinstance (by decide +kernel) (pa_cons (pv 0) (pa_cons (pe_bltn (v := .ty "tuple") (u := .type "tuple") (by rfl) T.b_tuple (by decide +kernel) rfl) pa_nil))))) (pw_or1 (pt_cmpR op_ne (pe_callB call_lenT (by rfl) T.b_len (by decide +kernel) (pa_cons (pv 0) pa_nil)) pe_int (nomark _))))) (pss_one (ps_ret pe_bl)) pss_nil)
        (pss_cons (ps_asg (pv 0) (pg_tupV (n := 2) rfl (pgs_cons (pg_name (i := 1) sc_is_pair.nd rfl (Or.inl rfl)) (pgs_cons (pg_name (i := 2) sc_is_pair.nd rfl (Or.inl rfl)) pgs_nil))))
        (pss_one (ps_ret (pe_and (pe_c C_is_number hr (by decide) (by rfl) (pa_cons (pv 1) pa_nil)) (pe_and (pe_c C_is_number hr (by decide) (by rfl) (pa_cons (pv 2) pa_nil)) (pe_one (pe_cmpR op_le (pv 1) (pv 2) (nomark _))))))))), ?_⟩
    walk_at "rd"
    refine ⟨d, ⟨b, p, hd⟩, ?_⟩
    cases hd with
    | @tup a xs ds g ne ha =>
      show if (!true) = true then _ else _
      refine iteF ?_
      simp only [g, Option.some.injEq, HO.tup.injEq, exists_eq_left', V.ref.injEq]
      refine ⟨rfl, ?_⟩
      have none2 : ds.length ≠ 2 → isPairD (.tuple ds) = false := fun n => by
        unfold isPairD
        rw [pairOf_len n]
      rw [← ha.length] at none2
      by_cases n : xs.length = 2
      · rw [if_neg (by simp [n])]
        cases ha with
        | nil => cases n
        | cons h1 t1 =>
          cases t1 with
          | nil => cases n
          | cons h2 t2 =>
            cases t2 with
            | cons _ _ => simp at n
            | nil =>
              rename_i v d w e
              refine ⟨rfl, v, [w], rfl, w, [], rfl, rfl, v, d, b, p, rfl, h1, _, rfl, ?_⟩
              cases h1 with
              | int i =>
                refine iteT ⟨w, e, b, p, rfl, h2, _, rfl, ?_⟩
                cases h2 with
                | int j => exact iteT ⟨i, rfl, j, rfl, q⟩
                | non => exact iteF q
                | bl x => exact iteF q
                | str x => exact iteF q
                | lst g _ _ _ => exact iteF q
                | tup g _ _ => exact iteF q
                | dc0 _ g _ => exact iteF q
                | dc1 _ g _ _ => exact iteF q
              | non => exact iteF q
              | bl x => exact iteF q
              | str x => exact iteF q
              | lst g _ _ _ => exact iteF q
              | tup g _ _ => exact iteF q
              | dc0 _ g _ => exact iteF q
              | dc1 _ g _ _ => exact iteF q
      · rw [none2 n] at q
        rw [if_pos (by rw [decide_eq_false (fun z => n (by omega))]; rfl)]
        exact q
    | non => exact q
    | bl x => exact q
    | int x => exact q
    | str x => exact q
    | lst g _ _ _ => exact q
    | dc0 _ g _ => exact q
    | dc1 _ g _ _ => exact q
def sp_ranges : Sp := fun vs H Q _ => ∃ v d b p, vs = [v] ∧ Dq b p H v d ∧ (∀ ds, d = .tuple ds → ds.length ≤ 1000) ∧ ∀ H', Same H H' → Q (.bl (isRangesD d)) H'
theorem ok_ranges {f : Addr} {fd : FuncData} (F : Fun K "is_ranges" "is_ranges" s_is_ranges f fd) (T : Txt mg) (C_is_pair : Cal P w K mg base 2 "is_pair" sp_pair) : FnG P w K mg base 3 f fd ["value"] sp_ranges := by
  refine okG F sc_is_ranges (fun vs H Q E h => ?_) (fun cdv A outer s H vs Q E hg hr h => ?_)
  · obtain ⟨v, d, b, p, rfl, _⟩ := h
    rfl
  · obtain ⟨v, d, b, p, rfl, hd, hz, q⟩ := h
    replace hr := And.intro hg hr
    refine ⟨_, (pss_cons (ps_if (PW.pt (pw_or (pt_not (pt_val (pe_callB call_isiTup (by rfl) T.b_isinstance (by decide +kernel) (pa_cons (pv 0) (pa_cons (pe_bltn (v := .ty "tuple") (u := .type "tuple") (by rfl) T.b_tuple (by decide +kernel) rfl) pa_nil))))) (pw_or1 (pt_not (pt_val (pe_callB (call_allB rfl) (by rfl) T.b_all (by decide +kernel) (pa_cons (pe_lc (own := [("pair", 3)]) (g := gName 3) (tt := tYes) rfl sc_is_ranges.nd (pi_tup (pv 0)) (blkOk_by (own := [("pair", 3)]) (N := ["value", "before", "after", "pair"]) (sc := defScope s_is_ranges) (by decide +kernel)) (fun _ _ _ _ _ => (pg_name (i := 3) sc_is_ranges.nd rfl (Or.inl rfl))) (fun _ _ _ _ _ => pts_nil) (fun _ _ _ _ _ => (pe_c C_is_pair hr (by decide) (by rfl) (pa_cons (pv 3) pa_nil)))) pa_nil))))))) (pss_one (ps_ret pe_bl)) pss_nil)
        (pss_one (ps_ret (pe_callB (call_allB rfl) (by rfl) T.b_all (by decide +kernel) (pa_cons (pe_lc (own := [("before", 1), ("after", 2)]) (g := gTupV 2 (gCons (gName 1) (gCons (gName 2) gNil))) (tt := tYes) rfl sc_is_ranges.nd (RZ.pi_zipA (by rfl) T.b_zip (pa_cons (pv 0) (pa_cons (pe_slice sl_one (pv 0) (po_some pe_int) po_none) pa_nil))) (blkOk_by (own := [("before", 1), ("after", 2)]) (N := ["value", "before", "after", "pair"]) (sc := defScope s_is_ranges) (by decide +kernel)) (fun _ _ _ _ _ => (pg_tupV (n := 2) rfl (pgs_cons (pg_name (i := 1) sc_is_ranges.nd rfl (Or.inl rfl)) (pgs_cons (pg_name (i := 2) sc_is_ranges.nd rfl (Or.inl rfl)) pgs_nil)))) (fun _ _ _ _ _ => pts_nil) (fun _ _ _ _ _ => (pe_cmpR op_le (pe_op op_add (pe_ix ix_t (pv 1) pe_int (fun _ _ => rfl)) pe_int) (pe_ix ix_t (pv 2) pe_int (fun _ _ => rfl)) (nomark _)))) pa_nil))))), ?_⟩
    walk_at "rd"
    refine ⟨d, ⟨b, p, hd⟩, ?_⟩
    cases hd with
    | @tup a xs ds g ne ha =>
      refine iteF ?_
      have len := ha.length
      have small := hz ds rfl
      have big : (1000 : Nat) ≤ sizeLine := by decide
      refine ⟨.ref a, rfl, a, rfl, ⟨xs, SqT.of g⟩, lcMap (walk_tup (xs := xs)) ((ds.map isPairD).map V.bl) (by simp [len]) (by omega) (fun H1 s1 => s1.seqT (SqT.of g)) (fun i x H1 H2 y R ho s1 hy kk => ?_) (fun H1 D hD s1 hL => ?_)⟩
      · obtain ⟨rfl, hx⟩ := hy
        obtain ⟨e, he, hq⟩ := ha.get hx
        have ey : y = .bl (isPairD e) := by
          rw [List.getElem?_map, List.getElem?_map, he] at ho
          exact (Option.some.inj ho).symm
        subst ey
        refine ⟨rfl, ?_⟩
        walk_at "rd"
        exact ⟨x, e, b, p, rfl, hq.same s1, kk _ (Same.refl _)⟩
      · refine ⟨D, rfl, ds.map isPairD, hL, ?_⟩
        have ea : (ds.map isPairD).all id = ds.all isPairD := by rw [List.all_map]; rfl
        rw [ea]
        have ha1 := ha.same s1
        cases al : ds.all isPairD with
        | false =>
          have er : isRangesD (.tuple ds) = false := by show (ds.all isPairD && (stepsD ds).all id) = _; rw [al]; rfl
          rw [er] at q
          exact iteT (q _ s1)
        | true =>
          have er : isRangesD (.tuple ds) = (stepsD ds).all id := by show (ds.all isPairD && (stepsD ds).all id) = _; rw [al]; rfl
          rw [er] at q
          refine iteF ?_
          refine ⟨.ref a, rfl, .ref a, rfl, 1, rfl, a, xs, rfl, rfl, rfl, s1 _ _ g, fun H2 c s2 hc => ?_⟩
          refine ⟨a, c, xs, xs.drop 1, rfl, .inr ⟨SqT.of (s2 _ _ (s1 _ _ g)), SqT.of hc, lcMap (walk_zipT rfl) ((stepsD ds).map V.bl) (by rw [List.length_map, stepsD_len, List.length_drop, len]; omega) (by rw [List.length_drop]; omega)
            (fun H3 s3 => ⟨s3.seqT (SqT.of (s2 _ _ (s1 _ _ g))), s3.seqT (SqT.of hc)⟩) (fun i x H3 H4 y R ho s3 hy kk => ?_) (fun H3 D2 hD2 s3 hL2 => ?_)⟩⟩
          · obtain ⟨T2, x1, x2, rfl, nT, rfl, g1, g2⟩ := hy
            have g2' : xs[i + 1]? = some x2 := by
              replace g2 : (xs.drop 1)[i]? = some x2 := g2
              rw [List.getElem?_drop, Nat.add_comm] at g2
              exact g2
            obtain ⟨d1, e1, q1⟩ := ha1.get g1
            obtain ⟨d2, e2, q2⟩ := ha1.get g2'
            obtain ⟨l1, h1, p1⟩ := pair_of al e1
            obtain ⟨l2, h2, p2⟩ := pair_of al e2
            have s23 : Same H1 (upd H3 T2 (.tup [x1, x2])) := (s2.trans s3).trans (new_same nT)
            obtain ⟨t1, rfl, u1⟩ := (q1.same s23).pair p1
            obtain ⟨t2, rfl, u2⟩ := (q2.same s23).pair p2
            have ey : y = .bl (decide (h1 + 2 ≤ l2)) := by
              rw [List.getElem?_map, stepsD_get e1 e2] at ho
              have := (Option.some.inj ho).symm
              rw [this]
              unfold stepD
              rw [p1, p2]
            subst ey
            refine ⟨T2, _, rfl, upd_same, rfl, _, _, rfl, _, _, rfl, rfl, rfl, ?_⟩
            walk_at "rd"
            simp only [u1, u2, Option.some.injEq, HO.tup.injEq, exists_eq_left']
            walk_at "rd"
            exact kk _ (new_same nT)
          · exact ⟨D2, rfl, stepsD ds, hL2, q _ ((s1.trans s2).trans s3)⟩
    | non => exact iteT (q _ (Same.refl _))
    | bl x => exact iteT (q _ (Same.refl _))
    | int x => exact iteT (q _ (Same.refl _))
    | str x => exact iteT (q _ (Same.refl _))
    | lst g _ _ _ => exact iteT (q _ (Same.refl _))
    | dc0 _ g _ => exact iteT (q _ (Same.refl _))
    | dc1 _ g _ _ => exact iteT (q _ (Same.refl _))
def sp_holds : Sp := fun vs H Q _ => ∃ (a : Addr) (ds : List PyData) (b : Bool) (p : Addr) (n : Int), vs = [.ref a, .int n] ∧ Dq b p H (.ref a) (.tuple ds) ∧ isRangesD (.tuple ds) = true ∧ ds.length ≤ 1000 ∧ Q (.bl (inD ds n)) H
theorem ok_holds {f : Addr} {fd : FuncData} (F : Fun K "holds" "holds" s_holds f fd) (T : Txt mg) : FnG P w K mg base 1 f fd ["ranges", "number"] sp_holds := by
  refine okG F sc_holds (fun vs H Q E h => ?_) (fun cdv A outer s H vs Q E hg hr h => ?_)
  · obtain ⟨a, ds, b, p, n, rfl, _⟩ := h
    rfl
  · obtain ⟨a, ds, b, p, n, rfl, hd, hR, hz, q⟩ := h
    have R := rgs_of hR
    refine ⟨_, (pss_cons (ps_par (i := 2) (j := 3) (by rfl) sc_holds.nd rfl rfl (by decide) rfl rfl (pa_cons pe_int (pa_cons (pe_callB call_lenT (by rfl) T.b_len (by decide +kernel) (pa_cons (pv 0) pa_nil)) pa_nil)) (by rfl))
        (pss_cons (ps_while PassesOwn.never (pt_cmpR op_lt (pv 2) (pv 3) (nomark _)) (pss_cons (ps_set (i := 4) sc_holds.nd rfl (Or.inl rfl) (pe_op op_fdivW (pe_op op_add (pv 2) (pv 3)) pe_int))
        (pss_one (ps_if (pt_cmpR op_lt (pe_ix ix_t (pe_ix ix_t (pv 0) (pv 4) (fun _ _ => rfl)) pe_int (fun _ _ => rfl)) (pv 1) (nomark _)) (pss_one (ps_set (i := 2) sc_holds.nd rfl (Or.inl rfl) (pe_op op_add (pv 4) pe_int))) (pss_one (ps_set (i := 3) sc_holds.nd rfl (Or.inl rfl) (pv 4)))))))
        (pss_one (ps_ret (pe_and (pe_cmpR op_lt (pv 2) (pe_callB call_lenT (by rfl) T.b_len (by decide +kernel) (pa_cons (pv 0) pa_nil)) (nomark _)) (pe_one (pe_cmpR op_le (pe_ix ix_t (pe_ix ix_t (pv 0) (pv 2) (fun _ _ => rfl)) pe_int (fun _ _ => rfl)) (pv 1) (nomark _)))))))), ?_⟩
    cases hd with
    | @tup a xs ds g ne ha =>
    have len := ha.length
    have item : ∀ i : Nat, i < ds.length → ∃ t, atI xs (i : Int) = some (.ref t) ∧ H t = some (.tup [.int (loD (ds.getD i .none)), .int (hiD (ds.getD i .none))]) := fun i hi => by
      have hx : xs[i]? = some xs[i] := List.getElem?_eq_getElem (by omega)
      obtain ⟨d, e1, e2⟩ := ha.get hx
      rw [getD_at hi] at e1
      cases e1
      obtain ⟨t, e3, e4⟩ := e2.pair (R.pr i hi)
      exact ⟨t, atI_nat (by rw [hx, e3]), e4⟩
    walk_at "rd"
    simp only [g, Option.some.injEq, HO.tup.injEq, exists_eq_left']
    refine ⟨_, _, ⟨rfl, rfl⟩, while_by (fun σ H' => H' = H ∧ ∃ (x y : Nat) (m : Option V), σ = [some (.ref a), some (.int n), some (.int x), some (.int y), m] ∧ x ≤ y ∧ y ≤ ds.length ∧ (∀ i, i < x → hiD (ds.getD i .none) < n) ∧ (∀ i, y ≤ i → i < ds.length → n ≤ hiD (ds.getD i .none)))
      (fun σ _ => gap σ) ⟨rfl, 0, ds.length, none, by rw [len]; rfl, Nat.zero_le _, Nat.le_refl _, fun i hi => absurd hi (Nat.not_lt_zero _), fun i h1 h2 => absurd h2 (by omega)⟩ ?_
      (fun σ H Q Q' hq ⟨v, e1, w, e2, i, j, e3, e4, k, e5, r⟩ => ⟨v, e1, w, e2, i, j, e3, e4, k, e5, hq _ _ r⟩)⟩
    rintro σ H' ⟨rfl, x, y, m, rfl, hxy, hy, b1, b2⟩
    walk_at "rd"
    by_cases lt : x < y
    · have lt' : decide ((x : Int) < (y : Int)) = true := decide_eq_true (by omega)
      rw [if_pos lt']
      have em : ((x : Int) + (y : Int)) / 2 = (((x + y) / 2 : Nat) : Int) := by omega
      rw [em]
      have hm1 : (x + y) / 2 < ds.length := by omega
      obtain ⟨t, it, et⟩ := item _ hm1
      refine ⟨⟨by decide, by decide⟩, xs, g, _, it, _, rfl, _, et, _, rfl, _, rfl, ?_⟩
      by_cases c : hiD (ds.getD ((x + y) / 2) .none) < n
      · rw [if_pos (decide_eq_true c)]
        refine ⟨⟨(x + y) / 2 + 1, y, ⟨rfl, rfl⟩, by omega, hy, fun i hi => ?_, b2⟩, ?_⟩
        · have := (R.up ((x + y) / 2) i (by omega) hm1).2
          omega
        · show (((y : Int) - (((x + y) / 2 : Nat) + 1 : Int)).toNat) < ((y : Int) - (x : Int)).toNat
          omega
      · rw [if_neg (fun z => c (of_decide_eq_true z))]
        refine ⟨⟨x, (x + y) / 2, ⟨rfl, rfl⟩, by omega, by omega, b1, fun i h1 h2 => ?_⟩, ?_⟩
        · have := (R.up i ((x + y) / 2) h1 h2).2
          omega
        · show ((((x + y) / 2 : Nat) : Int) - (x : Int)).toNat < ((y : Int) - (x : Int)).toNat
          omega
    · have lt' : ¬ decide ((x : Int) < (y : Int)) = true := fun z => lt (by have := of_decide_eq_true z; omega)
      rw [if_neg lt']
      have exy : x = y := by omega
      subst exy
      have fd := R.find (n := n) hy b1 b2
      rw [fd] at q
      simp only [g, Option.some.injEq, HO.tup.injEq, exists_eq_left']
      by_cases c : x < ds.length
      · rw [decide_eq_true c, Bool.true_and] at q
        obtain ⟨t, it, et⟩ := item _ c
        rw [if_pos (decide_eq_true (by omega))]
        refine ⟨_, it, _, rfl, _, et, _, rfl, _, rfl, q⟩
      · rw [decide_eq_false c, Bool.false_and] at q
        rw [if_neg (fun z => c (by have := of_decide_eq_true z; omega))]
        exact q
end
end Pf

set_option Elab.async false
set_option linter.all false
set_option maxRecDepth 100000
/-! Columns: is_column, the law's own look at names. -/
namespace Pf
open PySem PySem.Spec PyProof.Rows L2
local macro_rules | `(tactic| walk_at "rd") => `(tactic| simp only [tC1, tCK, tB, rNe, rEq, tChain, gTupV, gCons, gNil, Nat.sub_self, Nat.reduceSub, List.replicate_zero, List.replicate_succ, tTest, tIfS, tIf, tNot, tAnd, tOr, tAndV, tOrV, tNotV, tDrop, tNext, rIxV, rIxP,
  gSub, rSetL, tSl, tPart, tNoPart, rSl1, tAsg2, ipI, tDNewK, tBM, rAppend, wipe, rAllB, rAnyB, iTup, iList, RZ.iZipA, iRng1, iRng2, tYes, upd_same, at0, at1, at2, at20, at21, ixN30, ixN32, HO.lst.injEq, HO.tup.injEq, Nat.reduceAdd, tSeq, tAsg, tPar, tAug, tOp, tVar, tC, tCB, tCons, tNil, rI, rI0, rU, tUn, gName, tRet, tLst, tLstM, tTup, L2.start, List.map_cons, List.map_nil, List.length_cons, List.length_nil, List.replicate, List.cons_append,
  List.nil_append, List.set_cons_zero, List.set_cons_succ, List.getElem?_cons_zero, List.getElem?_cons_succ, Option.some.injEq, V.int.injEq, V.ref.injEq, V.bl.injEq, V.str.injEq, List.cons.injEq, exists_eq_left', exists_eq_left, exists_and_left, exists_and_right, and_true, true_and, reduceCtorEq, false_and,
  exists_false, or_false, false_or, exists_const, exists_eq, exists_eq', Bool.not_true, Bool.not_false, Bool.false_eq_true, if_true, if_false, ite_true, ite_false])
abbrev s_is_column : Stmt := topS 14
theorem sc_is_column : FnScope ["value"] ["value"] (defScope s_is_column) := ⟨rfl, rfl, rfl, by decide +kernel, rfl, by decide +kernel, by decide +kernel⟩
abbrev s_consists_of : Stmt := topS 15
theorem sc_consists_of : FnScope ["word", "characters", "character"] ["word", "characters"] (defScope s_consists_of) := ⟨rfl, rfl, rfl, by decide +kernel, rfl, by decide +kernel, by decide +kernel⟩
abbrev s__law_is_name : Stmt := topS 57
theorem sc__law_is_name : FnScope ["_law_thing", "_law_letter"] ["_law_thing"] (defScope s__law_is_name) := ⟨rfl, rfl, rfl, by decide +kernel, rfl, by decide +kernel, by decide +kernel⟩
def isStrD : PyData → Bool
  | .str _ => true
  | _ => false
theorem tyS {K : PySem.W.Frag} {b : Bool} {p : Addr} {H : Hp} {v : V} {d : PyData} (h : Dq b p H v d) : ∃ t, TyX K H v (.type t) ∧ kitB t "str" = some (isStrD d) := by
  cases h with
  | non => exact ⟨_, .base .non, by decide +kernel⟩
  | bl x => exact ⟨_, .base (.bl x), by show kitB "bool" "str" = some false; decide +kernel⟩
  | int x => exact ⟨_, .base (.int x), by show kitB "int" "str" = some false; decide +kernel⟩
  | str x => exact ⟨_, .base (.str x), by show kitB "str" "str" = some true; decide +kernel⟩
  | lst g _ _ _ => exact ⟨_, .base (.lst g), by show kitB "list" "str" = some false; decide +kernel⟩
  | tup g _ _ => exact ⟨_, .base (.tup g), by show kitB "tuple" "str" = some false; decide +kernel⟩
  | dc0 _ g _ => exact ⟨_, .base (.dK g), by show kitB "dict" "str" = some false; decide +kernel⟩
  | dc1 _ g _ _ => exact ⟨_, .base (.dK g), by show kitB "dict" "str" = some false; decide +kernel⟩
theorem call_isiStr {X : Cx} : CallR X (.builtin "isinstance") (fun xs H Q => ∃ v d b p, xs = [v, .ty "str"] ∧ Dq b p H v d ∧ Q (.bl (isStrD d)) H) := by
  intro pins s σ H xs us Q I r h
  obtain ⟨v, d, b, p, e, hd, q⟩ := h
  obtain ⟨t, ty, k⟩ := tyS (K := X.K) hd
  exact call_isi pins s σ H xs us Q I r ⟨v, _, _, _, _, e, .ty _, ty, kit_ty k, q⟩
def ofS (z x : Str) : Bool := x.cps.toList.all fun c => decide (c ∈ z.cps.toList)
def abc : Str := "abcdefghijklmnopqrstuvwxyz"
def colS (x : Str) : Bool := (decide (1 ≤ (x.length : Int)) && decide ((x.length : Int) ≤ 8)) && (!inV (.str x) [.str "and", .str "or"] && ofS abc x)
def colD : PyData → Bool
  | .str x => colS x
  | _ => false
section
variable {base : Heap} {P : Program} {w : World} {mg : Str → Option Value} {K : PySem.W.Frag}
def sp_consists : Sp := fun vs H Q _ => ∃ (x z : Str), vs = [.str x, .str z] ∧ x.length ≤ 1000 ∧ ∀ H', Same H H' → Q (.bl (ofS z x)) H'
theorem signs {x : Str} {i : Nat} {y : V} {f : Nat → Bool} (e : ((x.cps.toList.map f).map V.bl)[i]? = some y) : ∃ c, x.cps[i]? = some c ∧ y = .bl (f c) := by
  rw [List.map_map, List.getElem?_map, Array.getElem?_toList] at e
  cases h : x.cps[i]? with
  | none =>
    rw [h] at e
    cases e
  | some c =>
    rw [h] at e
    exact ⟨c, rfl, (Option.some.inj e).symm⟩
theorem ok_consists {f : Addr} {fd : FuncData} (F : Fun K "consists_of" "consists_of" s_consists_of f fd) (T : Txt mg) : FnG P w K mg base 1 f fd ["word", "characters"] sp_consists := by
  refine okG F sc_consists_of (fun vs H Q E h => ?_) (fun cdv A outer s H vs Q E hg hr h => ?_)
  · obtain ⟨x, z, rfl, _⟩ := h
    rfl
  · obtain ⟨x, z, rfl, hz, q⟩ := h
    refine ⟨_, (pss_one (ps_ret (pe_callB (call_allB rfl) (by rfl) T.b_all (by decide +kernel) (pa_cons (pe_lc (own := [("character", 2)]) (g := gName 2) (tt := tYes) rfl sc_consists_of.nd (pi_str (pv 0)) (blkOk_by (own := [("character", 2)]) (N := ["word", "characters", "character"]) (sc := defScope s_consists_of) (by decide +kernel)) (fun _ _ _ _ _ => (pg_name (i := 2) sc_consists_of.nd rfl (Or.inl rfl))) (fun _ _ _ _ _ => pts_nil) (fun _ _ _ _ _ => (pe_cmpR op_in_sign (pv 2) (pv 1) (by rfl)))) pa_nil)))), ?_⟩
    have hz' : x.cps.size ≤ 1000 := hz
    have big : (1000 : Nat) ≤ sizeLine := by decide
    walk_at "rd"
    refine ⟨.str x, rfl, x, rfl, lcMap (walk_str (z := x)) ((x.cps.toList.map fun c => decide (c ∈ z.cps.toList)).map V.bl) (by simp) (by omega) (fun H1 s1 => trivial) (fun i v H1 H2 y R ho s1 hy kk => ?_) (fun H1 D nD s1 hL => ?_)⟩
    · obtain ⟨rfl, c, hc, rfl⟩ := hy
      obtain ⟨c', hc', rfl⟩ := signs ho
      rw [hc] at hc'
      cases hc'
      refine ⟨rfl, ?_⟩
      walk_at "rd"
      exact ⟨_, rfl, kk _ (Same.refl _)⟩
    · refine ⟨D, rfl, _, hL, ?_⟩
      have e : (x.cps.toList.map fun c => decide (c ∈ z.cps.toList)).all id = ofS z x := by rw [List.all_map]; rfl
      rw [e]
      exact q _ s1
def sp_column : Sp := fun vs H Q _ => ∃ v d b p, vs = [v] ∧ Dq b p H v d ∧ (∀ x, d = .str x → x.length ≤ 100000) ∧ ∀ H', Same H H' → Q (.bl (colD d)) H'
theorem ok_column {f : Addr} {fd : FuncData} (F : Fun K "is_column" "is_column" s_is_column f fd) (T : Txt mg) (C_consists_of : Cal P w K mg base 1 "consists_of" sp_consists) : FnG P w K mg base 2 f fd ["value"] sp_column := by
  refine okG F sc_is_column (fun vs H Q E h => ?_) (fun cdv A outer s H vs Q E hg hr h => ?_)
  · obtain ⟨v, d, b, p, rfl, _⟩ := h
    rfl
  · obtain ⟨v, d, b, p, rfl, hd, hz, q⟩ := h
    replace hr := And.intro hg hr
    refine ⟨_, (pss_cons (ps_if (PW.pt (pw_or (pt_not (pt_val (pe_callB call_isiStr (by rfl) T.b_isinstance (by decide +kernel) (pa_cons (pv 0) (pa_cons (pe_bltn (v := .ty "str") (u := .type "str") (by rfl) T.b_str (by decide +kernel) rfl) pa_nil))))) (pw_or1 (pt_not (pt_chain op_le op_le pe_int (pe_callB call_len_str (by rfl) T.b_len (by decide +kernel) (pa_cons (pv 0) pa_nil)) (C8.pe_gc (by rfl) T.g_MOST_LETTERS)))))) (pss_one (ps_ret pe_bl)) pss_nil)
        (pss_one (ps_ret (pe_and (pe_cmpR op_notIn_seq (pv 0) (pe_tup (pa_cons pe_str (pa_cons pe_str pa_nil))) (by rfl)) (pe_one (pe_c C_consists_of hr (by decide) (by rfl) (pa_cons (pv 0) (pa_cons (C8.pe_gc (by rfl) T.g_LETTERS) pa_nil)))))))), ?_⟩
    walk_at "rd"
    refine ⟨d, ⟨b, p, hd⟩, ?_⟩
    cases hd with
    | str x =>
      have small := hz x rfl
      have big : (100000 : Nat) ≤ sizeLine := by decide
      refine iteF ⟨x, rfl, by omega, ?_⟩
      have off : (decide (1 ≤ (x.length : Int)) && decide ((x.length : Int) ≤ 8)) = false → ∀ H', Same H H' → Q (.bl false) H' := fun z H' s' => by
        have := q H' s'
        rw [show colD (.str x) = colS x from rfl, colS, z, Bool.false_and] at this
        exact this
      cases e1 : decide (1 ≤ (x.length : Int)) with
      | false => exact iteF (off (by rw [e1]; rfl) _ (Same.refl _))
      | true =>
        refine iteT ?_
        cases e2 : decide ((x.length : Int) ≤ 8) with
        | false => exact iteT (off (by rw [e2, Bool.and_false]) _ (Same.refl _))
        | true =>
          refine iteF ⟨by decide, fun t ht => ⟨t, _, rfl, .inr (SqT.of upd_same), rfl, rfl, _, rfl, ?_⟩⟩
          have s1 : Same H (upd H t (.tup [.str "and", .str "or"])) := new_same ht
          cases e3 : !inV (.str x) [.str "and", .str "or"] with
          | false =>
            refine iteF ?_
            have := q _ s1
            rw [show colD (.str x) = colS x from rfl, colS, e3, Bool.false_and, Bool.and_false] at this
            exact this
          | true =>
            refine iteT ⟨x, _, rfl, by have := of_decide_eq_true e2; omega, fun H' s2 => ?_⟩
            have := q _ (s1.trans s2)
            rw [show colD (.str x) = colS x from rfl, colS, e1, e2, e3, Bool.true_and, Bool.true_and] at this
            exact this
    | non => exact q _ (Same.refl _)
    | bl x => exact q _ (Same.refl _)
    | int x => exact q _ (Same.refl _)
    | lst g h1 h2 h3 => exact q _ (Same.refl _)
    | tup g h1 h2 => exact q _ (Same.refl _)
    | dc0 h1 g h2 => exact q _ (Same.refl _)
    | dc1 h1 g h2 h3 => exact q _ (Same.refl _)
theorem ok_name {f : Addr} {fd : FuncData} (F : Fun K "_law_is_name" "_law_is_name" s__law_is_name f fd) (T : Txt mg) : FnG P w K mg base 1 f fd ["_law_thing"] sp_column := by
  refine okG F sc__law_is_name (fun vs H Q E h => ?_) (fun cdv A outer s H vs Q E hg hr h => ?_)
  · obtain ⟨v, d, b, p, rfl, _⟩ := h
    rfl
  · obtain ⟨v, d, b, p, rfl, hd, hz, q⟩ := h
    replace hr := And.intro hg hr
    refine ⟨_, (pss_cons (ps_if (PW.pt (pw_or (pt_not (pt_val (pe_callB call_isiStr (by rfl) T.b_isinstance (by decide +kernel) (pa_cons (pv 0) (pa_cons (pe_bltn (v := .ty "str") (u := .type "str") (by rfl) T.b_str (by decide +kernel) rfl) pa_nil))))) (pw_or (pt_not (pt_chain op_le op_le pe_int (pe_callB call_len_str (by rfl) T.b_len (by decide +kernel) (pa_cons (pv 0) pa_nil)) pe_int)) (pw_or1 (pt_cmpR op_in_seq (pv 0) (pe_tup (pa_cons pe_str (pa_cons pe_str pa_nil))) (by rfl)))))) (pss_one (ps_ret pe_bl)) pss_nil)
        (pss_one (ps_ret (pe_callB (call_allB rfl) (by rfl) T.b_all (by decide +kernel) (pa_cons (pe_lc (own := [("_law_letter", 1)]) (g := gName 1) (tt := tYes) rfl sc__law_is_name.nd (pi_str (pv 0)) (blkOk_by (own := [("_law_letter", 1)]) (N := ["_law_thing", "_law_letter"]) (sc := defScope s__law_is_name) (by decide +kernel)) (fun _ _ _ _ _ => (pg_name (i := 1) sc__law_is_name.nd rfl (Or.inl rfl))) (fun _ _ _ _ _ => pts_nil) (fun _ _ _ _ _ => (pe_cmpR op_in_sign (pv 1) pe_str (by rfl)))) pa_nil))))), ?_⟩
    walk_at "rd"
    refine ⟨d, ⟨b, p, hd⟩, ?_⟩
    cases hd with
    | str x =>
      have small := hz x rfl
      have small' : x.cps.size ≤ 100000 := small
      have big : (100000 : Nat) ≤ sizeLine := by decide
      refine iteF ⟨x, rfl, by omega, ?_⟩
      have off : (decide (1 ≤ (x.length : Int)) && decide ((x.length : Int) ≤ 8)) = false → ∀ H', Same H H' → Q (.bl false) H' := fun z H' s' => by
        have := q H' s'
        rw [show colD (.str x) = colS x from rfl, colS, z, Bool.false_and] at this
        exact this
      cases e1 : decide (1 ≤ (x.length : Int)) with
      | false => exact iteF (off (by rw [e1]; rfl) _ (Same.refl _))
      | true =>
        refine iteT ?_
        cases e2 : decide ((x.length : Int) ≤ 8) with
        | false => exact iteT (off (by rw [e2, Bool.and_false]) _ (Same.refl _))
        | true =>
          refine iteF ⟨by decide, fun t ht => ⟨t, _, rfl, .inr (SqT.of upd_same), rfl, rfl, _, rfl, ?_⟩⟩
          have s1 : Same H (upd H t (.tup [.str "and", .str "or"])) := new_same ht
          cases e3 : inV (.str x) [.str "and", .str "or"] with
          | true =>
            refine iteT ?_
            have := q _ s1
            rw [show colD (.str x) = colS x from rfl, colS, e3, Bool.not_true, Bool.false_and, Bool.and_false] at this
            exact this
          | false =>
            refine iteF ?_
            refine ⟨.str x, rfl, x, rfl, lcMap (walk_str (z := x)) ((x.cps.toList.map fun c => decide (c ∈ abc.cps.toList)).map V.bl) (by simp) (by omega) (fun H1 s1 => trivial) (fun i v H1 H2 y R ho s1 hy kk => ?_) (fun H1 D nD s2 hL => ?_)⟩
            · obtain ⟨rfl, c, hc, rfl⟩ := hy
              obtain ⟨c', hc', rfl⟩ := signs ho
              rw [hc] at hc'
              cases hc'
              refine ⟨rfl, ?_⟩
              walk_at "rd"
              exact ⟨_, rfl, kk _ (Same.refl _)⟩
            · refine ⟨D, rfl, _, hL, ?_⟩
              have e : (x.cps.toList.map fun c => decide (c ∈ abc.cps.toList)).all id = ofS abc x := by rw [List.all_map]; rfl
              rw [e]
              have := q _ (s1.trans s2)
              rw [show colD (.str x) = colS x from rfl, colS, e1, e2, e3, Bool.not_false, Bool.true_and, Bool.true_and, Bool.true_and] at this
              exact this
    | non => exact q _ (Same.refl _)
    | bl x => exact q _ (Same.refl _)
    | int x => exact q _ (Same.refl _)
    | lst g h1 h2 h3 => exact q _ (Same.refl _)
    | tup g h1 h2 => exact q _ (Same.refl _)
    | dc0 h1 g h2 => exact q _ (Same.refl _)
    | dc1 h1 g h2 h3 => exact q _ (Same.refl _)
end
end Pf

set_option Elab.async false
set_option linter.all false
set_option maxRecDepth 100000
/-! The string of a condition, twice. -/
namespace Pf
open PySem PySem.Spec PyProof.Rows L2
local macro_rules | `(tactic| walk_at "rd") => `(tactic| simp only [tC1, tCK, tB, rNe, rEq, tChain, gTupV, gCons, gNil, Nat.sub_self, Nat.reduceSub, List.replicate_zero, List.replicate_succ, tTest, tIfS, tIf, tNot, tAnd, tOr, tAndV, tOrV, tNotV, tDrop, tNext, rIxV, rIxP,
  gSub, rSetL, tSl, tPart, tNoPart, rSl1, tAsg2, ipI, tDNewK, tBM, rAppend, wipe, rAllB, rAnyB, iTup, iList, RZ.iZipA, iRng1, iRng2, tYes, upd_same, at0, at1, at2, at20, at21, ixN30, ixN32, HO.lst.injEq, HO.tup.injEq, Nat.reduceAdd, tSeq, tAsg, tPar, tAug, tOp, tVar, tC, tCB, tCons, tNil, rI, rI0, rU, tUn, gName, tRet, tLst, tLstM, tTup, L2.start, List.map_cons, List.map_nil, List.length_cons, List.length_nil, List.replicate, List.cons_append,
  List.nil_append, List.set_cons_zero, List.set_cons_succ, List.getElem?_cons_zero, List.getElem?_cons_succ, Option.some.injEq, V.int.injEq, V.ref.injEq, V.bl.injEq, V.str.injEq, List.cons.injEq, exists_eq_left', exists_eq_left, exists_and_left, exists_and_right, and_true, true_and, reduceCtorEq, false_and,
  exists_false, or_false, false_or, exists_const, exists_eq, exists_eq', Bool.not_true, Bool.not_false, Bool.false_eq_true, if_true, if_false, ite_true, ite_false])
abbrev s_condition_string : Stmt := topS 44
theorem sc_condition_string : FnScope ["column", "ranges", "missing", "words", "takes", "low", "high"] ["column", "ranges", "missing"] (defScope s_condition_string) := ⟨rfl, rfl, rfl, by decide +kernel, rfl, by decide +kernel, by decide +kernel⟩
def numS (i : Int) : Str := Str.ofString (toString i)
def pairS (q : Int × Int) : Str := if decide (q.1 = q.2) = true then numS q.1 else numS q.1 ++ ".." ++ numS q.2
def wordsS (ps : List (Int × Int)) (m : Bool) : List Str := ps.map pairS ++ (if m = true then [("?" : Str)] else [])
def takesS (ps : List (Int × Int)) (m : Bool) : Str := if (!(wordsS ps m).isEmpty) = true then Txt.join "," (wordsS ps m) else "-"
def conS (col : Str) (ps : List (Int × Int)) (m : Bool) : Str := col ++ "=" ++ takesS ps m
/-- numbers whose texts are short -/
def Shrt (q : Int × Int) : Prop := -9999 ≤ q.1 ∧ q.1 ≤ 9999 ∧ -9999 ≤ q.2 ∧ q.2 ≤ 9999
theorem emp_app (x : Str) : Str.empty ++ x = x := Str.empty_append x
theorem map_emp {α β : Type} (f : α → β) (l : List α) : (l.map f).isEmpty = l.isEmpty := by cases l <;> rfl
theorem num_log {i : Int} (h0 : -9999 ≤ i) (h1 : i ≤ 9999) : i.natAbs.log2 < 1920 := by
  have lt : i.natAbs < 2 ^ 14 := by omega
  by_cases z : i.natAbs = 0
  · rw [z]; decide
  · exact Nat.lt_of_lt_of_le ((Nat.log2_lt z).mpr lt) (by decide)
theorem num_len {i : Int} (h0 : -9999 ≤ i) (h1 : i ≤ 9999) : (numS i).length ≤ 41 := (int_sz (i := i) (by omega)).2.1
theorem pair_len {q : Int × Int} (h : Shrt q) : (pairS q).length ≤ 100 := by
  have a := num_len h.1 h.2.1
  have b := num_len h.2.2.1 h.2.2.2
  unfold pairS
  split
  · omega
  · rw [strLen_append, strLen_append]
    have c : (".." : Str).length = 2 := rfl
    omega
theorem prGet {H : Hp} : ∀ {xs : List V} {ps : List (Int × Int)} {i : Nat} {v : V}, PrAll H xs ps → xs[i]? = some v → ∃ q, ps[i]? = some q ∧ PrAt H v q
  | _, _, i, v, .nil, h => by cases h
  | _, _, 0, v, .cons r _, h => by
    cases h
    exact ⟨_, rfl, r⟩
  | _, _, i + 1, v, .cons _ rest, h => prGet (i := i) rest h
theorem words_sum {ps : List (Int × Int)} {m : Bool} (sh : ∀ q ∈ ps, Shrt q) (lp : ps.length ≤ 4) : ((wordsS ps m).map (·.length)).sum ≤ 500 ∧ (wordsS ps m).length ≤ 5 := by
  have one : ∀ (l : List (Int × Int)), (∀ q ∈ l, Shrt q) → ((l.map pairS).map (·.length)).sum ≤ 100 * l.length := by
    intro l
    induction l with
    | nil => intro _; exact Nat.le_refl _
    | cons q r ih =>
      intro h
      have a := ih fun q m => h q (List.mem_cons_of_mem _ m)
      have b := pair_len (h q List.mem_cons_self)
      simp only [List.map_cons, List.sum_cons, List.length_cons]
      omega
  have a := one ps sh
  unfold wordsS
  rw [List.map_append, List.sum_append, List.length_append, List.length_map]
  cases m
  · simp only [Bool.false_eq_true, if_false, List.map_nil, List.sum_nil, List.length_nil]
    omega
  · have c : ("?" : Str).length = 1 := rfl
    simp only [if_true, List.map_cons, List.map_nil, List.sum_cons, List.sum_nil, List.length_cons, List.length_nil, c]
    omega
theorem takes_len {ps : List (Int × Int)} {m : Bool} (sh : ∀ q ∈ ps, Shrt q) (lp : ps.length ≤ 4) : (takesS ps m).length ≤ 1000 := by
  obtain ⟨a, b⟩ := words_sum (m := m) sh lp
  unfold takesS
  split
  · rw [show Txt.join "," (wordsS ps m) = Builtin.Str.glued "," (wordsS ps m) from rfl, size_glued]
    have c : ("," : Str).length = 1 := rfl
    rw [c]
    omega
  · show ("-" : Str).length ≤ 1000
    decide
section
variable {base : Heap} {P : Program} {w : World} {mg : Str → Option Value} {K : PySem.W.Frag}
def sp_cstr : Sp := fun vs H Q _ => ∃ (col : Str) (r : Addr) (xs : List V) (ps : List (Int × Int)) (m : Bool), vs = [.str col, .ref r, .bl m] ∧ H r = some (.tup xs) ∧ PrAll H xs ps ∧ col.length ≤ 1000 ∧ ps.length ≤ 4 ∧ (∀ q ∈ ps, Shrt q) ∧
  ∀ H', Same H H' → Q (.str (conS col ps m)) H'
theorem ok_cstr {f : Addr} {fd : FuncData} (F : Fun K "condition_string" "condition_string" s_condition_string f fd) (T : Txt mg) : FnG P w K mg base 1 f fd ["column", "ranges", "missing"] sp_cstr := by
  refine okG F sc_condition_string (fun vs H Q E h => ?_) (fun cdv A outer s H vs Q E hg hr h => ?_)
  · obtain ⟨col, r, xs, ps, m, rfl, _⟩ := h
    rfl
  · obtain ⟨col, r, xs, ps, m, rfl, er, pr, lc, lp, sh, q⟩ := h
    replace hr := And.intro hg hr
    refine ⟨_, (pss_cons (ps_setLc (i := 3) (own := [("low", 5), ("high", 6)]) (g := gTupV 2 (gCons (gName 5) (gCons (gName 6) gNil))) (tt := tYes) rfl sc_condition_string.nd rfl rfl (sw_true rfl rfl rfl (by decide +kernel)) (pi_tup (pv 1)) (blkOk_by (own := [("low", 5), ("high", 6)]) (N := ["column", "ranges", "missing", "words", "takes", "low", "high"]) (sc := defScope s_condition_string) (by decide +kernel)) (fun _ _ _ _ _ => (pg_tupV (n := 2) rfl (pgs_cons (pg_name (i := 5) sc_condition_string.nd rfl (Or.inl rfl)) (pgs_cons (pg_name (i := 6) sc_condition_string.nd rfl (Or.inl rfl)) pgs_nil)))) (fun _ _ _ _ _ => pts_nil) (fun _ _ _ _ _ => (pe_ifExp (pt_cmpR op_eq (pv 5) (pv 6) (nomark _)) (pe_joined1 (pe_fmt (pv 5))) (pe_joined (PJ.cons (pe_fmt (pv 5)) (PJ.cons pe_str (PJ.cons (pe_fmt (pv 6)) PJ.nil)))))))
        (pss_cons (ps_if (pt_val (pv 2)) (pss_one (ps_expr (pe_bm PySem.F.plainAttrs_list PySem.F.slot_list_append PySem.F.type_list_append mt_append (pv 3) (pa_cons pe_str pa_nil)))) pss_nil)
        (pss_cons (ps_set (i := 4) sc_condition_string.nd rfl (Or.inl rfl) (pe_ifExp (pt_truth (pv 3) (by intro _; rfl)) (pe_join pe_str (pv 3)) pe_str))
        (pss_one (ps_ret (pe_joined (PJ.cons (pe_fmt (pv 0)) (PJ.cons pe_str (PJ.cons (pe_fmt (pv 4)) PJ.nil))))))))), ?_⟩
    walk_at "rd"
    have big : (10000 : Nat) ≤ sizeLine := by decide
    have len := pr.len
    refine ⟨.ref r, rfl, r, rfl, ⟨xs, SqT.of er⟩, lcMap (walk_tup (xs := xs)) ((ps.map pairS).map V.str) (by simp [len]) (by omega) (fun H1 s1 => s1.seqT (SqT.of er)) (fun i v H1 H2 y R ho s1 hy kk => ?_) (fun H1 D nD s1 hL => ?_)⟩
    · obtain ⟨rfl, hx⟩ := hy
      obtain ⟨q', hq', t, rfl, ht⟩ := prGet (pr.tk (TK.of s1)) hx
      have mem : q' ∈ ps := List.mem_of_getElem? hq'
      have b := sh q' mem
      have ey : y = .str (pairS q') := by
        rw [List.getElem?_map, List.getElem?_map, hq'] at ho
        exact (Option.some.inj ho).symm
      subst ey
      walk_at "rd"
      simp only [ht, Option.some.injEq, HO.tup.injEq, exists_eq_left']
      walk_at "rd"
      refine ⟨_, _, ⟨rfl, rfl⟩, _, _, rfl, rfl, rfl, ?_⟩
      have k := kk _ (Same.refl _)
      have l1 := num_len b.1 b.2.1
      have l2 := num_len b.2.2.1 b.2.2.2
      have l3 : (".." : Str).length = 2 := rfl
      have z : ∀ x : Str, Str.empty ++ x = x := emp_app
      have dec : decide ((V.int q'.1) = (V.int q'.2)) = decide (q'.1 = q'.2) := by simp
      rw [dec]
      cases e : decide (q'.1 = q'.2) with
      | true =>
        refine iteT ?_
        simp only [tFmt]
        walk_at "rd"
        rw [pairS, e, if_pos rfl] at k
        exact ⟨num_log b.1 b.2.1, k⟩
      | false =>
        refine iteF ?_
        simp only [tFmt, tJs]
        walk_at "rd"
        rw [pairS, e, if_neg (by decide)] at k
        rw [z]
        have l4 : (numS q'.1).length ≤ sizeLine := by omega
        refine ⟨num_log b.1 b.2.1, l4, ?_, num_log b.2.2.1 b.2.2.2, ?_, k⟩
        · show (numS q'.1 ++ ".." : Str).length ≤ sizeLine
          rw [strLen_append]; omega
        · show (numS q'.1 ++ ".." ++ numS q'.2 : Str).length ≤ sizeLine
          rw [strLen_append, strLen_append]; omega
    · have sm : Same H H1 := s1
      cases m with
      | false =>
        refine iteF ?_
        refine ⟨_, .inl ⟨_, SqL.of hL, rfl⟩, ?_⟩
        have ew : wordsS ps false = ps.map pairS := by simp [wordsS]
        rw [show (!((ps.map pairS).map V.str).isEmpty) = (!(ps.map pairS).isEmpty) by simp, ← ew]
        have lim := words_sum (m := false) sh lp
        cases emp : !(wordsS ps false).isEmpty with
        | true =>
          refine iteT ?_
          simp only [tM1, tJs, tFmt]
          walk_at "rd"
          refine ⟨_, .inl (SqL.of hL), ?_, ?_⟩
          · rw [← ew, show ("," : Str).length = 1 from rfl]; omega
          rw [← ew, emp_app]
          have et : takesS ps false = Txt.join "," (wordsS ps false) := by rw [takesS, emp, if_pos rfl]
          rw [← et]
          have tl := takes_len (m := false) sh lp
          have c1 : ("=" : Str).length = 1 := rfl
          exact ⟨by omega, by omega, by rw [strLen_append]; omega, by omega, by rw [strLen_append, strLen_append]; omega, q _ s1⟩
        | false =>
          refine iteF ?_
          simp only [tM1, tJs, tFmt]
          walk_at "rd"
          rw [emp_app]
          have et : takesS ps false = "-" := by rw [takesS, emp, if_neg (by decide)]
          have k := q _ s1
          rw [conS, et] at k
          have c1 : ("=" : Str).length = 1 := rfl
          have c2 : ("-" : Str).length = 1 := rfl
          exact ⟨by omega, by omega, by rw [strLen_append]; omega, by omega, by rw [strLen_append, strLen_append]; omega, k⟩
      | true =>
        refine iteT ⟨.inl ⟨rfl, _, SqL.of hL⟩, D, rfl, _, hL, by simp; omega, ?_⟩
        have e2 : upd H1 D (HO.lst (List.map V.str (List.map pairS ps) ++ [V.str "?"])) D = some (.lst ((ps.map pairS ++ [("?" : Str)]).map V.str)) := by rw [upd_same, List.map_append]; rfl

        refine ⟨_, .inl ⟨_, SqL.of e2, rfl⟩, ?_⟩
        have ew : wordsS ps true = ps.map pairS ++ [("?" : Str)] := by simp [wordsS]
        rw [show (!((ps.map pairS ++ [("?" : Str)]).map V.str).isEmpty) = (!(ps.map pairS ++ [("?" : Str)]).isEmpty) by rw [map_emp], ← ew]
        have lim := words_sum (m := true) sh lp
        cases emp : !(wordsS ps true).isEmpty with
        | true =>
          refine iteT ?_
          simp only [tM1, tJs, tFmt]
          walk_at "rd"
          refine ⟨_, .inl (SqL.of e2), ?_, ?_⟩
          · rw [← ew, show ("," : Str).length = 1 from rfl]; omega
          rw [← ew, emp_app]
          have et : takesS ps true = Txt.join "," (wordsS ps true) := by rw [takesS, emp, if_pos rfl]
          rw [← et]
          have tl := takes_len (m := true) sh lp
          have c1 : ("=" : Str).length = 1 := rfl
          exact ⟨by omega, by omega, by rw [strLen_append]; omega, by omega, by rw [strLen_append, strLen_append]; omega, q _ (fun c o y => by rw [upd_ne (ne_of_none y nD)]; exact s1 c o y)⟩
        | false =>
          rw [ew] at emp
          simp at emp
end
end Pf

set_option Elab.async false
set_option linter.all false
set_option maxRecDepth 100000
/-! The law's own string of a condition. -/
namespace Pf
open PySem PySem.Spec PyProof.Rows L2
local macro_rules | `(tactic| walk_at "rd") => `(tactic| simp only [tC1, tCK, tB, rNe, rEq, tChain, gTupV, gCons, gNil, Nat.sub_self, Nat.reduceSub, List.replicate_zero, List.replicate_succ, tTest, tIfS, tIf, tNot, tAnd, tOr, tAndV, tOrV, tNotV, tDrop, tNext, rIxV, rIxP,
  gSub, rSetL, tSl, tPart, tNoPart, rSl1, tAsg2, ipI, tDNewK, tBM, rAppend, wipe, rAllB, rAnyB, iTup, iList, RZ.iZipA, iRng1, iRng2, tYes, upd_same, at0, at1, at2, at20, at21, ixN30, ixN32, HO.lst.injEq, HO.tup.injEq, Nat.reduceAdd, tSeq, tAsg, tPar, tAug, tOp, tVar, tC, tCB, tCons, tNil, rI, rI0, rU, tUn, gName, tRet, tLst, tLstM, tTup, L2.start, List.map_cons, List.map_nil, List.length_cons, List.length_nil, List.replicate, List.cons_append,
  List.nil_append, List.set_cons_zero, List.set_cons_succ, List.getElem?_cons_zero, List.getElem?_cons_succ, Option.some.injEq, V.int.injEq, V.ref.injEq, V.bl.injEq, V.str.injEq, List.cons.injEq, exists_eq_left', exists_eq_left, exists_and_left, exists_and_right, and_true, true_and, reduceCtorEq, false_and,
  exists_false, or_false, false_or, exists_const, exists_eq, exists_eq', Bool.not_true, Bool.not_false, Bool.false_eq_true, if_true, if_false, ite_true, ite_false])
abbrev s__law_con_text : Stmt := topS 58
theorem sc__law_con_text : FnScope ["_law_tree", "_law_told", "_law_low", "_law_high"] ["_law_tree"] (defScope s__law_con_text) := ⟨rfl, rfl, rfl, by decide +kernel, rfl, by decide +kernel, by decide +kernel⟩
section
variable {base : Heap} {P : Program} {w : World} {mg : Str → Option Value} {K : PySem.W.Frag}
theorem _root_.L2.Room.u64 {k : Nat} {A : Around} (r : Room k A) : A.units + 64 < cLine := by
  have := r.un
  omega
theorem strs_dp {K : PySem.W.Frag} {H : Hp} : ∀ ws : List Str, DpAll K H (ws.map V.str) (ws.map PyData.str)
  | [] => .nil
  | w :: r => .cons (.str w) (strs_dp r)
theorem pair_ok (q : Int × Int) : PyData.strOk (pairS q) = true := by
  unfold pairS
  split
  · exact strOk_of _
  · exact strOk_app (strOk_app (strOk_of _) (strOk_of _)) (strOk_of _)
theorem words_ok (ps : List (Int × Int)) (m : Bool) : ∀ w ∈ wordsS ps m, PyData.strOk w = true := fun w h => by
  rcases List.mem_append.mp h with h | h
  · obtain ⟨q, _, rfl⟩ := List.mem_map.mp h
    exact pair_ok q
  · cases m
    · exact (List.not_mem_nil h).elim
    · rw [List.mem_singleton.mp h]
      exact strOk_of _
theorem lay_strs : ∀ ws : List Str, (∀ w ∈ ws, PyData.strOk w = true) → PyData.canLayAll0 (ws.map PyData.str) = true
  | [], _ => by simp only [List.map_nil, PyData.canLayAll0]
  | w :: r, h => by
    have := lay_strs r fun w m => h w (List.mem_cons_of_mem _ m)
    simp only [List.map_cons, PyData.canLayAll0, PyData.canLay0, this, h w List.mem_cons_self, Bool.and_true, Bool.and_self]
theorem depth_strs : ∀ ws : List Str, PyData.depthAll (ws.map PyData.str) ≤ 0
  | [] => by simp only [List.map_nil, PyData.depthAll]; omega
  | w :: r => by
    have := depth_strs r
    simp only [List.map_cons, PyData.depthAll, PyData.depth]
    omega
theorem shaped_strs (ws : List Str) (ok : ∀ w ∈ ws, PyData.strOk w = true) : SeqAt.shaped (.list (ws.map PyData.str)) = true := by
  have h1 := lay_strs ws ok
  have h2 := depth_strs ws
  unfold SeqAt.shaped
  simp only [PyData.canLay0, PyData.depth, h1, Bool.true_and, decide_eq_true_eq]
  exact decide_eq_true (Nat.le_trans (Nat.add_le_add_right h2 1) (show 1 ≤ 64 by decide))
/-- l != [] of a list of texts -/
def rNeNilS : R2 := fun x y H Q => ∃ (a b : Addr) (ws : List Str), x = .ref a ∧ y = .ref b ∧ H a = some (.lst (ws.map V.str)) ∧ H b = some (.lst []) ∧ (∀ w ∈ ws, PyData.strOk w = true) ∧ Q (.bl (!ws.isEmpty)) H
theorem op_neNilS {X : Cx} (hu : X.A.units + 64 < cLine) : OpR X (compareOp .NotEq) rNeNilS := by
  intro pins s σ H x y v u Q I rx ry h
  obtain ⟨a, b, ws, rfl, rfl, e1, e2, ok, q⟩ := h
  refine op_neD hu pins s σ H _ _ v u Q I rx ry ⟨.list (ws.map PyData.str), .list [], .lst (SqL.of e1) (strs_dp ws), .lst (SqL.of e2) .nil, shaped_strs ws ok, shaped_strs [] (fun _ m => (List.not_mem_nil m).elim), ?_⟩
  have e : PyData.eqv (.list (ws.map PyData.str)) (.list []) = ws.isEmpty := by
    cases ws with
    | nil => simp only [List.map_nil, PyData.eqv, PyData.eqvAll, List.isEmpty_nil]
    | cons q r => simp only [List.map_cons, PyData.eqv, PyData.eqvAll, List.isEmpty_cons]
  rw [e]
  exact q
def sp_ctext : Sp := fun vs H Q _ => ∃ (a : Addr) (col : Str) (r : Addr) (xs : List V) (ps : List (Int × Int)) (m : Bool), vs = [.ref a] ∧ H a = some (.tup [.str "con", .str col, .ref r, .bl m]) ∧ H r = some (.tup xs) ∧ PrAll H xs ps ∧ col.length ≤ 1000 ∧ ps.length ≤ 4 ∧ (∀ q ∈ ps, Shrt q) ∧
  ∀ H', Same H H' → Q (.str (conS col ps m)) H'
theorem ok_ctext {f : Addr} {fd : FuncData} (F : Fun K "_law_con_text" "_law_con_text" s__law_con_text f fd) (T : Txt mg) : FnG P w K mg base 1 f fd ["_law_tree"] sp_ctext := by
  refine okG F sc__law_con_text (fun vs H Q E h => ?_) (fun cdv A outer s H vs Q E hg hr h => ?_)
  · obtain ⟨a, col, r, xs, ps, m, rfl, _⟩ := h
    rfl
  · obtain ⟨a, col, r, xs, ps, m, rfl, ea, er, pr, lc, lp, sh, q⟩ := h
    replace hr := And.intro hg hr
    refine ⟨_, (pss_cons (ps_setLc (i := 1) (own := [("_law_low", 2), ("_law_high", 3)]) (g := gTupV 2 (gCons (gName 2) (gCons (gName 3) gNil))) (tt := tYes) rfl sc__law_con_text.nd rfl rfl (sw_true rfl rfl rfl (by decide +kernel)) (pi_tup (pe_ix ix_t (pv 0) pe_int (fun _ _ => rfl))) (blkOk_by (own := [("_law_low", 2), ("_law_high", 3)]) (N := ["_law_tree", "_law_told", "_law_low", "_law_high"]) (sc := defScope s__law_con_text) (by decide +kernel)) (fun _ _ _ _ _ => (pg_tupV (n := 2) rfl (pgs_cons (pg_name (i := 2) sc__law_con_text.nd rfl (Or.inl rfl)) (pgs_cons (pg_name (i := 3) sc__law_con_text.nd rfl (Or.inl rfl)) pgs_nil)))) (fun _ _ _ _ _ => pts_nil) (fun _ _ _ _ _ => (pe_ifExp (pt_cmpR op_eq (pv 2) (pv 3) (nomark _)) (pe_callTy call_str_int (by rfl) T.b_str (by decide +kernel) (pa_cons (pv 2) pa_nil)) (pe_op op_add_str (pe_op op_add_str (pe_callTy call_str_int (by rfl) T.b_str (by decide +kernel) (pa_cons (pv 2) pa_nil)) pe_str) (pe_callTy call_str_int (by rfl) T.b_str (by decide +kernel) (pa_cons (pv 3) pa_nil))))))
        (pss_cons (ps_set (i := 1) sc__law_con_text.nd rfl (Or.inl rfl) (pe_op op_cat (pv 1) (pe_op op_rep (pe_lst (pa_cons pe_str pa_nil)) (pe_callTy call_int1 (by rfl) T.b_int (by decide +kernel) (pa_cons (pe_ix ix_t (pv 0) pe_int (fun _ _ => rfl)) pa_nil)))))
        (pss_one (ps_ret (pe_op op_add_str (pe_op op_add_str (pe_ix ix_t (pv 0) pe_int (fun _ _ => rfl)) pe_str) (pe_ifExp (pt_cmpR (op_neNilS hr.2.u64) (pv 1) (pe_lst pa_nil) (nomark _)) (pe_join pe_str (pv 1)) pe_str)))))), ?_⟩
    walk_at "rd"
    have big : (10000 : Nat) ≤ sizeLine := by decide
    have len := pr.len
    have lw := words_sum (m := m) sh lp
    refine ⟨.ref a, rfl, a, _, 2, _, rfl, rfl, ea, rfl, r, rfl, ⟨xs, SqT.of er⟩, lcMap (walk_tup (xs := xs)) ((ps.map pairS).map V.str) (by simp [len]) (by omega) (fun H1 s1 => s1.seqT (SqT.of er)) (fun i v H1 H2 y R ho s1 hy kk => ?_) (fun H1 D nD s1 hL => ?_)⟩
    · obtain ⟨rfl, hx⟩ := hy
      obtain ⟨q', hq', t, rfl, ht⟩ := prGet (pr.tk (TK.of s1)) hx
      have mem : q' ∈ ps := List.mem_of_getElem? hq'
      have b := sh q' mem
      have ey : y = .str (pairS q') := by
        rw [List.getElem?_map, List.getElem?_map, hq'] at ho
        exact (Option.some.inj ho).symm
      subst ey
      walk_at "rd"
      simp only [ht, Option.some.injEq, HO.tup.injEq, exists_eq_left']
      walk_at "rd"
      refine ⟨_, _, ⟨rfl, rfl⟩, _, _, rfl, rfl, ?_⟩
      have k := kk _ (Same.refl _)
      have l1 := num_len b.1 b.2.1
      have l2 := num_len b.2.2.1 b.2.2.2
      have l3 : (".." : Str).length = 2 := rfl
      have dec : decide ((V.int q'.1) = (V.int q'.2)) = decide (q'.1 = q'.2) := by simp
      refine ⟨rfl, ?_⟩
      rw [dec]
      cases e : decide (q'.1 = q'.2) with
      | true =>
        rw [pairS, e, if_pos rfl] at k
        exact iteT ⟨_, rfl, num_log b.1 b.2.1, k⟩
      | false =>
        rw [pairS, e, if_neg (by decide)] at k
        refine iteF ⟨_, rfl, num_log b.1 b.2.1, ?_, _, rfl, num_log b.2.2.1 b.2.2.2, ?_, k⟩
        · show (numS q'.1).length + (".." : Str).length ≤ sizeLine
          omega
        · show (numS q'.1 ++ ".." : Str).length + (numS q'.2).length ≤ sizeLine
          rw [strLen_append]; omega
    · have ewo : (ps.map pairS).map V.str ++ (List.replicate (if m = true then 1 else 0 : Int).toNat [V.str "?"]).flatten = (wordsS ps m).map V.str := by
        cases m
        · simp [wordsS]
        · rw [wordsS, if_pos rfl, if_pos rfl, List.map_append]
          rfl
      refine ⟨by decide, fun p hp => ?_⟩
      have s2 : Same H1 (upd H1 p (.lst [V.str "?"])) := new_same hp
      refine ⟨_, s2 _ _ (s1 _ _ ea), .bl m, rfl, .inr ⟨m, rfl, p, _, _, rfl, rfl, upd_same, by cases m <;> decide, by cases m <;> decide, by cases m <;> decide, fun z hz => ?_⟩⟩
      have s3 := new_same (o := .lst (List.replicate (if m = true then 1 else 0 : Int).toNat [V.str "?"]).flatten) hz
      refine ⟨D, z, _, _, rfl, rfl, s3 _ _ (s2 _ _ hL), upd_same, ?_, fun L hL2 => ?_⟩
      · have z1 := congrArg List.length ewo
        rw [List.length_append, List.length_map] at z1
        rw [List.length_map, z1, List.length_map]
        omega
      rw [ewo]
      have s4 := new_same (o := .lst ((wordsS ps m).map V.str)) hL2
      have s14 : Same H (upd _ L (.lst ((wordsS ps m).map V.str))) := s1.trans (s2.trans (s3.trans s4))
      have c1 : ("=" : Str).length = 1 := rfl
      have c2 : ("-" : Str).length = 1 := rfl
      refine ⟨_, s14 _ _ ea, .str col, rfl, col, rfl, by omega, by decide, fun N hN => ?_⟩
      have s5 := new_same (o := .lst []) hN
      refine ⟨L, N, wordsS ps m, rfl, rfl, s5 _ _ upd_same, upd_same, words_ok ps m, _, rfl, ?_⟩
      have tl := takes_len (m := m) sh lp
      cases emp : !(wordsS ps m).isEmpty with
      | true =>
        refine iteT ?_
        have et : takesS ps m = Txt.join "," (wordsS ps m) := by rw [takesS, emp, if_pos rfl]
        simp only [tM1]
        walk_at "rd"
        refine ⟨_, .inl (SqL.of (s5 _ _ upd_same)), by rw [show ("," : Str).length = 1 from rfl]; omega, ?_⟩
        rw [← et]
        refine ⟨by rw [strLen_append]; omega, q _ (s14.trans s5)⟩
      | false =>
        have et : takesS ps m = "-" := by rw [takesS, emp, if_neg (by decide)]
        have k := q _ (s14.trans s5)
        rw [conS, et] at k
        exact iteF ⟨by rw [strLen_append]; omega, k⟩
end
end Pf

set_option Elab.async false
set_option linter.all false
set_option maxRecDepth 100000
/-! Range sets that conditions may have. -/
namespace Pf
open PySem PySem.Spec PyProof.Rows L2
local macro_rules | `(tactic| walk_at "rd") => `(tactic| simp only [tC1, tCK, tB, rNe, rEq, tChain, gTupV, gCons, gNil, Nat.sub_self, Nat.reduceSub, List.replicate_zero, List.replicate_succ, tTest, tIfS, tIf, tNot, tAnd, tOr, tAndV, tOrV, tNotV, tDrop, tNext, rIxV, rIxP,
  gSub, rSetL, tSl, tPart, tNoPart, rSl1, tAsg2, ipI, tDNewK, tBM, rAppend, wipe, rAllB, rAnyB, iTup, iList, RZ.iZipA, iRng1, iRng2, tYes, upd_same, at0, at1, at2, at20, at21, ixN30, ixN32, HO.lst.injEq, HO.tup.injEq, Nat.reduceAdd, tSeq, tAsg, tPar, tAug, tOp, tVar, tC, tCB, tCons, tNil, rI, rI0, rU, tUn, gName, tRet, tLst, tLstM, tTup, L2.start, List.map_cons, List.map_nil, List.length_cons, List.length_nil, List.replicate, List.cons_append,
  List.nil_append, List.set_cons_zero, List.set_cons_succ, List.getElem?_cons_zero, List.getElem?_cons_succ, Option.some.injEq, V.int.injEq, V.ref.injEq, V.bl.injEq, V.str.injEq, List.cons.injEq, exists_eq_left', exists_eq_left, exists_and_left, exists_and_right, and_true, true_and, reduceCtorEq, false_and,
  exists_false, or_false, false_or, exists_const, exists_eq, exists_eq', Bool.not_true, Bool.not_false, Bool.false_eq_true, if_true, if_false, ite_true, ite_false])
abbrev s_fits_condition : Stmt := topS 48
theorem sc_fits_condition : FnScope ["ranges"] ["ranges"] (defScope s_fits_condition) := ⟨rfl, rfl, rfl, by decide +kernel, rfl, by decide +kernel, by decide +kernel⟩
theorem PrAll.dp {K : PySem.W.Frag} {H : Hp} : ∀ {xs : List V} {ps : List (Int × Int)}, PrAll H xs ps → DpAll K H xs (ps.map prD)
  | _, _, .nil => .nil
  | _, _, .cons ⟨t, e1, e2⟩ r => by
    subst e1
    exact .cons (.tup (SqT.of e2) (.cons (.int _) (.cons (.int _) .nil))) (PrAll.dp r)
theorem lay_prs : ∀ ps : List (Int × Int), PyData.canLayAll0 (ps.map prD) = true
  | [] => by simp only [List.map_nil, PyData.canLayAll0]
  | q :: r => by
    have := lay_prs r
    simp only [List.map_cons, PyData.canLayAll0, prD, PyData.canLay0, this, Bool.and_true, Bool.and_self]
theorem depth_prs : ∀ ps : List (Int × Int), PyData.depthAll (ps.map prD) ≤ 2
  | [] => by simp only [List.map_nil, PyData.depthAll]; omega
  | q :: r => by
    have := depth_prs r
    simp only [List.map_cons, PyData.depthAll, prD, PyData.depth]
    omega
theorem shapedT (ps : List (Int × Int)) : SeqAt.shaped (.tuple (ps.map prD)) = true := by
  have h1 := lay_prs ps
  have h2 := depth_prs ps
  unfold SeqAt.shaped
  simp only [PyData.canLay0, PyData.depth, h1, Bool.true_and, decide_eq_true_eq]
  exact decide_eq_true (Nat.le_trans (Nat.add_le_add_right h2 1) (show 3 ≤ 64 by decide))
/-- t == () of a tuple of pairs -/
def rEqT0 : R2 := fun x y H Q => ∃ (a b : Addr) (xs : List V) (ps : List (Int × Int)), x = .ref a ∧ y = .ref b ∧ H a = some (.tup xs) ∧ PrAll H xs ps ∧ H b = some (.tup []) ∧ Q (.bl ps.isEmpty) H
theorem op_eqT0 {X : Cx} (hu : X.A.units + 64 < cLine) : OpR X (compareOp .Eq) rEqT0 := by
  intro pins s σ H x y v u Q I rx ry h
  obtain ⟨a, b, xs, ps, rfl, rfl, e1, pr, e2, q⟩ := h
  refine op_eqD hu pins s σ H _ _ v u Q I rx ry ⟨.tuple (ps.map prD), .tuple [], .tup (SqT.of e1) (PrAll.dp pr), .tup (SqT.of e2) .nil, shapedT ps, shapedT [], ?_⟩
  have e : PyData.eqv (.tuple (ps.map prD)) (.tuple []) = ps.isEmpty := by
    cases ps with
    | nil => simp only [List.map_nil, PyData.eqv, PyData.eqvAll, List.isEmpty_nil]
    | cons q r => simp only [List.map_cons, PyData.eqv, PyData.eqvAll, List.isEmpty_cons]
  rw [e]
  exact q
theorem PrAll.at {H : Hp} {xs : List V} {ps : List (Int × Int)} {i : Nat} (h : PrAll H xs ps) (hi : i < ps.length) : ∃ t, atI xs (i : Int) = some (.ref t) ∧ H t = some (.tup [.int ps[i].1, .int ps[i].2]) := by
  induction h generalizing i with
  | nil => exact absurd hi (Nat.not_lt_zero _)
  | @cons v q xs ps h1 _ ih =>
    cases i with
    | zero =>
      obtain ⟨t, e1, e2⟩ := h1
      exact ⟨t, atI_nat (j := 0) (by rw [e1]; rfl), e2⟩
    | succ i =>
      obtain ⟨t, e1, e2⟩ := ih (i := i) (by simpa using hi)
      refine ⟨t, ?_, e2⟩
      have hx : i < xs.length := by
        have := Paired.length ‹Paired (PrAt H) xs ps›
        have h2 : i < ps.length := by simpa using hi
        omega
      have e3 : atI xs (i : Int) = some xs[i] := atI_nat (List.getElem?_eq_getElem hx)
      rw [e3] at e1
      exact atI_nat (j := i + 1) (by rw [List.getElem?_cons_succ, List.getElem?_eq_getElem hx]; exact e1)
abbrev s_both : Stmt := topS 19
theorem sc_both : FnScope ["one", "other", "found", "k", "n", "low", "high"] ["one", "other"] (defScope s_both) := ⟨rfl, rfl, rfl, by decide +kernel, rfl, by decide +kernel, by decide +kernel⟩
abbrev s_either : Stmt := topS 20
theorem sc_either : FnScope ["one", "other"] ["one", "other"] (defScope s_either) := ⟨rfl, rfl, rfl, by decide +kernel, rfl, by decide +kernel, by decide +kernel⟩
abbrev s_without : Stmt := topS 21
theorem sc_without : FnScope ["one", "other"] ["one", "other"] (defScope s_without) := ⟨rfl, rfl, rfl, by decide +kernel, rfl, by decide +kernel, by decide +kernel⟩
abbrev s_united : Stmt := topS 23
theorem sc_united : FnScope ["pairs", "found", "low", "high", "next_low", "next_high"] ["pairs"] (defScope s_united) := ⟨rfl, rfl, rfl, by decide +kernel, rfl, by decide +kernel, by decide +kernel⟩
abbrev s_gaps : Stmt := topS 24
theorem sc_gaps : FnScope ["ranges", "low", "high", "inner", "starts", "ends", "pair", "start", "end"] ["ranges", "low", "high"] (defScope s_gaps) := ⟨rfl, rfl, rfl, by decide +kernel, rfl, by decide +kernel, by decide +kernel⟩
theorem PrAll.lastAt {H : Hp} {xs : List V} {ps : List (Int × Int)} (h : PrAll H xs ps) (hi : ps.length - 1 < ps.length) : ∃ t, atI xs (-1) = some (.ref t) ∧ H t = some (.tup [.int ps[ps.length - 1].1, .int ps[ps.length - 1].2]) := by
  have len := PrAll.len h
  obtain ⟨t, e1, e2⟩ := h.at hi
  refine ⟨t, ?_, e2⟩
  have hx : ps.length - 1 < xs.length := by omega
  rw [atI_nat (List.getElem?_eq_getElem hx)] at e1
  have ea : atI xs (-1) = xs[ps.length - 1]? := by
    unfold atI ixN
    rw [if_neg (by decide), if_pos (by omega)]
    show xs[((-1 : Int) + xs.length).toNat]? = _
    congr 1
    omega
  rw [ea, List.getElem?_eq_getElem hx, e1]
/-- the pairs of data that are pairs -/
def prs (ds : List PyData) : List (Int × Int) := ds.map fun e => (loD e, hiD e)
theorem dq_prs {b : Bool} {p : Addr} {H : Hp} : ∀ {xs : List V} {ds : List PyData}, DqAll b p H xs ds → ds.all isPairD = true → PrAll H xs (prs ds)
  | _, _, .nil, _ => .nil
  | _, _, .cons (d := d) h t, al => by
    rw [List.all_cons, Bool.and_eq_true] at al
    have z : ∃ l r, pairOf d = some (l, r) := by
      have q := al.1
      unfold isPairD at q
      cases e : pairOf d with
      | none => rw [e] at q; cases q
      | some u => exact ⟨u.1, u.2, rfl⟩
    obtain ⟨l, r, e⟩ := z
    obtain ⟨t', rfl, ht⟩ := h.pair e
    obtain ⟨e1, e2, _⟩ := pair_lohi e
    exact .cons ⟨t', rfl, by rw [ht]; simp [e1, e2]⟩ (dq_prs t al.2)
def inB (e : PyData) : Bool := decide (-9999 ≤ loD e) && decide (hiD e ≤ 9999)
def fitsD : PyData → Bool
  | .tuple ds => isRangesD (.tuple ds) && (decide (ds.length ≤ 4) && ds.all inB)
  | _ => false
theorem fits_ends {ds : List PyData} (h : isRangesD (.tuple ds) = true) (hn : 0 < ds.length) : (decide (-9999 ≤ loD (ds.getD 0 .none)) && decide (hiD (ds.getD (ds.length - 1) .none) ≤ 9999)) = ds.all inB := by
  have r := rgs_of h
  rw [Bool.eq_iff_iff, List.all_eq_true, Bool.and_eq_true, decide_eq_true_eq, decide_eq_true_eq]
  constructor
  · rintro ⟨h1, h2⟩ d hd
    obtain ⟨i, hi, e⟩ := List.getElem_of_mem hd
    have ed : d = ds.getD i .none := by
      have := getD_at hi
      rw [List.getElem?_eq_getElem hi, e] at this
      exact Option.some.inj this
    have u1 := (r.up i 0 (Nat.zero_le _) hi).1
    have u2 := (r.up (ds.length - 1) i (by omega) (by omega)).2
    rw [ed]
    unfold inB
    rw [Bool.and_eq_true, decide_eq_true_eq, decide_eq_true_eq]
    omega
  · intro al
    have a := al (ds.getD 0 .none) (List.mem_of_getElem? (getD_at hn))
    have b := al (ds.getD (ds.length - 1) .none) (List.mem_of_getElem? (getD_at (by omega)))
    unfold inB at a b
    rw [Bool.and_eq_true, decide_eq_true_eq, decide_eq_true_eq] at a b
    exact ⟨a.1, b.2⟩
section
variable {base : Heap} {P : Program} {w : World} {mg : Str → Option Value} {K : PySem.W.Frag}
def sp_fits : Sp := fun vs H Q _ => ∃ v d b p, vs = [v] ∧ Dq b p H v d ∧ (∀ ds, d = .tuple ds → ds.length ≤ 1000) ∧ ∀ H', Same H H' → Q (.bl (fitsD d)) H'
theorem ok_fits {f : Addr} {fd : FuncData} (F : Fun K "fits_condition" "fits_condition" s_fits_condition f fd) (T : Txt mg) (C_is_ranges : Cal P w K mg base 3 "is_ranges" sp_ranges) : FnG P w K mg base 4 f fd ["ranges"] sp_fits := by
  refine okG F sc_fits_condition (fun vs H Q E h => ?_) (fun cdv A outer s H vs Q E hg hr h => ?_)
  · obtain ⟨v, d, b, p, rfl, _⟩ := h
    rfl
  · obtain ⟨v, d, b, p, rfl, hd, hz, q⟩ := h
    replace hr := And.intro hg hr
    refine ⟨_, (pss_cons (ps_if (PW.pt (pw_or (pt_not (pt_val (pe_c C_is_ranges hr (by decide) (by rfl) (pa_cons (pv 0) pa_nil)))) (pw_or1 (pt_cmpR op_gt (pe_callB call_lenT (by rfl) T.b_len (by decide +kernel) (pa_cons (pv 0) pa_nil)) (C8.pe_gc (by rfl) T.g_MOST_PAIRS) (nomark _))))) (pss_one (ps_ret pe_bl)) pss_nil)
        (pss_one (ps_ret (pe_or (pe_cmpR (op_eqT0 hr.2.u64) (pv 0) (pe_tup pa_nil) (nomark _)) (pe_one (pe_and (pe_cmpR op_le (C8.pe_gc (by rfl) T.g_LOWEST) (pe_ix ix_t (pe_ix ix_t (pv 0) pe_int (fun _ _ => rfl)) pe_int (fun _ _ => rfl)) (nomark _)) (pe_one (pe_cmpR op_le (pe_ix ix_t (pe_ix ix_t (pv 0) (pe_un un_neg pe_int) (fun _ _ => rfl)) pe_int (fun _ _ => rfl)) (C8.pe_gc (by rfl) T.g_HIGHEST) (nomark _))))))))), ?_⟩
    walk_at "rd"
    refine ⟨v, d, b, p, rfl, hd, hz, fun H1 s1 => ?_⟩
    cases ir : isRangesD d with
    | false =>
      have ef : fitsD d = false := by
        cases d with
        | tuple ds => rw [fitsD, ir]; rfl
        | _ => rfl
      refine ⟨false, rfl, iteT ?_⟩
      have := q H1 s1
      rw [ef] at this
      exact this
    | true =>
      refine ⟨true, rfl, iteF ?_⟩
      cases hd with
      | @tup a xs ds g ne ha =>
        have al : ds.all isPairD = true := by
          have z : (ds.all isPairD && (stepsD ds).all id) = true := ir
          exact (Bool.and_eq_true_iff.mp z).1
        have pr := dq_prs ha al
        have len := ha.length
        have lp : (prs ds).length = ds.length := List.length_map ..
        have ef : fitsD (.tuple ds) = (decide (ds.length ≤ 4) && ds.all inB) := by rw [fitsD, ir, Bool.true_and]
        refine ⟨a, rfl, xs, s1 _ _ g, ?_⟩
        by_cases big : 4 < ds.length
        · rw [if_pos (decide_eq_true (by rw [len]; omega))]
          have := q H1 s1
          rw [ef, decide_eq_false (by omega), Bool.false_and] at this
          exact this
        · rw [if_neg (by rw [len, decide_eq_true_eq]; omega)]
          rw [decide_eq_true (show ds.length ≤ 4 by omega), Bool.true_and] at ef
          refine ⟨Nat.zero_le _, fun t ht => ?_⟩
          have s2 : Same H1 (upd H1 t (.tup [])) := new_same ht
          have s12 := s1.trans s2
          have pr2 := pr.tk (TK.of s12)
          refine ⟨a, t, xs, prs ds, rfl, rfl, s12 _ _ g, pr2, upd_same, _, rfl, ?_⟩
          have k := q _ s12
          rw [ef] at k
          by_cases z : ds.length = 0
          · have ez : ds = [] := List.eq_nil_of_length_eq_zero z
            rw [ez] at k ⊢
            exact iteT k
          · rw [if_neg (by rw [List.isEmpty_iff]; intro y; rw [y] at lp; exact z lp.symm)]
            obtain ⟨t1, e1, e2⟩ := pr2.at (i := 0) (by omega)
            obtain ⟨t2, e3, e4⟩ := pr2.lastAt (by omega)
            have ge : ∀ i (h : i < (prs ds).length), (prs ds)[i] = (loD (ds.getD i .none), hiD (ds.getD i .none)) := fun i h => by
              have h' : i < ds.length := by omega
              have := getD_at h'
              rw [List.getElem?_eq_getElem h'] at this
              simp only [prs, List.getElem_map, Option.some.inj this]
            rw [ge 0 (by omega)] at e2
            rw [ge _ (by omega), lp] at e4
            have fe := fits_ends ir (by omega)
            refine ⟨a, rfl, xs, s12 _ _ g, _, e1, t1, rfl, _, e2, _, rfl, _, rfl, ?_⟩
            cases c1 : decide (-9999 ≤ loD (ds.getD 0 .none)) with
            | false =>
              rw [c1, Bool.false_and] at fe
              rw [← fe] at k
              exact iteF k
            | true =>
              rw [c1, Bool.true_and] at fe
              refine iteT ⟨a, rfl, xs, s12 _ _ g, _, e3, t2, rfl, _, e4, _, rfl, _, rfl, ?_⟩
              rw [fe]
              exact k
      | _ => cases ir
end
end Pf

set_option Elab.async false
set_option linter.all false
set_option maxRecDepth 100000
/-! where: its errors, its condition. -/
namespace Pf
open PySem PySem.Spec PyProof.Rows L2
local macro_rules | `(tactic| walk_at "rd") => `(tactic| simp only [tC1, tCK, tB, rNe, rEq, tChain, gTupV, gCons, gNil, Nat.sub_self, Nat.reduceSub, List.replicate_zero, List.replicate_succ, tTest, tIfS, tIf, tNot, tAnd, tOr, tAndV, tOrV, tNotV, tDrop, tNext, rIxV, rIxP,
  gSub, rSetL, tSl, tPart, tNoPart, rSl1, tAsg2, ipI, tDNewK, tBM, rAppend, wipe, rAllB, rAnyB, iTup, iList, RZ.iZipA, iRng1, iRng2, tYes, upd_same, at0, at1, at2, at20, at21, ixN30, ixN32, HO.lst.injEq, HO.tup.injEq, Nat.reduceAdd, tSeq, tAsg, tPar, tAug, tOp, tVar, tC, tCB, tCons, tNil, rI, rI0, rU, tUn, gName, tRet, tLst, tLstM, tTup, L2.start, List.map_cons, List.map_nil, List.length_cons, List.length_nil, List.replicate, List.cons_append,
  List.nil_append, List.set_cons_zero, List.set_cons_succ, List.getElem?_cons_zero, List.getElem?_cons_succ, Option.some.injEq, V.int.injEq, V.ref.injEq, V.bl.injEq, V.str.injEq, List.cons.injEq, exists_eq_left', exists_eq_left, exists_and_left, exists_and_right, and_true, true_and, reduceCtorEq, false_and,
  exists_false, or_false, false_or, exists_const, exists_eq, exists_eq', Bool.not_true, Bool.not_false, Bool.false_eq_true, if_true, if_false, ite_true, ite_false])
abbrev s_where : Stmt := topS 47
theorem sc_where : FnScope ["column", "ranges", "missing"] ["column", "ranges", "missing"] (defScope s_where) := ⟨rfl, rfl, rfl, by decide +kernel, rfl, by decide +kernel, by decide +kernel⟩
abbrev s_BadColumn_init : Stmt := (clsB (topS 2)).getD 0 (.Pass ⟨0, 0, 0, 0⟩)
theorem sc_BadColumn_init : FnScope ["self", "value"] ["self", "value"] (defScope s_BadColumn_init) := ⟨rfl, rfl, rfl, by decide +kernel, rfl, by decide +kernel, by decide +kernel⟩
abbrev s_BadRanges_init : Stmt := (clsB (topS 3)).getD 0 (.Pass ⟨0, 0, 0, 0⟩)
theorem sc_BadRanges_init : FnScope ["self", "value"] ["self", "value"] (defScope s_BadRanges_init) := ⟨rfl, rfl, rfl, by decide +kernel, rfl, by decide +kernel, by decide +kernel⟩
abbrev s_BadFlag_init : Stmt := (clsB (topS 4)).getD 0 (.Pass ⟨0, 0, 0, 0⟩)
theorem sc_BadFlag_init : FnScope ["self", "value"] ["self", "value"] (defScope s_BadFlag_init) := ⟨rfl, rfl, rfl, by decide +kernel, rfl, by decide +kernel, by decide +kernel⟩
abbrev s_Condition_init : Stmt := (clsB (topS 29)).getD 0 (.Pass ⟨0, 0, 0, 0⟩)
theorem sc_Condition_init : FnScope ["self", "column", "ranges", "missing"] ["self", "column", "ranges", "missing"] (defScope s_Condition_init) := ⟨rfl, rfl, rfl, by decide +kernel, rfl, by decide +kernel, by decide +kernel⟩
section
variable {base : Heap} {P : Program} {w : World} {mg : Str → Option Value} {K : PySem.W.Frag}
structure CondC (K : PySem.W.Frag) (C : Addr) : Prop where
  cl : Cls K C
  n1 : NoAttr K C "column"
  n2 : NoAttr K C "ranges"
  n3 : NoAttr K C "missing"
  n4 : NoAttr K C "columns"
  n5 : NoAttr K C "string"
def sp_cinit (C : Addr) : Sp := fun vs H Q _ => ∃ (x dx : Addr) (col : Str) (r : Addr) (xs : List V) (ps : List (Int × Int)) (m : Bool), vs = [.ref x, .str col, .ref r, .bl m] ∧ H x = some (.ins C dx []) ∧ H r = some (.tup xs) ∧ PrAll H xs ps ∧ col.length ≤ 1000 ∧ ps.length ≤ 4 ∧ (∀ q ∈ ps, Shrt q) ∧
  ∀ (H' : Hp) (t : Addr) (fs : List (Str × V)), (∀ c o, H c = some o → c ≠ x → H' c = some o) → H' x = some (.ins C dx fs) → fs.lookup ("string" : Str) = some (V.str (conS col ps m)) → fs.lookup ("columns" : Str) = some (V.ref t) → H' t = some (.tup [.str col]) → Q .non H'
theorem ok_cinit {C : Addr} {f : Addr} {fd : FuncData} (F : Fun K "__init__" "Condition.__init__" s_Condition_init f fd) (T : Txt mg) (hC : CondC K C) (C_condition_string : Cal P w K mg base 1 "condition_string" sp_cstr) : FnG P w K mg base 2 f fd ["self", "column", "ranges", "missing"] (sp_cinit C) := by
  refine okG F sc_Condition_init (fun vs H Q E h => ?_) (fun cdv A outer s H vs Q E hg hr h => ?_)
  · obtain ⟨x, dx, col, r, xs, ps, m, rfl, _⟩ := h
    rfl
  · obtain ⟨x, dx, col, r, xs, ps, m, rfl, ex, er, pr, lc, lp, sh, q⟩ := h
    replace hr := And.intro hg hr
    refine ⟨_, (pss_cons (ps_fld (pv 0) (pv 1) (by rfl))
        (pss_cons (ps_fld (pv 0) (pv 2) (by rfl))
        (pss_cons (ps_fld (pv 0) (pv 3) (by rfl))
        (pss_cons (ps_fld (pv 0) (pe_tup (pa_cons (pv 1) pa_nil)) (by rfl))
        (pss_one (ps_fld (pv 0) (pe_c C_condition_string hr (by decide) (by rfl) (pa_cons (pv 1) (pa_cons (pv 2) (pa_cons (pv 3) pa_nil)))) (by rfl))))))), ?_⟩
    walk_at "rd"
    simp only [sFld]
    walk_at "rd"
    refine ⟨_, _, _, ex, hC.cl, hC.n1, by decide, ?_⟩
    simp only [sFld]
    walk_at "rd"
    refine ⟨_, _, _, rfl, hC.cl, hC.n2, by show 1 < 1000; decide, ?_⟩
    simp only [sFld]
    walk_at "rd"
    refine ⟨_, _, _, rfl, hC.cl, hC.n3, by show 2 < 1000; decide, ?_⟩
    simp only [sFld]
    walk_at "rd"
    simp only [upd_upd]
    refine ⟨by decide, fun t ht => ?_⟩
    have ntx : t ≠ x := fun z => by rw [z, upd_same] at ht; cases ht
    have hT : H t = none := by rw [upd_ne ntx] at ht; exact ht
    refine ⟨C, dx, _, by rw [upd_ne ntx.symm]; exact upd_same, hC.cl, hC.n4, by show 3 < 1000; decide, ?_⟩
    have tk : ∀ u b ys, H b = some (.tup ys) → upd (upd u t (.tup [V.str col])) x (.ins C dx (putF "columns" (V.ref t) (putF "missing" (V.bl m) (putF "ranges" (V.ref r) (putF "column" (V.str col) []))))) b = u b := fun u b ys e => by
      have n1 : b ≠ x := fun z => by rw [z, ex] at e; cases e
      have n2 : b ≠ t := fun z => by rw [z, hT] at e; cases e
      rw [upd_ne n1, upd_ne n2]
    have tk2 : ∀ (o : HO) b ys, H b = some (.tup ys) → upd H x o b = some (.tup ys) := fun o b ys e => by
      have n1 : b ≠ x := fun z => by rw [z, ex] at e; cases e
      rw [upd_ne n1]
      exact e
    refine ⟨col, r, xs, ps, m, rfl, (tk _ _ _ er).trans (tk2 _ _ _ er), pr.tk (fun b ys e => (tk _ b ys e).trans (tk2 _ b ys e)), lc, lp, sh, fun H' s' => ?_⟩
    refine ⟨C, dx, _, s' _ _ upd_same, hC.cl, hC.n5, by show 4 < 1000; decide, ?_⟩
    refine q _ t _ (fun c o e n => ?_) upd_same (by rfl) (by rfl) ?_
    · rw [upd_ne n]
      have n2 : c ≠ t := fun z => by rw [z, hT] at e; cases e
      exact s' _ _ (by rw [upd_ne n, upd_ne n2, upd_ne n]; exact e)
    · rw [upd_ne ntx]
      exact s' _ _ (by rw [upd_ne ntx]; exact upd_same)
end
end Pf

set_option Elab.async false
set_option linter.all false
set_option maxRecDepth 100000
/-! where. -/
namespace Pf
open PySem PySem.Spec PyProof.Rows L2
local macro_rules | `(tactic| walk_at "rd") => `(tactic| simp only [tC1, tCK, tB, rNe, rEq, tChain, gTupV, gCons, gNil, Nat.sub_self, Nat.reduceSub, List.replicate_zero, List.replicate_succ, tTest, tIfS, tIf, tNot, tAnd, tOr, tAndV, tOrV, tNotV, tDrop, tNext, rIxV, rIxP,
  gSub, rSetL, tSl, tPart, tNoPart, rSl1, tAsg2, ipI, tDNewK, tBM, rAppend, wipe, rAllB, rAnyB, iTup, iList, RZ.iZipA, iRng1, iRng2, tYes, upd_same, at0, at1, at2, at20, at21, ixN30, ixN32, HO.lst.injEq, HO.tup.injEq, Nat.reduceAdd, tSeq, tAsg, tPar, tAug, tOp, tVar, tC, tCB, tCons, tNil, rI, rI0, rU, tUn, gName, tRet, tLst, tLstM, tTup, L2.start, List.map_cons, List.map_nil, List.length_cons, List.length_nil, List.replicate, List.cons_append,
  List.nil_append, List.set_cons_zero, List.set_cons_succ, List.getElem?_cons_zero, List.getElem?_cons_succ, Option.some.injEq, V.int.injEq, V.ref.injEq, V.bl.injEq, V.str.injEq, List.cons.injEq, exists_eq_left', exists_eq_left, exists_and_left, exists_and_right, and_true, true_and, reduceCtorEq, false_and,
  exists_false, or_false, false_or, exists_const, exists_eq, exists_eq', Bool.not_true, Bool.not_false, Bool.false_eq_true, if_true, if_false, ite_true, ite_false])
/-- the errors that where raises -/
structure Errs (P : Program) (w : World) (K : PySem.W.Frag) (mg : Str → Option Value) (base : Heap) (cl : ClsA) : Prop where
  BadColumn : ErrC P w K mg base "BadColumn" "value" cl.BadColumn
  BadRanges : ErrC P w K mg base "BadRanges" "value" cl.BadRanges
  BadFlag : ErrC P w K mg base "BadFlag" "value" cl.BadFlag
/-- what where does with three values that hold these data -/
structure Whr (cl : ClsA) (vn vr vm : V) (dn dr dm : PyData) (H : Hp) (Q : VK) (E : XK) : Prop where
  col : colD dn = false → ∀ H1 d, Same H H1 → H1 d = none → E (.ref cl.BadColumn) (some d) (upd H1 d (.xd [("value", vn)]))
  rng : colD dn = true → fitsD dr = false → ∀ H1 d, Same H H1 → H1 d = none → E (.ref cl.BadRanges) (some d) (upd H1 d (.xd [("value", vr)]))
  flg : colD dn = true → fitsD dr = true → isBoolD dm = false → ∀ H1 d, Same H H1 → H1 d = none → E (.ref cl.BadFlag) (some d) (upd H1 d (.xd [("value", vm)]))
  ok : ∀ (z : Str) (ds : List PyData) (m : Bool), dn = .str z → dr = .tuple ds → dm = .bool m → colD dn = true → fitsD dr = true →
    ∀ (H1 : Hp) (x dx t : Addr) (fs : List (Str × V)), Same H H1 → H1 x = some (.ins cl.Condition dx fs) → fs.lookup ("string" : Str) = some (V.str (conS z (prs ds) m)) → fs.lookup ("columns" : Str) = some (V.ref t) → H1 t = some (.tup [.str z]) → Q (.ref x) H1
theorem fits_shrt {ds : List PyData} (h : ds.all inB = true) (r : isRangesD (.tuple ds) = true) : ∀ q ∈ prs ds, Shrt q := fun q m => by
  obtain ⟨e, he, rfl⟩ := List.mem_map.mp m
  have a := List.all_eq_true.mp h e he
  have z : (ds.all isPairD && (stepsD ds).all id) = true := r
  have b := List.all_eq_true.mp (Bool.and_eq_true_iff.mp z).1 e he
  unfold inB at a
  rw [Bool.and_eq_true, decide_eq_true_eq, decide_eq_true_eq] at a
  have c : loD e ≤ hiD e := by
    unfold isPairD at b
    cases y : pairOf e with
    | none => rw [y] at b; cases b
    | some u =>
      rw [y] at b
      obtain ⟨e1, e2, _⟩ := pair_lohi y
      rw [e1, e2]
      exact of_decide_eq_true b
  exact ⟨a.1, by show loD e ≤ 9999; omega, by show -9999 ≤ hiD e; omega, a.2⟩
theorem col_len {z : Str} (h : colD (.str z) = true) : z.length ≤ 1000 := by
  have h' : ((decide (1 ≤ (z.length : Int)) && decide ((z.length : Int) ≤ 8)) && (!inV (.str z) [.str "and", .str "or"] && ofS abc z)) = true := h
  rw [Bool.and_eq_true, Bool.and_eq_true] at h'
  have := of_decide_eq_true h'.1.2
  omega
section
variable {base : Heap} {P : Program} {w : World} {mg : Str → Option Value} {K : PySem.W.Frag} {cl : ClsA}
def sp_where (cl : ClsA) : Sp := fun vs H Q E => ∃ (vn vr vm : V) (dn dr dm : PyData) (b : Bool) (p : Addr), vs = [vn, vr, vm] ∧ Dq b p H vn dn ∧ Dq b p H vr dr ∧ Dq b p H vm dm ∧ (∀ x, dn = .str x → x.length ≤ 100000) ∧ (∀ l, dr = .tuple l → l.length ≤ 1000) ∧ Whr cl vn vr vm dn dr dm H Q E
theorem ok_where {f : Addr} {fd : FuncData} (F : Fun K "where" "where" s_where f fd) (T : Txt mg) (C_is_column : Cal P w K mg base 2 "is_column" sp_column) (C_fits_condition : Cal P w K mg base 4 "fits_condition" sp_fits) (ER : Errs P w K mg base cl)
    (MK_Condition : MakG P w K mg base 2 "Condition" cl.Condition (sp_cinit cl.Condition)) : FnX P w K mg base 5 f fd ["column", "ranges", "missing"] (sp_where cl) := by
  refine okX F sc_where (fun vs H Q E h => ?_) (fun cdv A outer s H vs Q E hg hr h => ?_)
  · obtain ⟨vn, vr, vm, dn, dr, dm, b, p, rfl, _⟩ := h
    rfl
  · obtain ⟨vn, vr, vm, dn, dr, dm, b, p, rfl, hn, hd, hm, zn, zr, q⟩ := h
    replace hr := And.intro hg hr
    have TKE : Takes (cxOf (L2.CX P w) P w K mg base ["column", "ranges", "missing"] "where" (defScope s_where) f cdv A outer s H E) (fun cls d _ H => E cls d H) := takes_of rfl rfl rfl rfl
    refine ⟨_, (pss_cons (ps_if (pt_not (pt_val (pe_c C_is_column hr (by decide) (by rfl) (pa_cons (pv 0) pa_nil)))) (pss_one (ps_raise rfl TKE (pmk_err ER.BadColumn hr (by decide) (by rfl) (pv 0)))) pss_nil)
        (pss_cons (ps_if (pt_not (pt_val (pe_c C_fits_condition hr (by decide) (by rfl) (pa_cons (pv 1) pa_nil)))) (pss_one (ps_raise rfl TKE (pmk_err ER.BadRanges hr (by decide) (by rfl) (pv 1)))) pss_nil)
        (pss_cons (ps_if (pt_not (pt_val (pe_callB call_isiBool (by rfl) T.b_isinstance (by decide +kernel) (pa_cons (pv 2) (pa_cons (pe_bltn (v := .ty "bool") (u := .type "bool") (by rfl) T.b_bool (by decide +kernel) rfl) pa_nil))))) (pss_one (ps_raise rfl TKE (pmk_err ER.BadFlag hr (by decide) (by rfl) (pv 2)))) pss_nil)
        (pss_one (ps_ret (pe_mkG MK_Condition hr (by decide) (by rfl) (pa_cons (pv 0) (pa_cons (pv 1) (pa_cons (pv 2) pa_nil))))))))), ?_⟩
    walk_at "rd"
    refine ⟨vn, dn, b, p, rfl, hn, zn, fun H1 s1 => ?_⟩
    cases e1 : colD dn with
    | false => exact ⟨false, rfl, iteT ⟨vn, rfl, err_want fun d hd => q.col e1 H1 d s1 hd⟩⟩
    | true =>
      refine ⟨true, rfl, iteF ⟨vr, dr, b, p, rfl, hd.same s1, zr, fun H2 s2 => ?_⟩⟩
      have s12 := s1.trans s2
      cases e2 : fitsD dr with
      | false => exact ⟨false, rfl, iteT ⟨vr, rfl, err_want fun d hd => q.rng e1 e2 H2 d s12 hd⟩⟩
      | true =>
        refine ⟨true, rfl, iteF ⟨dm, ⟨b, p, hm.same s12⟩, ?_⟩⟩
        cases e3 : isBoolD dm with
        | false => exact iteT ⟨vm, rfl, err_want fun d hd => q.flg e1 e2 e3 H2 d s12 hd⟩
        | true =>
          refine iteF ⟨vn, rfl, vr, rfl, vm, rfl, fun x dx hx hdx ne => ?_⟩
          have sA : Same H2 (upd H2 dx (.own x)) := new_same hdx
          have sB : Same (upd H2 dx (.own x)) (upd (upd H2 dx (.own x)) x (.ins cl.Condition dx [])) := new_same (by rw [upd_ne ne.symm]; exact hx)
          have sAB := s12.trans (sA.trans sB)
          cases hn with
          | str z =>
            cases hm with
            | bl m =>
              cases hd with
              | @tup a xs ds g na ha =>
                have f' : (isRangesD (.tuple ds) && (decide (ds.length ≤ 4) && ds.all inB)) = true := e2
                rw [Bool.and_eq_true, Bool.and_eq_true, decide_eq_true_eq] at f'
                obtain ⟨f1, f2, f3⟩ := f'
                have al : ds.all isPairD = true := by
                  have z : (ds.all isPairD && (stepsD ds).all id) = true := f1
                  exact (Bool.and_eq_true_iff.mp z).1
                refine ⟨x, dx, z, a, xs, prs ds, m, rfl, upd_same, sAB _ _ g, (dq_prs ha al).tk (TK.of sAB), col_len e1, by rw [show (prs ds).length = ds.length from List.length_map ..]; exact f2, fits_shrt f3 f1, fun H' t fs kp ex es ec et => ⟨rfl, ?_⟩⟩
                refine q.ok z ds m rfl rfl rfl e1 e2 H' x dx t fs (fun c o y => kp c o (sAB _ _ y) (ne_of_none (s12 _ _ y) hx)) ex es ec et
              | _ => cases e2
            | _ => cases e3
          | _ => cases e1
end
end Pf

set_option Elab.async false
set_option linter.all false
set_option maxRecDepth 100000
/-! The errors' __init__. -/
namespace Pf
open PySem PySem.Spec PyProof.Rows L2
local macro_rules | `(tactic| walk_at "rd") => `(tactic| simp only [tC1, tCK, tB, rNe, rEq, tChain, gTupV, gCons, gNil, Nat.sub_self, Nat.reduceSub, List.replicate_zero, List.replicate_succ, tTest, tIfS, tIf, tNot, tAnd, tOr, tAndV, tOrV, tNotV, tDrop, tNext, rIxV, rIxP,
  gSub, rSetL, tSl, tPart, tNoPart, rSl1, tAsg2, ipI, tDNewK, tBM, rAppend, wipe, rAllB, rAnyB, iTup, iList, RZ.iZipA, iRng1, iRng2, tYes, upd_same, at0, at1, at2, at20, at21, ixN30, ixN32, HO.lst.injEq, HO.tup.injEq, Nat.reduceAdd, tSeq, tAsg, tPar, tAug, tOp, tVar, tC, tCB, tCons, tNil, rI, rI0, rU, tUn, gName, tRet, tLst, tLstM, tTup, L2.start, List.map_cons, List.map_nil, List.length_cons, List.length_nil, List.replicate, List.cons_append,
  List.nil_append, List.set_cons_zero, List.set_cons_succ, List.getElem?_cons_zero, List.getElem?_cons_succ, Option.some.injEq, V.int.injEq, V.ref.injEq, V.bl.injEq, V.str.injEq, List.cons.injEq, exists_eq_left', exists_eq_left, exists_and_left, exists_and_right, and_true, true_and, reduceCtorEq, false_and,
  exists_false, or_false, false_or, exists_const, exists_eq, exists_eq', Bool.not_true, Bool.not_false, Bool.false_eq_true, if_true, if_false, ite_true, ite_false])
section
variable {base : Heap} {P : Program} {w : World} {mg : Str → Option Value} {K : PySem.W.Frag}
/-- a def's promise by its body, whatever is under way -/
theorem okF {x qual : Str} {st : Stmt} {f : Addr} {fd : FuncData} {N ps : List Str} {k : Nat} {sp : Sp} (F : Fun K x qual st f fd) (S : FnScope N ps (defScope st)) (hlen : ∀ vs H Q E, sp vs H Q E → vs.length = ps.length)
    (bd : ∀ (cdv : Value) (A : Around) (outer : List Env) (s : Shared) (H : Hp) (vs : List V) (Q : VK) (E : XK), Room k (A.deeper (envOfC qual (defScope st) s.heap.objs.size f cdv)) → sp vs H Q E →
      ∃ t, PSs (cxOf CX0 P w K mg base N qual (defScope st) f cdv A outer s H E).nox (defBody st) t ∧ t { nx := fun _ H' => Q .non H', rt := Q } (start N vs) H) : FnOk P w K mg base CX0 (k + 1) f fd ps sp := by
  obtain ⟨_, _, _, _, _, _, cdv, _, _, hfd, lk, hcd⟩ := F.ex
  subst hfd
  constructor
  · exact hlen
  intro A outer s H args us vs Q E hr env0 bind rel promise
  have vsl := hlen vs H Q E promise
  have kin : K.In s.heap := env0.mod.kin.keeps (fun b o z => (env0.bs b o z).1)
  have nolim : s.heap.NoLimit := env0.mod.nolimit.keeps (fun b o z => (env0.bs b o z).1)
  obtain ⟨t, der, rd⟩ := bd cdv A outer s H vs Q E (hr.deeper _) promise
  refine codeAny_call_function hr.depth (kin _ _ lk) rfl S.co S.gen rfl (PySem.W.codeRec_of kin hcd) (bind _ _ _ _ (wpAny_newFunctionEnv_cells S.kind ?kinds ?enter))
  case kinds =>
    rintro ⟨n, v⟩ hy
    cases S.par n (List.of_mem_zip hy).1 with
    | inl q => exact Or.inl q
    | inr q => exact Or.inr (And.intro q (PySem.W.cellsFrom_some _ _ _ (Or.inl q)))
  case enter =>
    intro env he s1 inside
    subst he
    constructor
    · exact nolim.keeps inside.toInCall.keep
    refine codeAny_func (wpAny_mono (der.nox.run [] s1 (start N vs) H _ (inv_start S hr.hd env0 vsl rel inside) rd) ?_ (fun e s' z => z))
    intro flow s' z
    match flow, z with
    | .ret u, ⟨v, σ', H', J, rv, q⟩ => exact ⟨v, H', J.os, J.bare, J.base, J.hok, rv, q⟩
    | .next, ⟨σ', H', J, q⟩ => exact ⟨V.non, H', J.os, J.bare, J.base, J.hok, rfl, q⟩
    | .brk, ⟨_, _, _, q⟩ => exact q.elim
    | .cont, ⟨_, _, _, q⟩ => exact q.elim
theorem ok_eBadColumn {C : Addr} {f : Addr} {fd : FuncData} (F : Fun K "__init__" "BadColumn.__init__" s_BadColumn_init f fd) (oex : OexC K C) (hno : PySem.W.findIn K (.ref C) "value" = some none) : FnOk P w K mg base CX0 1 f fd ["self", "value"] (sp_err C "value") := by
  refine okF F sc_BadColumn_init (fun vs H Q E h => ?_) (fun cdv A outer s H vs Q E hr h => ?_)
  · obtain ⟨a, v, rfl, _⟩ := h
    rfl
  · obtain ⟨a, v, rfl, ea, q⟩ := h
    refine ⟨_, (pss_one (ps_ost (pv 0) (pv 1))), ?_⟩
    walk_at "rd"
    exact ⟨v, rfl, .ref a, rfl, a, C, rfl, oex, hno, .inl ⟨ea, fun dx hd ne => q dx hd ne⟩⟩
theorem ok_eBadRanges {C : Addr} {f : Addr} {fd : FuncData} (F : Fun K "__init__" "BadRanges.__init__" s_BadRanges_init f fd) (oex : OexC K C) (hno : PySem.W.findIn K (.ref C) "value" = some none) : FnOk P w K mg base CX0 1 f fd ["self", "value"] (sp_err C "value") := by
  refine okF F sc_BadRanges_init (fun vs H Q E h => ?_) (fun cdv A outer s H vs Q E hr h => ?_)
  · obtain ⟨a, v, rfl, _⟩ := h
    rfl
  · obtain ⟨a, v, rfl, ea, q⟩ := h
    refine ⟨_, (pss_one (ps_ost (pv 0) (pv 1))), ?_⟩
    walk_at "rd"
    exact ⟨v, rfl, .ref a, rfl, a, C, rfl, oex, hno, .inl ⟨ea, fun dx hd ne => q dx hd ne⟩⟩
theorem ok_eBadFlag {C : Addr} {f : Addr} {fd : FuncData} (F : Fun K "__init__" "BadFlag.__init__" s_BadFlag_init f fd) (oex : OexC K C) (hno : PySem.W.findIn K (.ref C) "value" = some none) : FnOk P w K mg base CX0 1 f fd ["self", "value"] (sp_err C "value") := by
  refine okF F sc_BadFlag_init (fun vs H Q E h => ?_) (fun cdv A outer s H vs Q E hr h => ?_)
  · obtain ⟨a, v, rfl, _⟩ := h
    rfl
  · obtain ⟨a, v, rfl, ea, q⟩ := h
    refine ⟨_, (pss_one (ps_ost (pv 0) (pv 1))), ?_⟩
    walk_at "rd"
    exact ⟨v, rfl, .ref a, rfl, a, C, rfl, oex, hno, .inl ⟨ea, fun dx hd ne => q dx hd ne⟩⟩
end
end Pf

set_option Elab.async false
set_option linter.all false
set_option maxRecDepth 100000
/-! What a call told, or which error it raised. -/
namespace Pf
open PySem PySem.Spec PyProof.Rows L2
local macro_rules | `(tactic| walk_at "rd") => `(tactic| simp only [tC1, tCK, tB, rNe, rEq, tChain, gTupV, gCons, gNil, Nat.sub_self, Nat.reduceSub, List.replicate_zero, List.replicate_succ, tTest, tIfS, tIf, tNot, tAnd, tOr, tAndV, tOrV, tNotV, tDrop, tNext, rIxV, rIxP,
  gSub, rSetL, tSl, tPart, tNoPart, rSl1, tAsg2, ipI, tDNewK, tBM, rAppend, wipe, rAllB, rAnyB, iTup, iList, RZ.iZipA, iRng1, iRng2, tYes, upd_same, at0, at1, at2, at20, at21, ixN30, ixN32, HO.lst.injEq, HO.tup.injEq, Nat.reduceAdd, tSeq, tAsg, tPar, tAug, tOp, tVar, tC, tCB, tCons, tNil, rI, rI0, rU, tUn, gName, tRet, tLst, tLstM, tTup, L2.start, List.map_cons, List.map_nil, List.length_cons, List.length_nil, List.replicate, List.cons_append,
  List.nil_append, List.set_cons_zero, List.set_cons_succ, List.getElem?_cons_zero, List.getElem?_cons_succ, Option.some.injEq, V.int.injEq, V.ref.injEq, V.bl.injEq, V.str.injEq, List.cons.injEq, exists_eq_left', exists_eq_left, exists_and_left, exists_and_right, and_true, true_and, reduceCtorEq, false_and,
  exists_false, or_false, false_or, exists_const, exists_eq, exists_eq', Bool.not_true, Bool.not_false, Bool.false_eq_true, if_true, if_false, ite_true, ite_false])
abbrev s__law_met : Stmt := topS 60
theorem sc__law_met : FnScope ["_law_call", "_law_caught", "_law_told", "error"] ["_law_call"] (defScope s__law_met) := ⟨rfl, rfl, rfl, by decide +kernel, rfl, by decide +kernel, by decide +kernel⟩
/-- the call of such a lambda, what it raises told at the caller's slots -/
def tAnsS (i : Nat) (f : Addr) (tl : XK → Hp → VK → Prop) (H0 : Hp) (W : WX) : TE := fun σ H Q => σ[i]? = some (some (.ref f)) ∧ L2.Same H0 H ∧ ∃ E : XK, (∀ cls d H', E cls d H' → W cls d σ H') ∧ tl E H Q
theorem pe_ansS {X : Cx} {i j k : Nat} {x : Str} {f : Addr} {tl : XK → Hp → VK → Prop} {p1 p2 : Pos} {W : WX} (C : AnsX X.prog X.w X.K X.mg X.base k f tl X.s_0 X.H_0 X.fs) (hex : X.ex = []) (hr : X.A.guards = some [] ∧ Room j X.A) (hk : k ≤ j) (tk : Takes X W) (hN : X.N[i]? = some x) (hv : Vis X.env.scope x)
    (hd : (x == ("__debug__" : Str)) = false := by decide) (hcd : (x == ("__classdict__" : Str)) = false := by decide) : PE X (.Call (.Name x p1) [] [] p2) (tAnsS i f tl X.H_0 W) := by
  constructor
  rintro pins s σ H Q I ⟨hs, sm, E, hW, h⟩
  refine wpAny_Call_Name_kw (thn ((pe_var (pos := p1) hN hv hd hcd).run pins s σ H (fun v H1 => v = .ref f ∧ H1 = H) I ⟨.ref f, hs, rfl, rfl⟩) ?_)
  rintro u s1 ⟨v, H1, I1, r1, rfl, rfl⟩
  obtain rfl : u = Value.ref f := r1
  have un1 : Un X.fs [] X.H_0 H1 X.s_0.heap s1.heap := hex ▸ I1.base
  refine PySem.W.callWith_F0 (C.here _ _ un1) ?_
  refine wpAny_call (codeAny_mono (C.run X.A X.stack s1 H1 Q E hr.1 (hr.2.mono hk) I1.env0 un1 sm h) ?_)
  intro res s' z
  match res, z with
  | .error e, z => exact tk e s' (XE.of_call I1 (fun cls d H' q => hW cls d H' q) z)
  | .ok (.ret u), z => exact I1.after z
  | .ok .next, z => exact z.elim
  | .ok .brk, z => exact z.elim
  | .ok .cont, z => exact z.elim
structure MetC (K : PySem.W.Frag) (cl : ClsA) : Prop where
  e1 : ExcC K cl.BadColumn
  e2 : ExcC K cl.BadRanges
  e3 : ExcC K cl.BadFlag
  x1 : XfC K cl.BadColumn
  x2 : XfC K cl.BadRanges
  x3 : XfC K cl.BadFlag
  v1 : PySem.W.findIn K (.ref cl.BadColumn) "value" = some none
  v2 : PySem.W.findIn K (.ref cl.BadRanges) "value" = some none
  v3 : PySem.W.findIn K (.ref cl.BadFlag) "value" = some none
  m1 : PySem.W.exmOne K (.ref cl.BadColumn) (.ref cl.FactsError) = some true
  m2 : PySem.W.exmOne K (.ref cl.BadRanges) (.ref cl.FactsError) = some true
  m3 : PySem.W.exmOne K (.ref cl.BadFlag) (.ref cl.FactsError) = some true
  k11 : PySem.W.kitOne K (.ref cl.BadColumn) (.ref cl.BadColumn) = some true
  k21 : PySem.W.kitOne K (.ref cl.BadRanges) (.ref cl.BadColumn) = some false
  k22 : PySem.W.kitOne K (.ref cl.BadRanges) (.ref cl.BadRanges) = some true
  k31 : PySem.W.kitOne K (.ref cl.BadFlag) (.ref cl.BadColumn) = some false
  k32 : PySem.W.kitOne K (.ref cl.BadFlag) (.ref cl.BadRanges) = some false
  k33 : PySem.W.kitOne K (.ref cl.BadFlag) (.ref cl.BadFlag) = some true
section
variable {base : Heap} {P : Program} {w : World} {mg : Str → Option Value} {K : PySem.W.Frag} {cl : ClsA}
def met_err (cl : ClsA) (Q : VK) : XK := fun cls d H' => ∃ (kd : Str) (C dd : Addr) (v : V) (dv : PyData) (b : Bool) (p : Addr), ((C = cl.BadColumn ∧ kd = "column") ∨ (C = cl.BadRanges ∧ kd = "ranges") ∨ (C = cl.BadFlag ∧ kd = "flag")) ∧ cls = .ref C ∧ d = some dd ∧
  H' dd = some (.xd [("value", v)]) ∧ Dq b p H' v dv ∧ Fits dv ∧ ∀ H'' t, Same H' H'' → H'' t = some (.tup [.str kd, .str dv.shown]) → Q (.ref t) H''
def sp_met (cl : ClsA) : (XK → Hp → VK → Prop) → Hp → VK → Prop := fun tl H Q => ∀ (H1 : Hp) (Q' : VK), Same H H1 → (∀ v H', (∀ H'' t, Same H' H'' → H'' t = some (.tup [.str "told", v]) → Q (.ref t) H'') → Q' v H') → tl (met_err cl Q) H1 Q'
theorem ok_met {f : Addr} {fd : FuncData} (F : Fun K "_law_met" "_law_met" s__law_met f fd) (T : Txt mg) (TC : TxtC mg cl) (M : MetC K cl) (hm : mg "_law_met" = some (.ref f)) (hb : Binds K fd ["_law_call"] []) : CalM P w K mg base 6 7 "_law_met" (sp_met cl) := by
  refine calM_of F sc__law_met hm hb (fun cdv A outer s H h tl Q hg hr ans want => ?_)
  replace hr := And.intro hg hr
  refine ⟨_, (pss_cons (ps_asg (pe_tup (pa_cons pe_non (pa_cons pe_non pa_nil))) (pg_tupV (n := 2) rfl (pgs_cons (pg_name (i := 1) sc__law_met.nd rfl (Or.inl rfl)) (pgs_cons (pg_name (i := 2) sc__law_met.nd rfl (Or.inl rfl)) pgs_nil))))
        (pss_cons (ps_try_kept (i := 3) rfl rfl rfl sc__law_met.nd rfl rfl ⟨by rfl, by decide, .inl TC.g_FactsError⟩ LamX.takes0 (fun W pn xe tk _ => (pss_one (ps_set (i := 2) sc__law_met.nd rfl (Or.inl rfl) (show PE _ _ (tAnsS 0 h tl H W) from pe_ansS (i := 0) ans rfl hr (by decide) tk rfl (Or.inl rfl))))) (fun _ _ _ => (pss_one (ps_set (i := 1) sc__law_met.nd rfl (Or.inl rfl) (pv 3)))))
        (pss_cons (ps_if (pt_cmpR op_isN (pv 1) pe_non (nomark _)) (pss_one (ps_ret (pe_tup (pa_cons pe_str (pa_cons (pv 2) pa_nil))))) pss_nil)
        (pss_cons (ps_if (pt_val (pe_callB call_isiX (by rfl) T.b_isinstance (by decide +kernel) (pa_cons (pv 1) (pa_cons (pe_glob (v := .ref cl.BadColumn) (by rfl) TC.g_BadColumn rfl) pa_nil)))) (pss_one (ps_ret (pe_tup (pa_cons pe_str (pa_cons (pe_callB (call_reprV hr) (by rfl) T.b_repr (by decide +kernel) (pa_cons (pe_xv (pv 1)) pa_nil)) pa_nil))))) pss_nil)
        (pss_cons (ps_if (pt_val (pe_callB call_isiX (by rfl) T.b_isinstance (by decide +kernel) (pa_cons (pv 1) (pa_cons (pe_glob (v := .ref cl.BadRanges) (by rfl) TC.g_BadRanges rfl) pa_nil)))) (pss_one (ps_ret (pe_tup (pa_cons pe_str (pa_cons (pe_callB (call_reprV hr) (by rfl) T.b_repr (by decide +kernel) (pa_cons (pe_xv (pv 1)) pa_nil)) pa_nil))))) pss_nil)
        (pss_cons (ps_if (pt_val (pe_callB call_isiX (by rfl) T.b_isinstance (by decide +kernel) (pa_cons (pv 1) (pa_cons (pe_glob (v := .ref cl.BadFlag) (by rfl) TC.g_BadFlag rfl) pa_nil)))) (pss_one (ps_ret (pe_tup (pa_cons pe_str (pa_cons (pe_callB (call_reprV hr) (by rfl) T.b_repr (by decide +kernel) (pa_cons (pe_xv (pv 1)) pa_nil)) pa_nil))))) pss_nil)
        (pss_one (ps_ret (pe_tup (pa_cons pe_str (pa_cons (pe_callB call_isiX (by rfl) T.b_isinstance (by decide +kernel) (pa_cons (pv 1) (pa_cons (pe_bltn (v := .ty "ValueError") (u := .type "ValueError") (by rfl) T.b_ValueError (by decide +kernel) rfl) pa_nil))) pa_nil))))))))))), ?_⟩
  walk_at "rd"
  refine ⟨by decide, fun p hp => ⟨_, _, ⟨rfl, rfl⟩, _, _, rfl, rfl, ?_⟩⟩
  have s1 := new_same (o := .tup [V.non, V.non]) hp
  refine ⟨rfl, s1, met_err cl Q, ?_, want _ _ s1 ?_⟩
  · rintro cls d H' ⟨kd, C, dd, v, dv, b, p', hk, rfl, rfl, ed, hv, fit, fin⟩
    rcases hk with ⟨rfl, rfl⟩ | ⟨rfl, rfl⟩ | ⟨rfl, rfl⟩
    · refine ⟨true, M.m1, fun _ a na => ?_, fun z => by cases z⟩
      have nda : dd ≠ a := ne_of_none ed na
      have sG : Same H' (upd H' a (XV a (.ref cl.BadColumn) (some dd))) := new_same na
      have eD := sG _ _ ed
      walk_at "rd"
      refine iteF ?_
      refine ⟨a, cl.BadColumn, dd, _, .ref cl.BadColumn, .ref cl.BadColumn, true, rfl, upd_same, eD, M.e1, (fun u r => r), M.k11, true, rfl, iteT ?_⟩
      exact ⟨.ref a, rfl, a, cl.BadColumn, dd, _, v, rfl, upd_same, eD, M.x1, M.v1, rfl, dv, ⟨b, p', hv.same sG⟩, fit, by decide, fun t ht => fin _ t (sG.trans (new_same ht)) upd_same⟩
    · refine ⟨true, M.m2, fun _ a na => ?_, fun z => by cases z⟩
      have nda : dd ≠ a := ne_of_none ed na
      have sG : Same H' (upd H' a (XV a (.ref cl.BadRanges) (some dd))) := new_same na
      have eD := sG _ _ ed
      walk_at "rd"
      refine iteF ?_
      refine ⟨a, cl.BadRanges, dd, _, .ref cl.BadColumn, .ref cl.BadColumn, false, rfl, upd_same, eD, M.e2, (fun u r => r), M.k21, false, rfl, iteF ?_⟩
      refine ⟨a, cl.BadRanges, dd, _, .ref cl.BadRanges, .ref cl.BadRanges, true, rfl, upd_same, eD, M.e2, (fun u r => r), M.k22, true, rfl, iteT ?_⟩
      exact ⟨.ref a, rfl, a, cl.BadRanges, dd, _, v, rfl, upd_same, eD, M.x2, M.v2, rfl, dv, ⟨b, p', hv.same sG⟩, fit, by decide, fun t ht => fin _ t (sG.trans (new_same ht)) upd_same⟩
    · refine ⟨true, M.m3, fun _ a na => ?_, fun z => by cases z⟩
      have nda : dd ≠ a := ne_of_none ed na
      have sG : Same H' (upd H' a (XV a (.ref cl.BadFlag) (some dd))) := new_same na
      have eD := sG _ _ ed
      walk_at "rd"
      refine iteF ?_
      refine ⟨a, cl.BadFlag, dd, _, .ref cl.BadColumn, .ref cl.BadColumn, false, rfl, upd_same, eD, M.e3, (fun u r => r), M.k31, false, rfl, iteF ?_⟩
      refine ⟨a, cl.BadFlag, dd, _, .ref cl.BadRanges, .ref cl.BadRanges, false, rfl, upd_same, eD, M.e3, (fun u r => r), M.k32, false, rfl, iteF ?_⟩
      refine ⟨a, cl.BadFlag, dd, _, .ref cl.BadFlag, .ref cl.BadFlag, true, rfl, upd_same, eD, M.e3, (fun u r => r), M.k33, true, rfl, iteT ?_⟩
      exact ⟨.ref a, rfl, a, cl.BadFlag, dd, _, v, rfl, upd_same, eD, M.x3, M.v3, rfl, dv, ⟨b, p', hv.same sG⟩, fit, by decide, fun t ht => fin _ t (sG.trans (new_same ht)) upd_same⟩
  · intro v H' told
    walk_at "rd"
    exact iteT ⟨by decide, fun t ht => told _ t (new_same ht) upd_same⟩
end
end Pf

set_option Elab.async false
set_option linter.all false
set_option maxRecDepth 100000
/-! spans, in, is_integer, is_set -/
namespace Pf
open PySem PySem.Spec PyProof.Rows L2
local macro_rules | `(tactic| walk_at "rd") => `(tactic| simp only [tC1, tCK, tB, rNe, rEq, tChain, gTupV, gCons, gNil, Nat.sub_self, Nat.reduceSub, List.replicate_zero, List.replicate_succ, tTest, tIfS, tIf, tNot, tAnd, tOr, tAndV, tOrV, tNotV, tDrop, tNext, rIxV, rIxP,
  gSub, rSetL, tSl, tPart, tNoPart, rSl1, tAsg2, ipI, tDNewK, tBM, rAppend, wipe, rAllB, rAnyB, iTup, iList, RZ.iZipA, iRng1, iRng2, tYes, upd_same, at0, at1, at2, at20, at21, ixN30, ixN32, HO.lst.injEq, HO.tup.injEq, Nat.reduceAdd, tSeq, tAsg, tPar, tAug, tOp, tVar, tC, tCB, tCons, tNil, rI, rI0, rU, tUn, gName, tRet, tLst, tLstM, tTup, L2.start, List.map_cons, List.map_nil, List.length_cons, List.length_nil, List.replicate, List.cons_append,
  List.nil_append, List.set_cons_zero, List.set_cons_succ, List.getElem?_cons_zero, List.getElem?_cons_succ, Option.some.injEq, V.int.injEq, V.ref.injEq, V.bl.injEq, V.str.injEq, List.cons.injEq, exists_eq_left', exists_eq_left, exists_and_left, exists_and_right, and_true, true_and, reduceCtorEq, false_and,
  exists_false, or_false, false_or, exists_const, exists_eq, exists_eq', Bool.not_true, Bool.not_false, Bool.false_eq_true, if_true, if_false, ite_true, ite_false])
abbrev s__law_spans : Stmt := topS 54
theorem sc__law_spans : FnScope ["_law_pot_here", "_law_most", "_law_low", "_law_high", "_law_wide", "_law_found", "_law_here", "_law_turn", "_law_end"] ["_law_pot_here", "_law_most", "_law_low", "_law_high"] (defScope s__law_spans) := ⟨rfl, rfl, rfl, by decide +kernel, rfl, by decide +kernel, by decide +kernel⟩
abbrev s__law_is_integer : Stmt := topS 55
theorem sc__law_is_integer : FnScope ["_law_thing"] ["_law_thing"] (defScope s__law_is_integer) := ⟨rfl, rfl, rfl, by decide +kernel, rfl, by decide +kernel, by decide +kernel⟩
abbrev s__law_is_set : Stmt := topS 56
theorem sc__law_is_set : FnScope ["_law_thing", "_law_pair", "_law_at", "_law_low", "_law_high", "_law_one"] ["_law_thing"] (defScope s__law_is_set) := ⟨rfl, rfl, rfl, by decide +kernel, rfl, by decide +kernel, by decide +kernel⟩
section
variable {base : Heap} {P : Program} {w : World} {mg : Str → Option Value} {K : PySem.W.Frag}
def Far (q : Int × Int) : Prop := -(2 ^ 120) < q.1 ∧ q.1 < 2 ^ 120 ∧ -(2 ^ 120) < q.2 ∧ q.2 < 2 ^ 120
def sp_spans : Sp := fun vs H Q _ => ∃ (p : Addr) (most : Nat) (low high : Int) (m : Nat), vs = [.ref p, .int most, .int low, .int high] ∧ Pot H p m ∧ m + 100 < 1000000 ∧ most ≤ 20 ∧ -(2 ^ 110) < low ∧ low ≤ high ∧ high < 2 ^ 110 ∧
  ∀ (H' : Hp) (t : Addr) (xs : List V) (ps : List (Int × Int)), Kp p H H' → Pot H' p (m + 60) → H' t = some (.tup xs) → PrAll H' xs ps → ps.length ≤ most → (∀ q ∈ ps, Far q) → Q (.ref t) H'
theorem ok_spans {f : Addr} {fd : FuncData} (F : Fun K "_law_spans" "_law_spans" s__law_spans f fd) (T : Txt mg) (C__law_draw : Cal P w K mg base 1 "_law_draw" sp_draw) (C__law_any : Cal P w K mg base 2 "_law_any" sp_any) :
    FnG P w K mg base 3 f fd ["_law_pot_here", "_law_most", "_law_low", "_law_high"] sp_spans := by
  refine okG F sc__law_spans (fun vs H Q E h => ?_) (fun cdv A outer s H vs Q E hg hr h => ?_)
  · obtain ⟨p, most, low, high, m, rfl, _⟩ := h
    rfl
  · obtain ⟨p, most, low, high, m, rfl, hp, hm, h1, h2, h3, h4, q⟩ := h
    replace hr := And.intro hg hr
    refine ⟨_, (pss_cons (ps_set (i := 4) sc__law_spans.nd rfl (Or.inl rfl) (pe_op op_fdivW (pe_op op_sub (pv 3) (pv 2)) pe_int))
        (pss_cons (ps_par (i := 5) (j := 6) (by rfl) sc__law_spans.nd rfl rfl (by decide) rfl rfl (pa_cons (pe_lst pa_nil) (pa_cons (pe_op op_add (pv 2) (pe_c C__law_draw hr (by decide) (by rfl) (pa_cons (pv 0) (pa_cons (pe_op op_add pe_int (pe_op op_fdivW (pe_op op_sub (pv 3) (pv 2)) pe_int)) pa_nil)))) pa_nil)) (by rfl))
        (pss_cons (ps_for PassesOwn.never rfl (pi_range1 (by rfl) T.b_range (pa_cons (pe_c C__law_draw hr (by decide) (by rfl) (pa_cons (pv 0) (pa_cons (pe_op op_add (pv 1) pe_int) pa_nil))) pa_nil)) (pg_name (i := 7) sc__law_spans.nd rfl (Or.inl rfl)) (pss_cons (ps_set (i := 8) sc__law_spans.nd rfl (Or.inl rfl) (pe_op op_add (pv 6) (pe_c C__law_any hr (by decide) (by rfl) (pa_cons (pv 0) (pa_cons (pe_lst (pa_cons pe_int (pa_cons pe_int (pa_cons pe_int (pa_cons pe_int (pa_cons pe_int (pa_cons (pv 4) pa_nil))))))) pa_nil)))))
        (pss_one (ps_if (pt_cmpR op_le (pv 8) (pv 3) (nomark _)) (pss_cons (ps_expr (pe_bm PySem.F.plainAttrs_list PySem.F.slot_list_append PySem.F.type_list_append mt_append (pv 5) (pa_cons (pe_tup (pa_cons (pv 6) (pa_cons (pv 8) pa_nil))) pa_nil)))
        (pss_one (ps_set (i := 6) sc__law_spans.nd rfl (Or.inl rfl) (pe_op op_add (pe_op op_add (pv 8) pe_int) (pe_c C__law_any hr (by decide) (by rfl) (pa_cons (pv 0) (pa_cons (pe_lst (pa_cons pe_int (pa_cons pe_int (pa_cons pe_int (pa_cons pe_int (pa_cons (pv 4) pa_nil)))))) pa_nil))))))) pss_nil))))
        (pss_one (ps_ret (pe_callTy call_tupleL (by rfl) T.b_tuple (by decide +kernel) (pa_cons (pv 5) pa_nil))))))), ?_⟩
    walk_at "rd"
    refine ⟨⟨by decide, by decide⟩, Nat.zero_le _, fun l hl => ⟨⟨by decide, by decide⟩, ?_⟩⟩
    have s0 : Same H (upd H l (.lst [])) := new_same hl
    obtain ⟨ys, ep⟩ := hp.lst
    have nlp : l ≠ p := fun z => by rw [← z, hl] at ep; cases ep
    refine ⟨p, _, m, rfl, hp.same s0, by omega, by omega, by omega, fun H1 r k1 p1 r0 r1 => ⟨r, rfl, _, _, ⟨rfl, rfl⟩, ?_⟩⟩
    refine ⟨.ref p, rfl, .int most, rfl, (most : Int), 1, rfl, rfl, p, _, m + 1, rfl, p1, by omega, by omega, by omega, fun H2 r2 k2 p2 a0 a1 => ?_⟩
    have k12 : Kp p H H2 := (Kp.of s0).trans (k1.trans k2)
    have l2 : H2 l = some (.lst []) := k2 _ _ nlp (k1 _ _ nlp upd_same)
    refine ⟨r2, rfl, by omega, by omega, for_range (lo := 0) (n := r2.toNat) (fun i σ H' => ∃ (here : Int) (t e : Option V) (xs : List V) (ps : List (Int × Int)), σ = [some (.ref p), some (.int most), some (.int low), some (.int high), some (.int ((high - low) / 9)), some (.ref l), some (.int here), t, e] ∧
      Kp p H H' ∧ Pot H' p (m + 2 + 2 * i) ∧ H' l = some (.lst xs) ∧ PrAll H' xs ps ∧ ps.length ≤ i ∧ (∀ q ∈ ps, Far q) ∧ low ≤ here ∧ here ≤ high + (high - low) / 9 + 10) ?_ ?_ ?_⟩
    · exact ⟨_, _, _, [], [], rfl, k12, p2, l2, .nil, Nat.le_refl _, fun _ z => (List.not_mem_nil z).elim, by omega, by omega⟩
    · rintro i σ H3 hi ⟨here, t, e, xs, ps, rfl, k3, p3, l3, pr, hn, fr, b1, b2⟩
      walk_at "rd"
      refine ⟨by decide, fun L hL => ?_⟩
      have hL0 : H3 p ≠ none := fun z => by obtain ⟨_, z2⟩ := p3.lst; rw [z] at z2; cases z2
      have nLp : L ≠ p := fun z => hL0 (z ▸ hL)
      refine ⟨p, L, _, _, rfl, p3.same (new_same hL), by omega, nLp, upd_same, by simp, by simp, fun H4 x k4 p4 mx => ?_⟩
      obtain ⟨u, rfl, u0, u1⟩ := menu6 (show 0 ≤ (high - low) / 9 by omega) (by decide) (by decide) (by decide) mx
      refine ⟨u, rfl, ?_⟩
      have l4 : H4 l = some (.lst xs) := k4 _ _ nlp (new_same hL _ _ l3)
      obtain ⟨y3, e3⟩ := p3.lst
      have t4 : TK H3 H4 := (TK.of (new_same hL)).trans (TK.kp k4 (new_same hL _ _ e3))
      have kp4 : Kp p H H4 := k3.trans ((Kp.of (new_same hL)).trans k4)
      have xl := pr.len
      refine ite2 (fun c => ?_) (fun c => ?_)
      · have c' : here + u ≤ high := of_decide_eq_true c
        refine ⟨Or.inl ⟨rfl, xs, SqL.of l4⟩, by decide, fun T hT => ?_⟩
        have nlT : l ≠ T := ne_of_none l4 hT
        have lA : upd H4 T (.tup [V.int here, V.int (here + u)]) l = some (.lst xs) := by rw [upd_ne nlT]; exact l4
        refine ⟨xs, lA, Nat.lt_of_le_of_lt (show xs.length ≤ 20 by omega) (by decide), by decide, fun M hM => ?_⟩
        obtain ⟨zs, e4⟩ := p4.lst
        have npT : p ≠ T := ne_of_none e4 hT
        have pB : Pot (upd (upd H4 T (.tup [V.int here, V.int (here + u)])) l (.lst (xs ++ [V.ref T]))) p (m + 2 + 2 * i + 1) := p4.eq (by rw [upd_ne nlp.symm, upd_ne npT])
        obtain ⟨zB, eB⟩ := pB.lst
        have nlM : l ≠ M := ne_of_none upd_same hM
        refine ⟨p, M, _, _, rfl, pB.same (new_same hM), by omega, (fun z => by rw [z, eB] at hM; cases hM), upd_same, by simp, by simp, fun H5 y k5 p5 my => ?_⟩
        obtain ⟨v, rfl, v0, v1⟩ := menu5 (show 0 ≤ (high - low) / 9 by omega) (by decide) (by decide) my
        have tA : TK H4 (upd H4 T (.tup [V.int here, V.int (here + u)])) := TK.of (new_same hT)
        have tB := (TK.put lA (o := .lst (xs ++ [V.ref T]))).trans ((TK.of (new_same hM)).trans (TK.kp k5 ((new_same hM) _ _ eB)))
        have l5 := k5 _ _ nlp (new_same hM _ _ upd_same)
        have kB : Kp p H (upd (upd H4 T (.tup [V.int here, V.int (here + u)])) l (.lst (xs ++ [V.ref T]))) := (kp4.trans (Kp.of (new_same hT))).putNew hl
        refine ⟨v, rfl, kB.trans ((Kp.of (new_same hM)).trans k5), p5.up (by omega), _, l5, ps ++ [(here, here + u)], (pr.tk (t4.trans (tA.trans tB))).snoc ⟨T, rfl, tB _ _ upd_same⟩, by rw [List.length_append]; simp; omega, fun q hq => ?_, by omega, by omega⟩
        rcases List.mem_append.mp hq with hq | hq
        · exact fr q hq
        · have eq : q = (here, here + u) := by simpa using hq
          rw [eq]
          exact ⟨by show -(2 ^ 120) < here; omega, by show here < 2 ^ 120; omega, by show -(2 ^ 120) < here + u; omega, by show here + u < 2 ^ 120; omega⟩
      · exact ⟨kp4, p4.up (by omega), xs, l4, ps, pr.tk t4, by omega, fr, b1, b2⟩
    · rintro σ H3 ⟨here, t, e, xs, ps, rfl, k3, p3, l3, pr, hn, fr, b1, b2⟩
      walk_at "rd"
      exact ⟨xs, l3, fun t ht => q _ t xs ps (k3.trans (Kp.of (new_same ht))) ((p3.same (new_same ht)).up (by omega)) upd_same (pr.tk (TK.of (new_same ht))) (by omega) fr⟩
theorem ok_integer {f : Addr} {fd : FuncData} (F : Fun K "_law_is_integer" "_law_is_integer" s__law_is_integer f fd) (T : Txt mg) : FnG P w K mg base 1 f fd ["_law_thing"] sp_number := by
  refine okG F sc__law_is_integer (fun vs H Q E h => ?_) (fun cdv A outer s H vs Q E hg hr h => ?_)
  · obtain ⟨v, d, b, p, rfl, _⟩ := h
    rfl
  · obtain ⟨v, d, b, p, rfl, hd, q⟩ := h
    refine ⟨_, (pss_one (ps_ret (pe_and (pe_callB call_isiInt (by rfl) T.b_isinstance (by decide +kernel) (pa_cons (pv 0) (pa_cons (pe_bltn (v := .ty "int") (u := .type "int") (by rfl) T.b_int (by decide +kernel) rfl) pa_nil))) (pe_one (pe_not (pe_callB call_isiBool (by rfl) T.b_isinstance (by decide +kernel) (pa_cons (pv 0) (pa_cons (pe_bltn (v := .ty "bool") (u := .type "bool") (by rfl) T.b_bool (by decide +kernel) rfl) pa_nil)))))))), ?_⟩
    walk_at "rd"
    refine ⟨d, ⟨b, p, hd⟩, ?_⟩
    cases d with
    | int i => exact ⟨.int i, ⟨b, p, hd⟩, q⟩
    | bool i => exact ⟨.bool i, ⟨b, p, hd⟩, q⟩
    | none => exact q
    | str x => exact q
    | list x => exact q
    | tuple x => exact q
    | dict x => exact q
theorem ok_set {f : Addr} {fd : FuncData} (F : Fun K "_law_is_set" "_law_is_set" s__law_is_set f fd) (T : Txt mg) (C__law_is_integer : Cal P w K mg base 1 "_law_is_integer" sp_number) : FnG P w K mg base 3 f fd ["_law_thing"] sp_ranges := by
  refine okG F sc__law_is_set (fun vs H Q E h => ?_) (fun cdv A outer s H vs Q E hg hr h => ?_)
  · obtain ⟨v, d, b, p, rfl, _⟩ := h
    rfl
  · obtain ⟨v, d, b, p, rfl, hd, hz, q⟩ := h
    replace hr := And.intro hg hr
    refine ⟨_, (pss_cons (ps_if (pt_not (pt_val (pe_callB call_isiTup (by rfl) T.b_isinstance (by decide +kernel) (pa_cons (pv 0) (pa_cons (pe_bltn (v := .ty "tuple") (u := .type "tuple") (by rfl) T.b_tuple (by decide +kernel) rfl) pa_nil))))) (pss_one (ps_ret pe_bl)) pss_nil)
        (pss_cons (ps_for PassesOwn.never rfl (pi_tup (pv 0)) (pg_name (i := 1) sc__law_is_set.nd rfl (Or.inl rfl)) (pss_one (ps_if (PW.pt (pw_or (pt_not (pt_val (pe_callB call_isiTup (by rfl) T.b_isinstance (by decide +kernel) (pa_cons (pv 1) (pa_cons (pe_bltn (v := .ty "tuple") (u := .type "tuple") (by rfl) T.b_tuple (by decide +kernel) rfl) pa_nil))))) (pw_or (pt_cmpR op_ne (pe_callB call_lenT (by rfl) T.b_len (by decide +kernel) (pa_cons (pv 1) pa_nil)) pe_int (nomark _)) (pw_or1 (pt_not (pt_val (pe_callB (call_allB rfl) (by rfl) T.b_all (by decide +kernel) (pa_cons (pe_lc (own := [("_law_one", 5)]) (g := gName 5) (tt := tYes) rfl sc__law_is_set.nd (pi_tup (pv 1)) (blkOk_by (own := [("_law_one", 5)]) (N := ["_law_thing", "_law_pair", "_law_at", "_law_low", "_law_high", "_law_one"]) (sc := defScope s__law_is_set) (by decide +kernel)) (fun _ _ _ _ _ => (pg_name (i := 5) sc__law_is_set.nd rfl (Or.inl rfl))) (fun _ _ _ _ _ => pts_nil) (fun _ _ _ _ _ => (pe_c C__law_is_integer hr (by decide) (by rfl) (pa_cons (pv 5) pa_nil)))) pa_nil)))))))) (pss_one (ps_ret pe_bl)) pss_nil)))
        (pss_cons (ps_if (pt_not (pt_val (pe_callB (call_allB rfl) (by rfl) T.b_all (by decide +kernel) (pa_cons (pe_lc (own := [("_law_low", 3), ("_law_high", 4)]) (g := gTupV 2 (gCons (gName 3) (gCons (gName 4) gNil))) (tt := tYes) rfl sc__law_is_set.nd (pi_tup (pv 0)) (blkOk_by (own := [("_law_low", 3), ("_law_high", 4)]) (N := ["_law_thing", "_law_pair", "_law_at", "_law_low", "_law_high", "_law_one"]) (sc := defScope s__law_is_set) (by decide +kernel)) (fun _ _ _ _ _ => (pg_tupV (n := 2) rfl (pgs_cons (pg_name (i := 3) sc__law_is_set.nd rfl (Or.inl rfl)) (pgs_cons (pg_name (i := 4) sc__law_is_set.nd rfl (Or.inl rfl)) pgs_nil)))) (fun _ _ _ _ _ => pts_nil) (fun _ _ _ _ _ => (pe_cmpR op_le (pv 3) (pv 4) (nomark _)))) pa_nil)))) (pss_one (ps_ret pe_bl)) pss_nil)
        (pss_one (ps_ret (pe_callB (call_allB rfl) (by rfl) T.b_all (by decide +kernel) (pa_cons (pe_lc (own := [("_law_at", 2)]) (g := gName 2) (tt := tYes) rfl sc__law_is_set.nd (pi_range1 (by rfl) T.b_range (pa_cons (pe_op op_sub (pe_callB call_lenT (by rfl) T.b_len (by decide +kernel) (pa_cons (pv 0) pa_nil)) pe_int) pa_nil)) (blkOk_by (own := [("_law_at", 2)]) (N := ["_law_thing", "_law_pair", "_law_at", "_law_low", "_law_high", "_law_one"]) (sc := defScope s__law_is_set) (by decide +kernel)) (fun _ _ _ _ _ => (pg_name (i := 2) sc__law_is_set.nd rfl (Or.inl rfl))) (fun _ _ _ _ _ => pts_nil) (fun _ _ _ _ _ => (pe_cmpR op_le (pe_op op_add (pe_ix ix_t (pe_ix ix_t (pv 0) (pv 2) (fun _ _ => rfl)) pe_int (fun _ _ => rfl)) pe_int) (pe_ix ix_t (pe_ix ix_t (pv 0) (pe_op op_add (pv 2) pe_int) (fun _ _ => rfl)) pe_int (fun _ _ => rfl)) (nomark _)))) pa_nil))))))), ?_⟩
    walk_at "rd"
    refine ⟨d, ⟨b, p, hd⟩, ?_⟩
    cases hd with
    | @tup a xs ds g ne ha =>
      refine iteF ?_
      have len := ha.length
      have small := hz ds rfl
      have big : (1000 : Nat) ≤ sizeLine := by decide
      refine ⟨.ref a, rfl, a, rfl, ⟨xs, SqT.of g⟩, for_tup (K := K) (xs := xs) (fun i σ H' => ∃ t : Option V, σ = [some (.ref a), t, none, none, none, none] ∧ Same H H' ∧ ∀ j, j < i → j < ds.length → ∃ q, pairOf (ds.getD j .none) = some q) ⟨none, rfl, Same.refl _, fun j hj => absurd hj (Nat.not_lt_zero _)⟩
        (fun i σ H' _ ⟨_, _, s1, _⟩ => s1.seqT (SqT.of g)) ?_ ?_⟩
      · rintro i x σ H1 hx ⟨t, rfl, s1, hp⟩
        obtain ⟨e, he, hq⟩ := ha.get hx
        have hq1 := hq.same s1
        have hi : i < ds.length := (List.getElem?_eq_some_iff.mp he).1
        have stop : isPairD e = false → ∀ H', Same H H' → Q (.bl false) H' := fun z H' s' => by
          have := q H' s'
          rw [not_ranges he z] at this
          exact this
        walk_at "rd"
        refine ⟨e, ⟨b, p, hq1⟩, ?_⟩
        cases hq1 with
        | @tup c ys es gc nc hc =>
          refine iteF ?_
          have yl := hc.length
          have el : ds.getD i .none = .tuple es := by
            have := getD_at hi
            rw [he] at this
            exact (Option.some.inj this).symm
          simp only [gc, Option.some.injEq, HO.tup.injEq, exists_eq_left', V.ref.injEq]
          refine ⟨rfl, ?_⟩
          by_cases n2 : es.length = 2
          · rw [if_neg (by rw [yl, n2]; decide)]
            refine ⟨.ref c, rfl, c, rfl, ⟨ys, SqT.of gc⟩, lcMap (walk_tup (xs := ys)) ((es.map isNumD).map V.bl) (by simp [yl]) (by omega) (fun H2 s2 => s2.seqT (SqT.of gc)) (fun k x2 H2 H3 y R ho s2 hy kk => ?_) (fun H2 D hD s2 hL => ?_)⟩
            · obtain ⟨rfl, hx2⟩ := hy
              obtain ⟨e2, he2, hq2⟩ := hc.get hx2
              have ey : y = .bl (isNumD e2) := by
                rw [List.getElem?_map, List.getElem?_map, he2] at ho
                exact (Option.some.inj ho).symm
              subst ey
              refine ⟨rfl, ?_⟩
              walk_at "rd"
              exact ⟨x2, e2, b, p, rfl, hq2.same s2, kk _ (Same.refl _)⟩
            · refine ⟨D, rfl, es.map isNumD, hL, ?_⟩
              have ee : (es.map isNumD).all id = es.all isNumD := by rw [List.all_map]; rfl
              rw [ee]
              cases al : es.all isNumD with
              | false =>
                refine iteT (stop (not_pair ?_) _ (s1.trans s2))
                cases z : pairOf (.tuple es) with
                | none => rfl
                | some u =>
                  rw [(pair_some z).2] at al
                  cases al
              | true =>
                refine iteF ⟨s1.trans s2, fun j h1 h2 => ?_⟩
                by_cases ej : j = i
                · rw [ej, el]
                  exact pair_intro n2 al
                · exact hp j (by omega) h2
          · rw [if_pos (by rw [yl, decide_eq_false (fun z => n2 (by omega))]; rfl)]
            refine stop (not_pair (pairOf_len n2)) _ s1
        | non => exact iteT (stop rfl _ s1)
        | bl x => exact iteT (stop rfl _ s1)
        | int x => exact iteT (stop rfl _ s1)
        | str x => exact iteT (stop rfl _ s1)
        | lst g _ _ _ => exact iteT (stop rfl _ s1)
        | dc0 _ g _ => exact iteT (stop rfl _ s1)
        | dc1 _ g _ _ => exact iteT (stop rfl _ s1)
      · rintro σ H1 ⟨t, rfl, s1, hp⟩
        have pr : ∀ {i : Nat} {d : PyData}, ds[i]? = some d → ∃ l r, pairOf d = some (l, r) := fun {i d} e => by
          have hi := (List.getElem?_eq_some_iff.mp e).1
          obtain ⟨u, hu⟩ := hp i (by omega) hi
          rw [getD_at hi] at e
          cases e
          exact ⟨u.1, u.2, hu⟩
        have ha1 := ha.same s1
        refine ⟨.ref a, rfl, a, rfl, ⟨xs, SqT.of (s1 _ _ g)⟩, lcMap (walk_tup (xs := xs)) ((ds.map isPairD).map V.bl) (by simp [len]) (by omega) (fun H2 s2 => s2.seqT (SqT.of (s1 _ _ g))) (fun k x2 H2 H3 y R ho s2 hy kk => ?_) (fun H2 D hD s2 hL => ?_)⟩
        · obtain ⟨rfl, hx2⟩ := hy
          obtain ⟨e2, he2, hq2⟩ := ha1.get hx2
          obtain ⟨l, r, pe⟩ := pr he2
          obtain ⟨t2, rfl, ht⟩ := (hq2.same s2).pair pe
          have ey : y = .bl (decide (l ≤ r)) := by
            rw [List.getElem?_map, List.getElem?_map, he2] at ho
            rw [← Option.some.inj ho]
            show V.bl (isPairD e2) = _
            unfold isPairD
            rw [pe]
          subst ey
          walk_at "rd"
          simp only [ht, Option.some.injEq, HO.tup.injEq, exists_eq_left']
          walk_at "rd"
          exact ⟨_, _, ⟨rfl, rfl⟩, _, _, rfl, rfl, _, rfl, _, rfl, kk _ (Same.refl _)⟩
        · refine ⟨D, ds.map isPairD, rfl, hL, ?_⟩
          have ee : (ds.map isPairD).all id = ds.all isPairD := by rw [List.all_map]; rfl
          rw [ee]
          have ga := s2 _ _ (s1 _ _ g)
          have ha2 := ha1.same s2
          walk_at "rd"
          cases al : ds.all isPairD with
          | false =>
            have er : isRangesD (.tuple ds) = false := by show (ds.all isPairD && (stepsD ds).all id) = _; rw [al]; rfl
            rw [er] at q
            exact iteT (q _ (s1.trans s2))
          | true =>
            have er : isRangesD (.tuple ds) = (stepsD ds).all id := by show (ds.all isPairD && (stepsD ds).all id) = _; rw [al]; rfl
            rw [er] at q
            refine iteF ?_
            refine ⟨.ref a, rfl, a, rfl, xs, ga, (xs.length : Int), 1, rfl, rfl, (xs.length : Int) - 1, rfl, by omega, by omega, lcMap (walk_range (n := ((xs.length : Int) - 1).toNat)) ((stepsD ds).map V.bl) (by rw [List.length_map, stepsD_len, ← len]; omega) (by omega) (fun _ _ => trivial) (fun k x2 H3 H4 y R ho s3 hy kk => ?_) (fun H3 D2 hD2 s3 hL2 => ?_)⟩
            · obtain ⟨rfl, rfl⟩ := hy
              have hk : k + 1 < ds.length := by
                have h1 : k < ((stepsD ds).map V.bl).length := (List.getElem?_eq_some_iff.mp ho).1
                rw [List.length_map, stepsD_len] at h1
                omega
              have g1 : xs[k]? = some xs[k] := List.getElem?_eq_getElem (by omega)
              have g2 : xs[k + 1]? = some xs[k + 1] := List.getElem?_eq_getElem (by omega)
              obtain ⟨d1, e1, q1⟩ := ha2.get g1
              obtain ⟨d2, e2, q2⟩ := ha2.get g2
              obtain ⟨l1, h1, p1⟩ := pr e1
              obtain ⟨l2, h2, p2⟩ := pr e2
              obtain ⟨t1, z1, u1⟩ := (q1.same s3).pair p1
              obtain ⟨t2, z2, u2⟩ := (q2.same s3).pair p2
              have ey : y = .bl (decide (h1 + 2 ≤ l2)) := by
                rw [List.getElem?_map, stepsD_get e1 e2] at ho
                rw [← Option.some.inj ho]
                show V.bl (stepD d1 d2) = _
                unfold stepD
                rw [p1, p2]
              subst ey
              have i1 : atI xs (0 + (k : Int)) = some (.ref t1) := by rw [Int.zero_add]; exact atI_nat (by rw [g1, z1])
              have i2 : atI xs (0 + (k : Int) + 1) = some (.ref t2) := by rw [Int.zero_add]; exact atI_nat (j := k + 1) (by rw [g2, z2])
              have ga3 := s3 _ _ ga
              refine ⟨rfl, ?_⟩
              walk_at "rd"
              simp only [ga3, i1, i2, u1, u2, at20, at21, Option.some.injEq, V.int.injEq, V.ref.injEq, HO.tup.injEq, exists_eq_left']
              exact kk _ (Same.refl _)
            · exact ⟨D2, rfl, stepsD ds, hL2, q _ ((s1.trans s2).trans s3)⟩
    | non => exact iteT (q _ (Same.refl _))
    | bl x => exact iteT (q _ (Same.refl _))
    | int x => exact iteT (q _ (Same.refl _))
    | str x => exact iteT (q _ (Same.refl _))
    | lst g _ _ _ => exact iteT (q _ (Same.refl _))
    | dc0 _ g _ => exact iteT (q _ (Same.refl _))
    | dc1 _ g _ _ => exact iteT (q _ (Same.refl _))
end
end Pf

set_option Elab.async false
set_option linter.all false
set_option maxRecDepth 100000
/-! The drawn values. -/
namespace Pf
open PySem PySem.Spec PyProof.Rows L2
local macro_rules | `(tactic| walk_at "rd") => `(tactic| simp only [tC1, tCK, tB, rNe, rEq, tChain, gTupV, gCons, gNil, Nat.sub_self, Nat.reduceSub, List.replicate_zero, List.replicate_succ, tTest, tIfS, tIf, tNot, tAnd, tOr, tAndV, tOrV, tNotV, tDrop, tNext, rIxV, rIxP,
  gSub, rSetL, tSl, tPart, tNoPart, rSl1, tAsg2, ipI, tDNewK, tBM, rAppend, wipe, rAllB, rAnyB, iTup, iList, RZ.iZipA, iRng1, iRng2, tYes, upd_same, at0, at1, at2, at20, at21, ixN30, ixN32, HO.lst.injEq, HO.tup.injEq, Nat.reduceAdd, tSeq, tAsg, tPar, tAug, tOp, tVar, tC, tCB, tCons, tNil, rI, rI0, rU, tUn, gName, tRet, tLst, tLstM, tTup, L2.start, List.map_cons, List.map_nil, List.length_cons, List.length_nil, List.replicate, List.cons_append,
  List.nil_append, List.set_cons_zero, List.set_cons_succ, List.getElem?_cons_zero, List.getElem?_cons_succ, Option.some.injEq, V.int.injEq, V.ref.injEq, V.bl.injEq, V.str.injEq, List.cons.injEq, exists_eq_left', exists_eq_left, exists_and_left, exists_and_right, and_true, true_and, reduceCtorEq, false_and,
  exists_false, or_false, false_or, exists_const, exists_eq, exists_eq', Bool.not_true, Bool.not_false, Bool.false_eq_true, if_true, if_false, ite_true, ite_false])
theorem Sz.dict {n k : Nat} {x : Str} {d : PyData} (h : Sz n k d) (hx : (reprText x).length ≤ 10 ∧ PyData.strOk (reprText x) = true) : Sz (n + 20) (k + 1) (.dict [(.str x, d)]) := by
  obtain ⟨h1, h2, h3, h4⟩ := h
  obtain ⟨hx, hx2⟩ := hx
  refine ⟨by simp only [PyData.showable, PyData.showableKv, h1, Bool.and_self, Bool.true_and], ?_, by simp only [PyData.depth, PyData.depthKv]; omega, Bool.and_eq_true_iff.mpr ⟨by
    simp only [PyData.shown, PyData.shownKv, dictText, Str.join]
    exact strOk_app (strOk_app (strOk_of _) (strOk_app (strOk_app hx2 (strOk_of _)) (Bool.and_eq_true_iff.mp h4).1)) (strOk_of _), rfl⟩⟩
  have := dictText_len_le (PyData.shownKv [(.str x, d)])
  have e2 : (": " : Str).length = 2 := by decide +kernel
  simp only [PyData.shown]
  simp only [PyData.shownKv, PyData.shown, List.map_cons, List.map_nil, List.sum_cons, List.sum_nil, List.length_cons, List.length_nil, strLen_append, e2] at this ⊢
  omega
def consts : List PyData := [.none, .bool true, .bool false, .int 0, .int 1, .int (-1), .int (10 ^ Int.toNat 30), .str "", .str "a", .str "and", .str "or", .str "A", .str "ab", .str "abcdefgh", .str "abcdefghi", .tuple [],
  .list [], .dict [], .tuple [.int 0, .int 1], .tuple [.tuple [.int 0, .int 1]], .list [.tuple [.int 0, .int 1]], .tuple [.tuple [.int 1, .int 0]], .tuple [.tuple [.int 0, .bool true]],
  .tuple [.tuple [.int 0, .int 1], .tuple [.int 2, .int 3]], .tuple [.tuple [.int 0, .int 1, .int 2]]]
theorem consts_sz : consts.all (szB 60 3) = true := by decide +kernel
theorem DqAll.mem {b : Bool} {p : Addr} {H : Hp} : ∀ {vs : List V} {ds : List PyData}, DqAll b p H vs ds → ∀ v ∈ vs, ∃ d, d ∈ ds ∧ Dq b p H v d
  | _, _, .nil, v, h => (List.not_mem_nil h).elim
  | _, _, .cons h t, v, m => by
    rcases List.mem_cons.mp m with e | m
    · rw [e]
      exact ⟨_, List.mem_cons_self, h⟩
    · obtain ⟨d, h1, h2⟩ := DqAll.mem t v m
      exact ⟨d, List.mem_cons_of_mem _ h1, h2⟩
abbrev s__law_odd : Stmt := topS 53
theorem sc__law_odd : FnScope ["_law_pot_here", "_law_some", "_law_found", "_law_turn"] ["_law_pot_here"] (defScope s__law_odd) := ⟨rfl, rfl, rfl, by decide +kernel, rfl, by decide +kernel, by decide +kernel⟩
mutual
theorem Dq.keep2 {p c : Addr} {H H' : Hp} (k : Kp p H H') : ∀ (d : PyData) (v : V), Dq true p H v d → Dq true c H v d → Dq true c H' v d
  | .none, _, _, h => by cases h; exact .non
  | .bool x, _, _, h => by cases h; exact .bl x
  | .int x, _, _, h => by cases h; exact .int x
  | .str x, _, _, h => by cases h; exact .str x
  | .list ds, _, h1, h2 => by
    cases h1 with
    | lst g ne sm ha =>
      cases h2 with
      | lst g2 ne2 sm2 ha2 =>
        rw [g] at g2
        cases g2
        exact .lst (k _ _ ne g) ne2 sm2 (Dq.keep2All k ds _ ha ha2)
  | .tuple ds, _, h1, h2 => by
    cases h1 with
    | tup g ne ha =>
      cases h2 with
      | tup g2 ne2 ha2 =>
        rw [g] at g2
        cases g2
        exact .tup (k _ _ ne g) ne2 (Dq.keep2All k ds _ ha ha2)
  | .dict kvs, _, h1, h2 => by
    cases h1 with
    | dc0 t g ne =>
      cases h2 with
      | dc0 t2 g2 ne2 => exact .dc0 t2 (k _ _ ne g) ne2
    | @dc1 a x v d t g ne hd =>
      cases h2 with
      | dc1 t2 g2 ne2 hd2 =>
        rw [g] at g2
        cases g2
        exact .dc1 t2 (k _ _ ne g) ne2 (Dq.keep2 k d v hd hd2)
theorem Dq.keep2All {p c : Addr} {H H' : Hp} (k : Kp p H H') : ∀ (ds : List PyData) (vs : List V), DqAll true p H vs ds → DqAll true c H vs ds → DqAll true c H' vs ds
  | [], _, _, h => by cases h; exact .nil
  | d :: ds, _, h, h' => by
    cases h with
    | cons h1 h2 =>
      cases h' with
      | cons g1 g2 => exact .cons (Dq.keep2 k d _ h1 g1) (Dq.keep2All k ds _ h2 g2)
end
theorem DqAll.mem2 {p c : Addr} {H : Hp} : ∀ {vs : List V} {ds : List PyData}, DqAll true p H vs ds → DqAll true c H vs ds → ∀ v ∈ vs, ∃ d, d ∈ ds ∧ Dq true p H v d ∧ Dq true c H v d
  | _, _, .nil, _, v, h => (List.not_mem_nil h).elim
  | _, _, .cons h t, h', v, m => by
    cases h' with
    | cons h2 t2 =>
      rcases List.mem_cons.mp m with e | m
      · rw [e]
        exact ⟨_, List.mem_cons_self, h, h2⟩
      · obtain ⟨d, h1, z⟩ := DqAll.mem2 t t2 v m
        exact ⟨d, List.mem_cons_of_mem _ h1, z⟩
section
variable {base : Heap} {P : Program} {w : World} {mg : Str → Option Value} {K : PySem.W.Frag}
def sp_odd : Sp := fun vs H Q _ => ∃ (p c0 : Addr) (uc : HO) (m : Nat), vs = [.ref p] ∧ Pot H p m ∧ c0 ≠ p ∧ H c0 = some uc ∧ m + 100 < 1000000 ∧ ∀ (H' : Hp) (v : V) (d : PyData), Kp p H H' → Pot H' p (m + 12) → Dq true p H' v d → Dq true c0 H' v d → Sz 60000 20 d → Q v H'
theorem ok_odd {f : Addr} {fd : FuncData} (F : Fun K "_law_odd" "_law_odd" s__law_odd f fd) (T : Txt mg) (C__law_any : Cal P w K mg base 2 "_law_any" sp_any) : FnG P w K mg base 3 f fd ["_law_pot_here"] sp_odd := by
  refine okG F sc__law_odd (fun vs H Q E h => ?_) (fun cdv A outer s H vs Q E hg hr h => ?_)
  · obtain ⟨p, c0, uc, m, rfl, _⟩ := h
    rfl
  · obtain ⟨p, c0, uc, m, rfl, hp, ncp, hc0, hm, q⟩ := h
    replace hr := And.intro hg hr
    refine ⟨_, (pss_cons (ps_set (i := 1) sc__law_odd.nd rfl (Or.inl rfl) (pe_lstM (pa_cons pe_non (pa_cons pe_bl (pa_cons pe_bl (pa_cons pe_int (pa_cons pe_int (pa_cons (pe_un un_neg pe_int) (pa_cons (pe_op op_powW pe_int pe_int) (pa_cons pe_str (pa_cons pe_str (pa_cons pe_str (pa_cons pe_str (pa_cons pe_str (pa_cons pe_str (pa_cons pe_str (pa_cons pe_str (pa_cons (pe_tup pa_nil) pa_nil))))))))))))))))))
        (pss_cons (ps_set (i := 1) sc__law_odd.nd rfl (Or.inl rfl) (pe_op op_cat (pv 1) (pe_lstM (pa_cons (pe_lstM pa_nil) (pa_cons pe_dnewK (pa_cons (pe_tup (pa_cons pe_int (pa_cons pe_int pa_nil))) (pa_cons (pe_tup (pa_cons (pe_tup (pa_cons pe_int (pa_cons pe_int pa_nil))) pa_nil)) (pa_cons (pe_lstM (pa_cons (pe_tup (pa_cons pe_int (pa_cons pe_int pa_nil))) pa_nil)) (pa_cons (pe_tup (pa_cons (pe_tup (pa_cons pe_int (pa_cons pe_int pa_nil))) pa_nil)) (pa_cons (pe_tup (pa_cons (pe_tup (pa_cons pe_int (pa_cons pe_bl pa_nil))) pa_nil)) (pa_cons (pe_tup (pa_cons (pe_tup (pa_cons pe_int (pa_cons pe_int pa_nil))) (pa_cons (pe_tup (pa_cons pe_int (pa_cons pe_int pa_nil))) pa_nil))) (pa_cons (pe_tup (pa_cons (pe_tup (pa_cons pe_int (pa_cons pe_int (pa_cons pe_int pa_nil)))) pa_nil)) pa_nil))))))))))))
        (pss_cons (ps_set (i := 2) sc__law_odd.nd rfl (Or.inl rfl) (pe_c C__law_any hr (by decide) (by rfl) (pa_cons (pv 0) (pa_cons (pv 1) pa_nil))))
        (pss_cons (ps_for PassesOwn.never rfl (pi_range1 (by rfl) T.b_range (pa_cons (pe_c C__law_any hr (by decide) (by rfl) (pa_cons (pv 0) (pa_cons (pe_lstM (pa_cons pe_int (pa_cons pe_int (pa_cons pe_int (pa_cons pe_int (pa_cons pe_int (pa_cons pe_int pa_nil))))))) pa_nil))) pa_nil)) (pg_name (i := 3) sc__law_odd.nd rfl (Or.inl rfl)) (pss_one (ps_set (i := 2) sc__law_odd.nd rfl (Or.inl rfl) (pe_c C__law_any hr (by decide) (by rfl) (pa_cons (pv 0) (pa_cons (pe_lstM (pa_cons (pe_tup (pa_cons (pv 2) pa_nil)) (pa_cons (pe_lstM (pa_cons (pv 2) pa_nil)) (pa_cons (pe_disp (pps_cons pe_str (pv 2) pps_nil) (by rfl) (by rfl) (fun z => by cases z) (by decide)) (pa_cons (pe_tup (pa_cons (pv 2) (pa_cons (pv 2) pa_nil))) (pa_cons (pe_tup (pa_cons pe_int (pa_cons (pv 2) pa_nil))) pa_nil)))))) pa_nil))))))
        (pss_one (ps_ret (pv 2))))))), ?_⟩
    walk_at "rd"
    refine ⟨by decide +kernel, ?_⟩
    obtain ⟨ys0, ep0⟩ := hp.lst
    refine ⟨by decide, fun a1 n1 => ?_⟩
    have q1 : a1 ≠ p := (ne_of_none ep0 n1).symm
    have o1 : a1 ≠ c0 := (ne_of_none hc0 n1).symm
    have s1 := new_same (o := HO.tup []) n1
    have e1 : upd H a1 (HO.tup []) a1 = some (HO.tup []) := upd_same
    generalize upd H a1 (HO.tup []) = H1 at *
    have ep1 := s1 _ _ ep0
    have hc1 := s1 _ _ hc0
    refine ⟨by decide, fun a2 n2 m2 => ?_⟩
    have q2 : a2 ≠ p := (ne_of_none ep1 n2).symm
    have o2 : a2 ≠ c0 := (ne_of_none hc1 n2).symm
    have s2 := new_same (o := HO.lst [V.non, V.bl true, V.bl false, V.int 0, V.int 1, V.int (-1), V.int (10 ^ Int.toNat 30), V.str "", V.str "a", V.str "and", V.str "or", V.str "A", V.str "ab", V.str "abcdefgh", V.str "abcdefghi", V.ref a1]) n2
    have e2 : upd H1 a2 (HO.lst [V.non, V.bl true, V.bl false, V.int 0, V.int 1, V.int (-1), V.int (10 ^ Int.toNat 30), V.str "", V.str "a", V.str "and", V.str "or", V.str "A", V.str "ab", V.str "abcdefgh", V.str "abcdefghi", V.ref a1]) a2 = some (HO.lst [V.non, V.bl true, V.bl false, V.int 0, V.int 1, V.int (-1), V.int (10 ^ Int.toNat 30), V.str "", V.str "a", V.str "and", V.str "or", V.str "A", V.str "ab", V.str "abcdefgh", V.str "abcdefghi", V.ref a1]) := upd_same
    generalize upd H1 a2 (HO.lst [V.non, V.bl true, V.bl false, V.int 0, V.int 1, V.int (-1), V.int (10 ^ Int.toNat 30), V.str "", V.str "a", V.str "and", V.str "or", V.str "A", V.str "ab", V.str "abcdefgh", V.str "abcdefghi", V.ref a1]) = H2 at *
    have ep2 := s2 _ _ ep1
    have hc2 := s2 _ _ hc1
    refine ⟨by decide, fun a3 n3 m3 => ?_⟩
    have q3 : a3 ≠ p := (ne_of_none ep2 n3).symm
    have o3 : a3 ≠ c0 := (ne_of_none hc2 n3).symm
    have s3 := new_same (o := HO.lst []) n3
    have e3 : upd H2 a3 (HO.lst []) a3 = some (HO.lst []) := upd_same
    generalize upd H2 a3 (HO.lst []) = H3 at *
    have ep3 := s3 _ _ ep2
    have hc3 := s3 _ _ hc2
    refine fun a4 n4 => ?_
    have q4 : a4 ≠ p := (ne_of_none ep3 n4).symm
    have o4 : a4 ≠ c0 := (ne_of_none hc3 n4).symm
    have s4 := new_same (o := HO.dK []) n4
    have e4 : upd H3 a4 (HO.dK []) a4 = some (HO.dK []) := upd_same
    generalize upd H3 a4 (HO.dK []) = H4 at *
    have ep4 := s4 _ _ ep3
    have hc4 := s4 _ _ hc3
    refine ⟨by decide, fun a5 n5 => ?_⟩
    have q5 : a5 ≠ p := (ne_of_none ep4 n5).symm
    have o5 : a5 ≠ c0 := (ne_of_none hc4 n5).symm
    have s5 := new_same (o := HO.tup [V.int 0, V.int 1]) n5
    have e5 : upd H4 a5 (HO.tup [V.int 0, V.int 1]) a5 = some (HO.tup [V.int 0, V.int 1]) := upd_same
    generalize upd H4 a5 (HO.tup [V.int 0, V.int 1]) = H5 at *
    have ep5 := s5 _ _ ep4
    have hc5 := s5 _ _ hc4
    refine ⟨by decide, fun a6 n6 => ?_⟩
    have q6 : a6 ≠ p := (ne_of_none ep5 n6).symm
    have o6 : a6 ≠ c0 := (ne_of_none hc5 n6).symm
    have s6 := new_same (o := HO.tup [V.int 0, V.int 1]) n6
    have e6 : upd H5 a6 (HO.tup [V.int 0, V.int 1]) a6 = some (HO.tup [V.int 0, V.int 1]) := upd_same
    generalize upd H5 a6 (HO.tup [V.int 0, V.int 1]) = H6 at *
    have ep6 := s6 _ _ ep5
    have hc6 := s6 _ _ hc5
    refine ⟨by decide, fun a7 n7 => ?_⟩
    have q7 : a7 ≠ p := (ne_of_none ep6 n7).symm
    have o7 : a7 ≠ c0 := (ne_of_none hc6 n7).symm
    have s7 := new_same (o := HO.tup [V.ref a6]) n7
    have e7 : upd H6 a7 (HO.tup [V.ref a6]) a7 = some (HO.tup [V.ref a6]) := upd_same
    generalize upd H6 a7 (HO.tup [V.ref a6]) = H7 at *
    have ep7 := s7 _ _ ep6
    have hc7 := s7 _ _ hc6
    refine ⟨by decide, fun a8 n8 => ?_⟩
    have q8 : a8 ≠ p := (ne_of_none ep7 n8).symm
    have o8 : a8 ≠ c0 := (ne_of_none hc7 n8).symm
    have s8 := new_same (o := HO.tup [V.int 0, V.int 1]) n8
    have e8 : upd H7 a8 (HO.tup [V.int 0, V.int 1]) a8 = some (HO.tup [V.int 0, V.int 1]) := upd_same
    generalize upd H7 a8 (HO.tup [V.int 0, V.int 1]) = H8 at *
    have ep8 := s8 _ _ ep7
    have hc8 := s8 _ _ hc7
    refine ⟨by decide, fun a9 n9 m9 => ?_⟩
    have q9 : a9 ≠ p := (ne_of_none ep8 n9).symm
    have o9 : a9 ≠ c0 := (ne_of_none hc8 n9).symm
    have s9 := new_same (o := HO.lst [V.ref a8]) n9
    have e9 : upd H8 a9 (HO.lst [V.ref a8]) a9 = some (HO.lst [V.ref a8]) := upd_same
    generalize upd H8 a9 (HO.lst [V.ref a8]) = H9 at *
    have ep9 := s9 _ _ ep8
    have hc9 := s9 _ _ hc8
    refine ⟨by decide, fun a10 n10 => ?_⟩
    have q10 : a10 ≠ p := (ne_of_none ep9 n10).symm
    have o10 : a10 ≠ c0 := (ne_of_none hc9 n10).symm
    have s10 := new_same (o := HO.tup [V.int 1, V.int 0]) n10
    have e10 : upd H9 a10 (HO.tup [V.int 1, V.int 0]) a10 = some (HO.tup [V.int 1, V.int 0]) := upd_same
    generalize upd H9 a10 (HO.tup [V.int 1, V.int 0]) = H10 at *
    have ep10 := s10 _ _ ep9
    have hc10 := s10 _ _ hc9
    refine ⟨by decide, fun a11 n11 => ?_⟩
    have q11 : a11 ≠ p := (ne_of_none ep10 n11).symm
    have o11 : a11 ≠ c0 := (ne_of_none hc10 n11).symm
    have s11 := new_same (o := HO.tup [V.ref a10]) n11
    have e11 : upd H10 a11 (HO.tup [V.ref a10]) a11 = some (HO.tup [V.ref a10]) := upd_same
    generalize upd H10 a11 (HO.tup [V.ref a10]) = H11 at *
    have ep11 := s11 _ _ ep10
    have hc11 := s11 _ _ hc10
    refine ⟨by decide, fun a12 n12 => ?_⟩
    have q12 : a12 ≠ p := (ne_of_none ep11 n12).symm
    have o12 : a12 ≠ c0 := (ne_of_none hc11 n12).symm
    have s12 := new_same (o := HO.tup [V.int 0, V.bl true]) n12
    have e12 : upd H11 a12 (HO.tup [V.int 0, V.bl true]) a12 = some (HO.tup [V.int 0, V.bl true]) := upd_same
    generalize upd H11 a12 (HO.tup [V.int 0, V.bl true]) = H12 at *
    have ep12 := s12 _ _ ep11
    have hc12 := s12 _ _ hc11
    refine ⟨by decide, fun a13 n13 => ?_⟩
    have q13 : a13 ≠ p := (ne_of_none ep12 n13).symm
    have o13 : a13 ≠ c0 := (ne_of_none hc12 n13).symm
    have s13 := new_same (o := HO.tup [V.ref a12]) n13
    have e13 : upd H12 a13 (HO.tup [V.ref a12]) a13 = some (HO.tup [V.ref a12]) := upd_same
    generalize upd H12 a13 (HO.tup [V.ref a12]) = H13 at *
    have ep13 := s13 _ _ ep12
    have hc13 := s13 _ _ hc12
    refine ⟨by decide, fun a14 n14 => ?_⟩
    have q14 : a14 ≠ p := (ne_of_none ep13 n14).symm
    have o14 : a14 ≠ c0 := (ne_of_none hc13 n14).symm
    have s14 := new_same (o := HO.tup [V.int 0, V.int 1]) n14
    have e14 : upd H13 a14 (HO.tup [V.int 0, V.int 1]) a14 = some (HO.tup [V.int 0, V.int 1]) := upd_same
    generalize upd H13 a14 (HO.tup [V.int 0, V.int 1]) = H14 at *
    have ep14 := s14 _ _ ep13
    have hc14 := s14 _ _ hc13
    refine ⟨by decide, fun a15 n15 => ?_⟩
    have q15 : a15 ≠ p := (ne_of_none ep14 n15).symm
    have o15 : a15 ≠ c0 := (ne_of_none hc14 n15).symm
    have s15 := new_same (o := HO.tup [V.int 2, V.int 3]) n15
    have e15 : upd H14 a15 (HO.tup [V.int 2, V.int 3]) a15 = some (HO.tup [V.int 2, V.int 3]) := upd_same
    generalize upd H14 a15 (HO.tup [V.int 2, V.int 3]) = H15 at *
    have ep15 := s15 _ _ ep14
    have hc15 := s15 _ _ hc14
    refine ⟨by decide, fun a16 n16 => ?_⟩
    have q16 : a16 ≠ p := (ne_of_none ep15 n16).symm
    have o16 : a16 ≠ c0 := (ne_of_none hc15 n16).symm
    have s16 := new_same (o := HO.tup [V.ref a14, V.ref a15]) n16
    have e16 : upd H15 a16 (HO.tup [V.ref a14, V.ref a15]) a16 = some (HO.tup [V.ref a14, V.ref a15]) := upd_same
    generalize upd H15 a16 (HO.tup [V.ref a14, V.ref a15]) = H16 at *
    have ep16 := s16 _ _ ep15
    have hc16 := s16 _ _ hc15
    refine ⟨by decide, fun a17 n17 => ?_⟩
    have q17 : a17 ≠ p := (ne_of_none ep16 n17).symm
    have o17 : a17 ≠ c0 := (ne_of_none hc16 n17).symm
    have s17 := new_same (o := HO.tup [V.int 0, V.int 1, V.int 2]) n17
    have e17 : upd H16 a17 (HO.tup [V.int 0, V.int 1, V.int 2]) a17 = some (HO.tup [V.int 0, V.int 1, V.int 2]) := upd_same
    generalize upd H16 a17 (HO.tup [V.int 0, V.int 1, V.int 2]) = H17 at *
    have ep17 := s17 _ _ ep16
    have hc17 := s17 _ _ hc16
    refine ⟨by decide, fun a18 n18 => ?_⟩
    have q18 : a18 ≠ p := (ne_of_none ep17 n18).symm
    have o18 : a18 ≠ c0 := (ne_of_none hc17 n18).symm
    have s18 := new_same (o := HO.tup [V.ref a17]) n18
    have e18 : upd H17 a18 (HO.tup [V.ref a17]) a18 = some (HO.tup [V.ref a17]) := upd_same
    generalize upd H17 a18 (HO.tup [V.ref a17]) = H18 at *
    have ep18 := s18 _ _ ep17
    have hc18 := s18 _ _ hc17
    refine ⟨by decide, fun a19 n19 m19 => ?_⟩
    have q19 : a19 ≠ p := (ne_of_none ep18 n19).symm
    have o19 : a19 ≠ c0 := (ne_of_none hc18 n19).symm
    have s19 := new_same (o := HO.lst [V.ref a3, V.ref a4, V.ref a5, V.ref a7, V.ref a9, V.ref a11, V.ref a13, V.ref a16, V.ref a18]) n19
    have e19 : upd H18 a19 (HO.lst [V.ref a3, V.ref a4, V.ref a5, V.ref a7, V.ref a9, V.ref a11, V.ref a13, V.ref a16, V.ref a18]) a19 = some (HO.lst [V.ref a3, V.ref a4, V.ref a5, V.ref a7, V.ref a9, V.ref a11, V.ref a13, V.ref a16, V.ref a18]) := upd_same
    generalize upd H18 a19 (HO.lst [V.ref a3, V.ref a4, V.ref a5, V.ref a7, V.ref a9, V.ref a11, V.ref a13, V.ref a16, V.ref a18]) = H19 at *
    have ep19 := s19 _ _ ep18
    have hc19 := s19 _ _ hc18
    have S19 : Same H19 H19 := Same.refl _
    have S18 := s19.trans S19
    have S17 := s18.trans S18
    have S16 := s17.trans S17
    have S15 := s16.trans S16
    have S14 := s15.trans S15
    have S13 := s14.trans S14
    have S12 := s13.trans S13
    have S11 := s12.trans S12
    have S10 := s11.trans S11
    have S9 := s10.trans S10
    have S8 := s9.trans S9
    have S7 := s8.trans S8
    have S6 := s7.trans S7
    have S5 := s6.trans S6
    have S4 := s5.trans S5
    have S3 := s4.trans S4
    have S2 := s3.trans S3
    have S1 := s2.trans S2
    have S0 := s1.trans S1
    have f1 := S1 _ _ e1
    have f2 := S2 _ _ e2
    have f3 := S3 _ _ e3
    have f4 := S4 _ _ e4
    have f5 := S5 _ _ e5
    have f6 := S6 _ _ e6
    have f7 := S7 _ _ e7
    have f8 := S8 _ _ e8
    have f9 := S9 _ _ e9
    have f10 := S10 _ _ e10
    have f11 := S11 _ _ e11
    have f12 := S12 _ _ e12
    have f13 := S13 _ _ e13
    have f14 := S14 _ _ e14
    have f15 := S15 _ _ e15
    have f16 := S16 _ _ e16
    have f17 := S17 _ _ e17
    have f18 := S18 _ _ e18
    have f19 := S19 _ _ e19
    have all : DqAll true p H19 ([V.non, V.bl true, V.bl false, V.int 0, V.int 1, V.int (-1), V.int (10 ^ Int.toNat 30), V.str "", V.str "a", V.str "and", V.str "or", V.str "A", V.str "ab", V.str "abcdefgh", V.str "abcdefghi", V.ref a1] ++ [V.ref a3, V.ref a4, V.ref a5, V.ref a7, V.ref a9, V.ref a11, V.ref a13, V.ref a16, V.ref a18]) consts := (.cons .non (.cons (.bl true) (.cons (.bl false) (.cons (.int 0) (.cons (.int 1) (.cons (.int (-1)) (.cons (.int _) (.cons (.str _) (.cons (.str _) (.cons (.str _) (.cons (.str _) (.cons (.str _) (.cons (.str _) (.cons (.str _) (.cons (.str _) (.cons (.tup f1 q1 .nil) (.cons (.lst f3 q3 (fun _ => m3) .nil) (.cons (.dc0 rfl f4 q4) (.cons (.tup f5 q5 (.cons (.int 0) (.cons (.int 1) .nil))) (.cons (.tup f7 q7 (.cons (.tup f6 q6 (.cons (.int 0) (.cons (.int 1) .nil))) .nil)) (.cons (.lst f9 q9 (fun _ => m9) (.cons (.tup f8 q8 (.cons (.int 0) (.cons (.int 1) .nil))) .nil)) (.cons (.tup f11 q11 (.cons (.tup f10 q10 (.cons (.int 1) (.cons (.int 0) .nil))) .nil)) (.cons (.tup f13 q13 (.cons (.tup f12 q12 (.cons (.int 0) (.cons (.bl true) .nil))) .nil)) (.cons (.tup f16 q16 (.cons (.tup f14 q14 (.cons (.int 0) (.cons (.int 1) .nil))) (.cons (.tup f15 q15 (.cons (.int 2) (.cons (.int 3) .nil))) .nil))) (.cons (.tup f18 q18 (.cons (.tup f17 q17 (.cons (.int 0) (.cons (.int 1) (.cons (.int 2) .nil)))) .nil)) .nil)))))))))))))))))))))))))
    have all2 : DqAll true c0 H19 ([V.non, V.bl true, V.bl false, V.int 0, V.int 1, V.int (-1), V.int (10 ^ Int.toNat 30), V.str "", V.str "a", V.str "and", V.str "or", V.str "A", V.str "ab", V.str "abcdefgh", V.str "abcdefghi", V.ref a1] ++ [V.ref a3, V.ref a4, V.ref a5, V.ref a7, V.ref a9, V.ref a11, V.ref a13, V.ref a16, V.ref a18]) consts := (.cons .non (.cons (.bl true) (.cons (.bl false) (.cons (.int 0) (.cons (.int 1) (.cons (.int (-1)) (.cons (.int _) (.cons (.str _) (.cons (.str _) (.cons (.str _) (.cons (.str _) (.cons (.str _) (.cons (.str _) (.cons (.str _) (.cons (.str _) (.cons (.tup f1 o1 .nil) (.cons (.lst f3 o3 (fun _ => m3) .nil) (.cons (.dc0 rfl f4 o4) (.cons (.tup f5 o5 (.cons (.int 0) (.cons (.int 1) .nil))) (.cons (.tup f7 o7 (.cons (.tup f6 o6 (.cons (.int 0) (.cons (.int 1) .nil))) .nil)) (.cons (.lst f9 o9 (fun _ => m9) (.cons (.tup f8 o8 (.cons (.int 0) (.cons (.int 1) .nil))) .nil)) (.cons (.tup f11 o11 (.cons (.tup f10 o10 (.cons (.int 1) (.cons (.int 0) .nil))) .nil)) (.cons (.tup f13 o13 (.cons (.tup f12 o12 (.cons (.int 0) (.cons (.bl true) .nil))) .nil)) (.cons (.tup f16 o16 (.cons (.tup f14 o14 (.cons (.int 0) (.cons (.int 1) .nil))) (.cons (.tup f15 o15 (.cons (.int 2) (.cons (.int 3) .nil))) .nil))) (.cons (.tup f18 o18 (.cons (.tup f17 o17 (.cons (.int 0) (.cons (.int 1) (.cons (.int 2) .nil)))) .nil)) .nil)))))))))))))))))))))))))
    have ex := all.mem2 all2
    have len25 : ([V.non] : List V).length < 2 ^ 20 := by decide
    refine ⟨a2, a19, _, _, rfl, rfl, f2, f19, by simp only [List.length_cons, List.length_nil]; decide, fun c nc => ?_⟩
    have qc : c ≠ p := (ne_of_none ep19 nc).symm
    have pc := (hp.same S0).same (new_same (o := HO.lst ([V.non, V.bl true, V.bl false, V.int 0, V.int 1, V.int (-1), V.int (10 ^ Int.toNat 30), V.str (Str.ofString ""), V.str (Str.ofString "a"), V.str (Str.ofString "and"), V.str (Str.ofString "or"), V.str (Str.ofString "A"), V.str (Str.ofString "ab"), V.str (Str.ofString "abcdefgh"), V.str (Str.ofString "abcdefghi"), V.ref a1] ++ [V.ref a3, V.ref a4, V.ref a5, V.ref a7, V.ref a9, V.ref a11, V.ref a13, V.ref a16, V.ref a18])) nc)
    refine ⟨p, c, _, m, rfl, pc, by omega, qc, upd_same, by simp, by simp, fun HA x kA pA mx => ?_⟩
    obtain ⟨d, hd, hq, hq2⟩ := ex x mx
    have z0 : Sz 60 3 d := sz_of (List.all_eq_true.mp consts_sz d hd)
    have kc := (Kp.of (p := p) (new_same (o := HO.lst ([V.non, V.bl true, V.bl false, V.int 0, V.int 1, V.int (-1), V.int (10 ^ Int.toNat 30), V.str (Str.ofString ""), V.str (Str.ofString "a"), V.str (Str.ofString "and"), V.str (Str.ofString "or"), V.str (Str.ofString "A"), V.str (Str.ofString "ab"), V.str (Str.ofString "abcdefgh"), V.str (Str.ofString "abcdefghi"), V.ref a1] ++ [V.ref a3, V.ref a4, V.ref a5, V.ref a7, V.ref a9, V.ref a11, V.ref a13, V.ref a16, V.ref a18])) nc)).trans kA
    have dA : Dq true p HA x d := Dq.keep kc _ _ hq
    have dA2 : Dq true c0 HA x d := Dq.keep2 kc _ _ hq hq2
    have kHA : Kp p H HA := (Kp.of S0).trans kc
    clear all all2 ex pc kc kA
    obtain ⟨yA, eA⟩ := pA.lst
    refine ⟨.ref p, rfl, by decide, fun M nM mM => ?_⟩
    refine ⟨p, M, _, _, rfl, pA.same (new_same nM), by omega, (ne_of_none eA nM).symm, upd_same, by simp, by simp, fun HB y kB pB my => ?_⟩
    obtain ⟨t, rfl, t0, t9⟩ : ∃ t : Int, y = .int t ∧ 0 ≤ t ∧ t ≤ 9 := by
      simp only [List.mem_cons, List.not_mem_nil, or_false] at my
      rcases my with rfl | rfl | rfl | rfl | rfl | rfl
      · exact ⟨0, rfl, by decide, by decide⟩
      · exact ⟨0, rfl, by decide, by decide⟩
      · exact ⟨0, rfl, by decide, by decide⟩
      · exact ⟨1, rfl, by decide, by decide⟩
      · exact ⟨2, rfl, by decide, by decide⟩
      · exact ⟨9, rfl, by decide, by decide⟩
    have kAB := (Kp.of (p := p) (new_same (o := HO.lst [V.int 0, V.int 0, V.int 0, V.int 1, V.int 2, V.int 9]) nM)).trans kB
    refine ⟨t, rfl, by omega, by omega, for_range (lo := 0) (n := t.toNat) (fun i σ H' => ∃ (v : V) (d : PyData) (u : Option V), σ = [some (.ref p), some (.ref c), some v, u] ∧ Kp p H H' ∧ Pot H' p (m + 2 + i) ∧ Dq true p H' v d ∧ Dq true c0 H' v d ∧ Sz (2 ^ i * 100 - 20) (3 + i) d) ?_ ?_ ?_⟩
    · exact ⟨x, d, none, rfl, kHA.trans kAB, pB, Dq.keep kAB _ _ dA, Dq.keep2 kAB _ _ dA dA2, z0.up (by decide) (by decide)⟩
    · rintro i σ HC hi ⟨v, d, u, rfl, kC, pC, dC, dC2, zC⟩
      walk_at "rd"
      obtain ⟨yC, g0⟩ := pC.lst
      have h0 := kC _ _ ncp hc0
      refine ⟨by decide, fun b1 r1 => ?_⟩
      have q1 : b1 ≠ p := (ne_of_none g0 r1).symm
      have o1 : b1 ≠ c0 := (ne_of_none h0 r1).symm
      have w1 := new_same (o := HO.tup [v]) r1
      have e1 : upd HC b1 (HO.tup [v]) b1 = some (HO.tup [v]) := upd_same
      generalize upd HC b1 (HO.tup [v]) = G1 at *
      have g1 := w1 _ _ g0
      have h1 := w1 _ _ h0
      refine ⟨by decide, fun b2 r2 m2 => ?_⟩
      have q2 : b2 ≠ p := (ne_of_none g1 r2).symm
      have o2 : b2 ≠ c0 := (ne_of_none h1 r2).symm
      have w2 := new_same (o := HO.lst [v]) r2
      have e2 : upd G1 b2 (HO.lst [v]) b2 = some (HO.lst [v]) := upd_same
      generalize upd G1 b2 (HO.lst [v]) = G2 at *
      have g2 := w2 _ _ g1
      have h2 := w2 _ _ h1
      refine fun b3 r3 => ⟨v, rfl, upd_same, [((Sum.inr (Str.ofString "a") : Key), v)], rfl, by show 1 ≤ 15; decide, ?_⟩
      have hm : mergeK [] [((Sum.inr (Str.ofString "a") : Key), v)] = [((Sum.inr (Str.ofString "a") : Key), v)] := rfl
      rw [hm, upd_upd]
      have q3 : b3 ≠ p := (ne_of_none g2 r3).symm
      have o3 : b3 ≠ c0 := (ne_of_none h2 r3).symm
      have w3 := new_same (o := HO.dK [((Sum.inr (Str.ofString "a") : Key), v)]) r3
      have e3 : upd G2 b3 (HO.dK [((Sum.inr (Str.ofString "a") : Key), v)]) b3 = some (HO.dK [((Sum.inr (Str.ofString "a") : Key), v)]) := upd_same
      generalize upd G2 b3 (HO.dK [((Sum.inr (Str.ofString "a") : Key), v)]) = G3 at *
      have g3 := w3 _ _ g2
      have h3 := w3 _ _ h2
      refine ⟨by decide, fun b4 r4 => ?_⟩
      have q4 : b4 ≠ p := (ne_of_none g3 r4).symm
      have o4 : b4 ≠ c0 := (ne_of_none h3 r4).symm
      have w4 := new_same (o := HO.tup [v, v]) r4
      have e4 : upd G3 b4 (HO.tup [v, v]) b4 = some (HO.tup [v, v]) := upd_same
      generalize upd G3 b4 (HO.tup [v, v]) = G4 at *
      have g4 := w4 _ _ g3
      have h4 := w4 _ _ h3
      refine ⟨by decide, fun b5 r5 => ?_⟩
      have q5 : b5 ≠ p := (ne_of_none g4 r5).symm
      have o5 : b5 ≠ c0 := (ne_of_none h4 r5).symm
      have w5 := new_same (o := HO.tup [V.int 1, v]) r5
      have e5 : upd G4 b5 (HO.tup [V.int 1, v]) b5 = some (HO.tup [V.int 1, v]) := upd_same
      generalize upd G4 b5 (HO.tup [V.int 1, v]) = G5 at *
      have g5 := w5 _ _ g4
      have h5 := w5 _ _ h4
      refine ⟨by decide, fun b6 r6 m6 => ?_⟩
      have q6 : b6 ≠ p := (ne_of_none g5 r6).symm
      have o6 : b6 ≠ c0 := (ne_of_none h5 r6).symm
      have w6 := new_same (o := HO.lst [V.ref b1, V.ref b2, V.ref b3, V.ref b4, V.ref b5]) r6
      have e6 : upd G5 b6 (HO.lst [V.ref b1, V.ref b2, V.ref b3, V.ref b4, V.ref b5]) b6 = some (HO.lst [V.ref b1, V.ref b2, V.ref b3, V.ref b4, V.ref b5]) := upd_same
      generalize upd G5 b6 (HO.lst [V.ref b1, V.ref b2, V.ref b3, V.ref b4, V.ref b5]) = G6 at *
      have g6 := w6 _ _ g5
      have h6 := w6 _ _ h5
      have W6 : Same G6 G6 := Same.refl _
      have W5 := w6.trans W6
      have W4 := w5.trans W5
      have W3 := w4.trans W4
      have W2 := w3.trans W3
      have W1 := w2.trans W2
      have W0 := w1.trans W1
      have f1 := W1 _ _ e1
      have f2 := W2 _ _ e2
      have f3 := W3 _ _ e3
      have f4 := W4 _ _ e4
      have f5 := W5 _ _ e5
      have f6 := W6 _ _ e6
      have dF := dC.same W0
      have dF2 := dC2.same W0
      refine ⟨p, b6, _, _, rfl, pC.same W0, by omega, q6, f6, by simp, by simp, fun HD x2 kD pD mx2 => ?_⟩
      have pw : 2 ^ (i + 1) = 2 * 2 ^ i := by rw [Nat.pow_succ, Nat.mul_comm]
      have p1 : 1 ≤ 2 ^ i := Nat.one_le_two_pow
      have z1 : Sz (2 ^ i * 100 - 20) (3 + i) (.int 1) := (sz_of (n := 60) (k := 3) (by decide +kernel)).up (by omega) (by omega)
      have pick : ∃ d2, Dq true p G6 x2 d2 ∧ Dq true c0 G6 x2 d2 ∧ Sz (2 ^ (i + 1) * 100 - 20) (3 + (i + 1)) d2 := by
        simp only [List.mem_cons, List.not_mem_nil, or_false] at mx2
        rcases mx2 with rfl | rfl | rfl | rfl | rfl
        · exact ⟨_, .tup f1 q1 (.cons dF .nil), .tup f1 o1 (.cons dF2 .nil), (Sz.tuple (fun e he => by rw [List.mem_singleton.mp he]; exact zC)).up (by simp only [List.length_cons, List.length_nil]; omega) (by omega)⟩
        · exact ⟨_, .lst f2 q2 (fun _ => m2) (.cons dF .nil), .lst f2 o2 (fun _ => m2) (.cons dF2 .nil), (Sz.list (fun e he => by rw [List.mem_singleton.mp he]; exact zC)).up (by simp only [List.length_cons, List.length_nil]; omega) (by omega)⟩
        · exact ⟨_, .dc1 rfl f3 q3 dF, .dc1 rfl f3 o3 dF2, (Sz.dict zC (by decide +kernel)).up (by omega) (by omega)⟩
        · exact ⟨_, .tup f4 q4 (.cons dF (.cons dF .nil)), .tup f4 o4 (.cons dF2 (.cons dF2 .nil)), (Sz.tuple (fun e he => by rcases List.mem_cons.mp he with rfl | he; exact zC; rw [List.mem_singleton.mp he]; exact zC)).up (by simp only [List.length_cons, List.length_nil]; omega) (by omega)⟩
        · exact ⟨_, .tup f5 q5 (.cons (.int 1) (.cons dF .nil)), .tup f5 o5 (.cons (.int 1) (.cons dF2 .nil)), (Sz.tuple (fun e he => by rcases List.mem_cons.mp he with rfl | he; exact z1; rw [List.mem_singleton.mp he]; exact zC)).up (by simp only [List.length_cons, List.length_nil]; omega) (by omega)⟩
      obtain ⟨d2, dq2, dq3, sz2⟩ := pick
      exact ⟨kC.trans ((Kp.of W0).trans kD), pD.up (by omega), d2, Dq.keep kD _ _ dq2, Dq.keep2 kD _ _ dq2 dq3, sz2⟩
    · rintro σ HC ⟨v, d, u, rfl, kC, pC, dC, dC2, zC⟩
      walk_at "rd"
      have e9 : 2 ^ t.toNat ≤ 2 ^ 9 := Nat.pow_le_pow_right (by decide) (by omega)
      exact q _ _ d kC (pC.up (by omega)) dC dC2 (zC.up (by omega) (by omega))
end
end Pf

set_option Elab.async false
set_option linter.all false
set_option maxRecDepth 100000
/-! What is due. -/
namespace Pf
open PySem PySem.Spec PyProof.Rows L2
local macro_rules | `(tactic| walk_at "rd") => `(tactic| simp only [tC1, tCK, tB, rNe, rEq, tChain, gTupV, gCons, gNil, Nat.sub_self, Nat.reduceSub, List.replicate_zero, List.replicate_succ, tTest, tIfS, tIf, tNot, tAnd, tOr, tAndV, tOrV, tNotV, tDrop, tNext, rIxV, rIxP,
  gSub, rSetL, tSl, tPart, tNoPart, rSl1, tAsg2, ipI, tDNewK, tBM, rAppend, wipe, rAllB, rAnyB, iTup, iList, RZ.iZipA, iRng1, iRng2, tYes, upd_same, at0, at1, at2, at20, at21, ixN30, ixN32, HO.lst.injEq, HO.tup.injEq, Nat.reduceAdd, tSeq, tAsg, tPar, tAug, tOp, tVar, tC, tCB, tCons, tNil, rI, rI0, rU, tUn, gName, tRet, tLst, tLstM, tTup, L2.start, List.map_cons, List.map_nil, List.length_cons, List.length_nil, List.replicate, List.cons_append,
  List.nil_append, List.set_cons_zero, List.set_cons_succ, List.getElem?_cons_zero, List.getElem?_cons_succ, Option.some.injEq, V.int.injEq, V.ref.injEq, V.bl.injEq, V.str.injEq, List.cons.injEq, exists_eq_left', exists_eq_left, exists_and_left, exists_and_right, and_true, true_and, reduceCtorEq, false_and,
  exists_false, or_false, false_or, exists_const, exists_eq, exists_eq', Bool.not_true, Bool.not_false, Bool.false_eq_true, if_true, if_false, ite_true, ite_false])
abbrev s__law_due : Stmt := topS 62
theorem sc__law_due : FnScope ["_law_name", "_law_spans_here", "_law_bare", "_law_low", "_law_high"] ["_law_name", "_law_spans_here", "_law_bare"] (defScope s__law_due) := ⟨rfl, rfl, rfl, by decide +kernel, rfl, by decide +kernel, by decide +kernel⟩
def conD : PyData → PyData → PyData → Str
  | .str z, .tuple ds, .bool m => conS z (prs ds) m
  | _, _, _ => "-"
def dueK (dn dr dm : PyData) : Str := if (!colD dn) = true then "column" else if (!fitsD dr) = true then "ranges" else if (!isBoolD dm) = true then "flag" else "told"
def dueT (dn dr dm : PyData) : Str := if (!colD dn) = true then dn.shown else if (!fitsD dr) = true then dr.shown else if (!isBoolD dm) = true then dm.shown else conD dn dr dm
def outB (q : Int × Int) : Bool := decide (q.1 < -9999) || decide (9999 < q.2)
theorem out_all (ds : List PyData) : ((prs ds).map outB).any id = !ds.all inB := by
  induction ds with
  | nil => rfl
  | cons d r ih =>
    rw [prs, List.map_cons, List.map_cons, List.any_cons, List.all_cons, Bool.not_and]
    have e : outB (loD d, hiD d) = !inB d := by
      unfold outB inB
      rw [Bool.not_and, ← decide_not, ← decide_not]
      congr 1
      · exact decide_eq_decide.mpr (by omega)
      · exact decide_eq_decide.mpr (by omega)
    rw [id, e]
    congr 1
section
variable {base : Heap} {P : Program} {w : World} {mg : Str → Option Value} {K : PySem.W.Frag}
def sp_due : Sp := fun vs H Q _ => ∃ (vn vr vm : V) (dn dr dm : PyData) (b : Bool) (p : Addr), vs = [vn, vr, vm] ∧ Dq b p H vn dn ∧ Dq b p H vr dr ∧ Dq b p H vm dm ∧ Fits dn ∧ Fits dr ∧ Fits dm ∧ (∀ x, dn = .str x → x.length ≤ 100000) ∧ (∀ l, dr = .tuple l → l.length ≤ 1000) ∧
  ∀ H' t, Same H H' → H' t = some (.tup [.str (dueK dn dr dm), .str (dueT dn dr dm)]) → Q (.ref t) H'
theorem ok_due {f : Addr} {fd : FuncData} (F : Fun K "_law_due" "_law_due" s__law_due f fd) (T : Txt mg) (C__law_is_name : Cal P w K mg base 1 "_law_is_name" sp_column) (C__law_is_set : Cal P w K mg base 3 "_law_is_set" sp_ranges) (C__law_con_text : Cal P w K mg base 1 "_law_con_text" sp_ctext) :
    FnG P w K mg base 4 f fd ["_law_name", "_law_spans_here", "_law_bare"] sp_due := by
  refine okG F sc__law_due (fun vs H Q E h => ?_) (fun cdv A outer s H vs Q E hg hr h => ?_)
  · obtain ⟨vn, vr, vm, dn, dr, dm, b, p, rfl, _⟩ := h
    rfl
  · obtain ⟨vn, vr, vm, dn, dr, dm, b, p, rfl, hn, hd, hm, fn, fr, fm, zn, zr, q⟩ := h
    replace hr := And.intro hg hr
    refine ⟨_, (pss_cons (ps_if (pt_not (pt_val (pe_c C__law_is_name hr (by decide) (by rfl) (pa_cons (pv 0) pa_nil)))) (pss_one (ps_ret (pe_tup (pa_cons pe_str (pa_cons (pe_callB (call_reprV hr) (by rfl) T.b_repr (by decide +kernel) (pa_cons (pv 0) pa_nil)) pa_nil))))) pss_nil)
        (pss_cons (ps_if (PW.pt (pw_or (pt_not (pt_val (pe_c C__law_is_set hr (by decide) (by rfl) (pa_cons (pv 1) pa_nil)))) (pw_or (pt_cmpR op_gt (pe_callB call_lenT (by rfl) T.b_len (by decide +kernel) (pa_cons (pv 1) pa_nil)) pe_int (nomark _)) (pw_or1 (pt_val (pe_callB (call_anyB rfl) (by rfl) T.b_any (by decide +kernel) (pa_cons (pe_lc (own := [("_law_low", 3), ("_law_high", 4)]) (g := gTupV 2 (gCons (gName 3) (gCons (gName 4) gNil))) (tt := tYes) rfl sc__law_due.nd (pi_tup (pv 1)) (blkOk_by (own := [("_law_low", 3), ("_law_high", 4)]) (N := ["_law_name", "_law_spans_here", "_law_bare", "_law_low", "_law_high"]) (sc := defScope s__law_due) (by decide +kernel)) (fun _ _ _ _ _ => (pg_tupV (n := 2) rfl (pgs_cons (pg_name (i := 3) sc__law_due.nd rfl (Or.inl rfl)) (pgs_cons (pg_name (i := 4) sc__law_due.nd rfl (Or.inl rfl)) pgs_nil)))) (fun _ _ _ _ _ => pts_nil) (fun _ _ _ _ _ => (pe_or (pe_cmpR op_lt (pv 3) (pe_un un_neg pe_int) (nomark _)) (pe_one (pe_cmpR op_gt (pv 4) pe_int (nomark _)))))) pa_nil))))))) (pss_one (ps_ret (pe_tup (pa_cons pe_str (pa_cons (pe_callB (call_reprV hr) (by rfl) T.b_repr (by decide +kernel) (pa_cons (pv 1) pa_nil)) pa_nil))))) pss_nil)
        (pss_cons (ps_if (pt_not (pt_val (pe_callB call_isiBool (by rfl) T.b_isinstance (by decide +kernel) (pa_cons (pv 2) (pa_cons (pe_bltn (v := .ty "bool") (u := .type "bool") (by rfl) T.b_bool (by decide +kernel) rfl) pa_nil))))) (pss_one (ps_ret (pe_tup (pa_cons pe_str (pa_cons (pe_callB (call_reprV hr) (by rfl) T.b_repr (by decide +kernel) (pa_cons (pv 2) pa_nil)) pa_nil))))) pss_nil)
        (pss_one (ps_ret (pe_tup (pa_cons pe_str (pa_cons (pe_c C__law_con_text hr (by decide) (by rfl) (pa_cons (pe_tup (pa_cons pe_str (pa_cons (pv 0) (pa_cons (pv 1) (pa_cons (pv 2) pa_nil))))) pa_nil)) pa_nil)))))))), ?_⟩
    walk_at "rd"
    refine ⟨vn, dn, b, p, rfl, hn, zn, fun H1 s1 => ?_⟩
    cases e1 : colD dn with
    | false =>
      refine ⟨false, rfl, iteT ⟨dn, ⟨b, p, hn.same s1⟩, fn, by decide, fun t ht => q _ t (s1.trans (new_same ht)) ?_⟩⟩
      rw [dueK, dueT, e1]
      exact upd_same
    | true =>
      refine ⟨true, rfl, iteF ⟨vr, dr, b, p, rfl, hd.same s1, zr, fun H2 s2 => ?_⟩⟩
      have s12 := s1.trans s2
      have bad : fitsD dr = false → ∀ H3, Same H H3 → ∃ x, (∃ x_1 x_2, Dq x_1 x_2 H3 vr x) ∧ Fits x ∧ 2 ≤ sizeLine ∧ ∀ p, H3 p = none → Q (.ref p) (upd H3 p (.tup [V.str "ranges", V.str x.shown])) := fun z H3 s3 =>
        ⟨dr, ⟨b, p, hd.same s3⟩, fr, by decide, fun t ht => q _ t (s3.trans (new_same ht)) (by rw [dueK, dueT, e1, z]; exact upd_same)⟩
      cases ir : isRangesD dr with
      | false =>
        have ef : fitsD dr = false := by
          cases dr with
          | tuple ds => rw [fitsD, ir]; rfl
          | _ => rfl
        exact ⟨false, rfl, iteT (bad ef H2 s12)⟩
      | true =>
        refine ⟨true, rfl, iteF ?_⟩
        cases hd with
        | @tup a xs ds g na ha =>
          have al : ds.all isPairD = true := by
            have z : (ds.all isPairD && (stepsD ds).all id) = true := ir
            exact (Bool.and_eq_true_iff.mp z).1
          have pr := dq_prs ha al
          have len := ha.length
          have lp : (prs ds).length = ds.length := List.length_map ..
          have ef : fitsD (.tuple ds) = (decide (ds.length ≤ 4) && ds.all inB) := by rw [fitsD, ir, Bool.true_and]
          have small := zr ds rfl
          have big' : (1000 : Nat) ≤ sizeLine := by decide
          refine ⟨a, rfl, xs, s12 _ _ g, ?_⟩
          by_cases big : 4 < ds.length
          · rw [if_pos (decide_eq_true (by rw [len]; omega))]
            exact bad (by rw [ef, decide_eq_false (by omega), Bool.false_and]) H2 s12
          · rw [if_neg (by rw [len, decide_eq_true_eq]; omega)]
            rw [decide_eq_true (show ds.length ≤ 4 by omega), Bool.true_and] at ef
            refine ⟨.ref a, rfl, a, rfl, ⟨xs, SqT.of (s12 _ _ g)⟩, lcMap (walk_tup (xs := xs)) (((prs ds).map outB).map V.bl) (by simp [len, lp]) (by omega) (fun H1 s1 => s1.seqT (SqT.of (s12 _ _ g))) (fun i v H3 H4 y R ho s3 hy kk => ?_) (fun H3 D nD s3 hL => ?_)⟩
            · obtain ⟨rfl, hx⟩ := hy
              obtain ⟨q', hq', t, rfl, ht⟩ := prGet (pr.tk (TK.of (s12.trans s3))) hx
              have ey : y = .bl (outB q') := by
                rw [List.getElem?_map, List.getElem?_map, hq'] at ho
                exact (Option.some.inj ho).symm
              subst ey
              walk_at "rd"
              simp only [ht, Option.some.injEq, HO.tup.injEq, exists_eq_left']
              walk_at "rd"
              refine ⟨_, _, ⟨rfl, rfl⟩, _, _, rfl, rfl, ?_⟩
              have k := kk _ (Same.refl _)
              refine ⟨_, rfl, ?_⟩
              cases c : decide (q'.1 < -9999) with
              | true =>
                rw [outB, c, Bool.true_or] at k
                exact iteT k
              | false =>
                rw [outB, c, Bool.false_or] at k
                exact iteF ⟨_, rfl, k⟩
            · refine ⟨D, rfl, _, hL, ?_⟩
              rw [out_all]
              have s123 := s12.trans s3
              cases f3 : ds.all inB with
              | false => exact iteT (bad (by rw [ef, f3]) H3 s123)
              | true =>
                rw [f3] at ef
                refine iteF ⟨dm, ⟨b, p, hm.same s123⟩, ?_⟩
                cases e3 : isBoolD dm with
                | false => exact iteT ⟨dm, ⟨b, p, hm.same s123⟩, fm, by decide, fun t ht => q _ t (s123.trans (new_same ht)) (by rw [dueK, dueT, e1, ef, e3]; exact upd_same)⟩
                | true =>
                  refine iteF ⟨by decide, fun t ht => ?_⟩
                  cases hn with
                  | str z =>
                    cases hm with
                    | bl m =>
                      have sT := s123.trans (new_same (o := .tup [V.str "con", V.str z, V.ref a, V.bl m]) ht)
                      refine ⟨t, z, a, xs, prs ds, m, rfl, upd_same, sT _ _ g, pr.tk (TK.of sT), col_len e1, by omega, fits_shrt f3 ir, fun H' s' => ⟨by decide, fun t2 ht2 => q _ t2 ((sT.trans s').trans (new_same ht2)) ?_⟩⟩
                      rw [dueK, dueT, e1, ef, e3]
                      exact upd_same
                    | _ => cases e3
                  | _ => cases e1
        | _ => cases ir
end
end Pf

set_option Elab.async false
set_option linter.all false
set_option maxRecDepth 100000
/-! The three drawn values. -/
namespace Pf
open PySem PySem.Spec PyProof.Rows L2
local macro_rules | `(tactic| walk_at "rd") => `(tactic| simp only [tC1, tCK, tB, rNe, rEq, tChain, gTupV, gCons, gNil, Nat.sub_self, Nat.reduceSub, List.replicate_zero, List.replicate_succ, tTest, tIfS, tIf, tNot, tAnd, tOr, tAndV, tOrV, tNotV, tDrop, tNext, rIxV, rIxP,
  gSub, rSetL, tSl, tPart, tNoPart, rSl1, tAsg2, ipI, tDNewK, tBM, rAppend, wipe, rAllB, rAnyB, iTup, iList, RZ.iZipA, iRng1, iRng2, tYes, upd_same, at0, at1, at2, at20, at21, ixN30, ixN32, HO.lst.injEq, HO.tup.injEq, Nat.reduceAdd, tSeq, tAsg, tPar, tAug, tOp, tVar, tC, tCB, tCons, tNil, rI, rI0, rU, tUn, gName, tRet, tLst, tLstM, tTup, L2.start, List.map_cons, List.map_nil, List.length_cons, List.length_nil, List.replicate, List.cons_append,
  List.nil_append, List.set_cons_zero, List.set_cons_succ, List.getElem?_cons_zero, List.getElem?_cons_succ, Option.some.injEq, V.int.injEq, V.ref.injEq, V.bl.injEq, V.str.injEq, List.cons.injEq, exists_eq_left', exists_eq_left, exists_and_left, exists_and_right, and_true, true_and, reduceCtorEq, false_and,
  exists_false, or_false, false_or, exists_const, exists_eq, exists_eq', Bool.not_true, Bool.not_false, Bool.false_eq_true, if_true, if_false, ite_true, ite_false])
abbrev s__law_three : Stmt := topS 61
theorem sc__law_three : FnScope ["_law_pot_here", "_law_name", "_law_low", "_law_high", "_law_spans_here", "_law_bare", "_law_some"] ["_law_pot_here"] (defScope s__law_three) := ⟨rfl, rfl, rfl, by decide +kernel, rfl, by decide +kernel, by decide +kernel⟩
theorem Far.near {q : Int × Int} (h : Far q) : Near q := by
  have e : (2 : Int) ^ 120 < 10 ^ 39 := by decide +kernel
  obtain ⟨h1, h2, h3, h4⟩ := h
  unfold Near
  omega
section
variable {base : Heap} {P : Program} {w : World} {mg : Str → Option Value} {K : PySem.W.Frag}
def sp_three : Sp := fun vs H Q _ => ∃ (p : Addr) (m : Nat), vs = [.ref p] ∧ Pot H p m ∧ m + 300 < 1000000 ∧ ∀ (H' : Hp) (l : Addr) (vn vr vm : V) (dn dr dm : PyData), Kp p H H' → Pot H' p (m + 100) → H' l = some (.lst [vn, vr, vm]) →
  Dq true l H' vn dn → Dq true l H' vr dr → Dq true l H' vm dm → Sz 60000 20 dn → Sz 60000 20 dr → Sz 60000 20 dm → Q (.ref l) H'
theorem ok_three {f : Addr} {fd : FuncData} (F : Fun K "_law_three" "_law_three" s__law_three f fd) (T : Txt mg) (C__law_any : Cal P w K mg base 2 "_law_any" sp_any) (C__law_draw : Cal P w K mg base 1 "_law_draw" sp_draw)
    (C__law_spans : Cal P w K mg base 3 "_law_spans" sp_spans) (C__law_odd : Cal P w K mg base 3 "_law_odd" sp_odd) : FnG P w K mg base 4 f fd ["_law_pot_here"] sp_three := by
  refine okG F sc__law_three (fun vs H Q E h => ?_) (fun cdv A outer s H vs Q E hg hr h => ?_)
  · obtain ⟨p, m, rfl, _⟩ := h
    rfl
  · obtain ⟨p, m, rfl, hp, hm, q⟩ := h
    replace hr := And.intro hg hr
    refine ⟨_, (pss_cons (ps_set (i := 1) sc__law_three.nd rfl (Or.inl rfl) (pe_c C__law_any hr (by decide) (by rfl) (pa_cons (pv 0) (pa_cons (pe_lst (pa_cons pe_str (pa_cons pe_str (pa_cons pe_str (pa_cons pe_str (pa_cons pe_str (pa_cons pe_str (pa_cons pe_str (pa_cons pe_str (pa_cons pe_str (pa_cons pe_str (pa_cons pe_str (pa_cons pe_str pa_nil))))))))))))) pa_nil))))
        (pss_cons (ps_asg (pe_c C__law_any hr (by decide) (by rfl) (pa_cons (pv 0) (pa_cons (pe_lst (pa_cons (pe_tup (pa_cons pe_int (pa_cons pe_int pa_nil))) (pa_cons (pe_tup (pa_cons (pe_un un_neg pe_int) (pa_cons pe_int pa_nil))) (pa_cons (pe_tup (pa_cons (pe_un un_neg pe_int) (pa_cons pe_int pa_nil))) (pa_cons (pe_tup (pa_cons pe_int (pa_cons pe_int pa_nil))) (pa_cons (pe_tup (pa_cons (pe_un un_neg pe_int) (pa_cons (pe_un un_neg pe_int) pa_nil))) pa_nil)))))) pa_nil))) (pg_tupV (n := 2) rfl (pgs_cons (pg_name (i := 2) sc__law_three.nd rfl (Or.inl rfl)) (pgs_cons (pg_name (i := 3) sc__law_three.nd rfl (Or.inl rfl)) pgs_nil))))
        (pss_cons (ps_par (i := 4) (j := 5) (by rfl) sc__law_three.nd rfl rfl (by decide) rfl rfl (pa_cons (pe_c C__law_spans hr (by decide) (by rfl) (pa_cons (pv 0) (pa_cons (pe_c C__law_any hr (by decide) (by rfl) (pa_cons (pv 0) (pa_cons (pe_lst (pa_cons pe_int (pa_cons pe_int (pa_cons pe_int pa_nil)))) pa_nil))) (pa_cons (pv 2) (pa_cons (pv 3) pa_nil))))) (pa_cons (pe_c C__law_any hr (by decide) (by rfl) (pa_cons (pv 0) (pa_cons (pe_lst (pa_cons pe_bl (pa_cons pe_bl (pa_cons pe_bl (pa_cons pe_int (pa_cons pe_int (pa_cons pe_non pa_nil))))))) pa_nil))) pa_nil)) (by rfl))
        (pss_cons (ps_set (i := 6) sc__law_three.nd rfl (Or.inl rfl) (pe_lst (pa_cons (pv 1) (pa_cons (pv 4) (pa_cons (pv 5) pa_nil)))))
        (pss_cons (ps_if (pt_cmpR op_eq (pe_c C__law_draw hr (by decide) (by rfl) (pa_cons (pv 0) (pa_cons pe_int pa_nil))) pe_int (nomark _)) (pss_one (ps_asg (pe_c C__law_odd hr (by decide) (by rfl) (pa_cons (pv 0) pa_nil)) (pg_sub (pv 6) (pe_c C__law_draw hr (by decide) (by rfl) (pa_cons (pv 0) (pa_cons pe_int pa_nil))) set_list))) pss_nil)
        (pss_one (ps_ret (pv 6)))))))), ?_⟩
    walk_at "rd"
    obtain ⟨y0, e0⟩ := hp.lst
    refine ⟨by decide, fun M nM => ⟨p, M, _, m, rfl, hp.same (new_same nM), by omega, (ne_of_none e0 nM).symm, upd_same, by simp, by decide, fun H1 x k1 p1 mx => ?_⟩⟩
    obtain ⟨nm, rfl, zn⟩ : ∃ nm : Str, x = .str nm ∧ Sz 60000 20 (.str nm) := by
      simp only [List.mem_cons, List.not_mem_nil, or_false] at mx
      rcases mx with rfl | rfl | rfl | rfl | rfl | rfl | rfl | rfl | rfl | rfl | rfl | rfl <;> exact ⟨_, rfl, sz_of (by decide +kernel)⟩
    have k01 : Kp p H H1 := (Kp.of (new_same nM)).trans k1
    obtain ⟨y1, e1⟩ := p1.lst
    refine ⟨by decide, fun a1 n1 => ⟨by decide, fun a2 n2 => ⟨by decide, fun a3 n3 => ⟨by decide, fun a4 n4 => ⟨by decide, fun a5 n5 => ⟨by decide, fun L nL => ?_⟩⟩⟩⟩⟩⟩
    have t1 := new_same (o := .tup [V.int 0, V.int 30]) n1
    have t2 := new_same (o := .tup [V.int (-9999), V.int 9999]) n2
    have t3 := new_same (o := .tup [V.int (-10004), V.int 9]) n3
    have t4 := new_same (o := .tup [V.int 9950, V.int 10003]) n4
    have t5 := new_same (o := .tup [V.int (-9999), V.int (-9950)]) n5
    have t6 := new_same (o := .lst [V.ref a1, V.ref a2, V.ref a3, V.ref a4, V.ref a5]) nL
    have t05 := t1.trans (t2.trans (t3.trans (t4.trans t5)))
    have t06 := t05.trans t6
    have w1 := t6 _ _ (t5 _ _ (t4 _ _ (t3 _ _ (t2 _ _ (upd_same (H := H1) (a := a1) (o := .tup [V.int 0, V.int 30]))))))
    have w2 := t6 _ _ (t5 _ _ (t4 _ _ (t3 _ _ (upd_same (H := upd H1 a1 (.tup [V.int 0, V.int 30])) (a := a2) (o := .tup [V.int (-9999), V.int 9999])))))
    have w3 := t6 a3 _ (t5 _ _ (t4 _ _ upd_same))
    have w4 := t6 a4 _ (t5 _ _ upd_same)
    have w5 := t6 a5 _ upd_same
    refine ⟨p, L, _, m + 1, rfl, p1.same t06, by omega, (ne_of_none (t05 _ _ e1) nL).symm, upd_same, by simp, by simp, fun H2 x2 k2 p2 mx2 => ?_⟩
    have tupOf : ∀ (a : Addr) (u : HO), upd _ L (.lst [V.ref a1, V.ref a2, V.ref a3, V.ref a4, V.ref a5]) a = some u → (∀ ys, u ≠ .lst ys) → H2 a = some u := fun a u z nz => k2 _ _ (fun y => by
      rw [y, t06 _ _ e1] at z
      cases z
      exact nz _ rfl) z
    obtain ⟨ta, lo, hi, rfl, et, b0, b1, b2⟩ : ∃ (ta : Addr) (lo hi : Int), x2 = .ref ta ∧ H2 ta = some (.tup [V.int lo, V.int hi]) ∧ -10004 ≤ lo ∧ lo ≤ hi ∧ hi ≤ 10003 := by
      simp only [List.mem_cons, List.not_mem_nil, or_false] at mx2
      rcases mx2 with rfl | rfl | rfl | rfl | rfl
      · exact ⟨_, _, _, rfl, tupOf _ _ w1 (fun _ z => by cases z), by decide, by decide, by decide⟩
      · exact ⟨_, _, _, rfl, tupOf _ _ w2 (fun _ z => by cases z), by decide, by decide, by decide⟩
      · exact ⟨_, _, _, rfl, tupOf _ _ w3 (fun _ z => by cases z), by decide, by decide, by decide⟩
      · exact ⟨_, _, _, rfl, tupOf _ _ w4 (fun _ z => by cases z), by decide, by decide, by decide⟩
      · exact ⟨_, _, _, rfl, tupOf _ _ w5 (fun _ z => by cases z), by decide, by decide, by decide⟩
    have k02 := k01.trans ((Kp.of t06).trans k2)
    clear tupOf w1 w2 w3 w4 w5 t1 t2 t3 t4 t5 t6 t05 t06 mx2 mx
    refine ⟨ta, rfl, _, et, rfl, _, _, rfl, _, _, rfl, rfl, by decide, fun M2 nM2 => ?_⟩
    obtain ⟨y2, e2⟩ := p2.lst
    refine ⟨p, M2, _, m + 2, rfl, p2.same (new_same nM2), by omega, (ne_of_none e2 nM2).symm, upd_same, by simp, by simp, fun H3 x3 k3 p3 mx3 => ?_⟩
    obtain ⟨most, rfl, mo⟩ : ∃ most : Nat, x3 = .int (most : Int) ∧ most ≤ 6 := by
      simp only [List.mem_cons, List.not_mem_nil, or_false] at mx3
      rcases mx3 with rfl | rfl | rfl
      · exact ⟨3, rfl, by decide⟩
      · exact ⟨4, rfl, by decide⟩
      · exact ⟨6, rfl, by decide⟩
    have k03 := k02.trans ((Kp.of (new_same nM2)).trans k3)
    have big : (2 : Int) ^ 110 = 1298074214633706907132624082305024 := by decide
    refine ⟨p, most, lo, hi, m + 3, rfl, p3, by omega, by omega, by omega, by omega, by omega, fun H4 t xs ps k4 p4 ht hps l5 fr => ?_⟩
    have k04 := k03.trans k4
    walk_at "rd"
    obtain ⟨y4, e4⟩ := p4.lst
    refine ⟨by decide, fun M3 nM3 => ⟨p, M3, _, m + 63, rfl, p4.same (new_same nM3), by omega, (ne_of_none e4 nM3).symm, upd_same, by simp, by simp, fun H5 x5 k5 p5 mx5 => ?_⟩⟩
    obtain ⟨db, hb, zb⟩ : ∃ db, (∀ c H', Dq true c H' x5 db) ∧ Sz 60000 20 db := by
      simp only [List.mem_cons, List.not_mem_nil, or_false] at mx5
      rcases mx5 with rfl | rfl | rfl | rfl | rfl | rfl
      · exact ⟨_, fun _ _ => .bl true, sz_of (by decide +kernel)⟩
      · exact ⟨_, fun _ _ => .bl false, sz_of (by decide +kernel)⟩
      · exact ⟨_, fun _ _ => .bl false, sz_of (by decide +kernel)⟩
      · exact ⟨_, fun _ _ => .int 0, sz_of (by decide +kernel)⟩
      · exact ⟨_, fun _ _ => .int 1, sz_of (by decide +kernel)⟩
      · exact ⟨_, fun _ _ => .non, sz_of (by decide +kernel)⟩
    refine ⟨_, _, ⟨rfl, rfl⟩, by decide, fun l nl => ?_⟩
    obtain ⟨y5, e5⟩ := p5.lst
    have nlp : l ≠ p := (ne_of_none e5 nl).symm
    have k45 : Kp p H4 H5 := (Kp.of (new_same nM3)).trans k5
    have ntp : t ≠ p := fun z => by rw [z, e4] at ht; cases ht
    have ht5 := k45 _ _ ntp ht
    have ps5 : PrAll H5 xs ps := hps.tk (TK.kp k45 e4)
    have s6 := new_same (o := .lst [V.str nm, V.ref t, x5]) nl
    have k05 := k04.trans k45
    have nl0 : H l = none := by
      cases z : H l with
      | none => rfl
      | some o =>
        have := k05 _ _ nlp z
        rw [nl] at this
        cases this
    refine ⟨p, 3, m + 64, rfl, p5.same s6, by omega, by decide, by decide, fun H6 r k6 p6 r0 r1 => ⟨rfl, ?_⟩⟩
    have k56 : Kp p H5 H6 := (Kp.of s6).trans k6
    have el6 := k6 _ _ nlp (upd_same (H := H5) (a := l) (o := .lst [V.str nm, V.ref t, x5]))
    have ht6 := k56 _ _ ntp ht5
    have ps6 : PrAll H6 xs ps := ps5.tk (TK.kp k56 e5)
    have k06 := k05.trans k56
    have near : ∀ q ∈ ps, Near q := fun q m => (fr q m).near
    have zt : Sz 60000 20 (.tuple (ps.map prD)) := (Sz.tuple (prs_sz near) (by rw [List.length_map]; omega)).up (by rw [List.length_map]; omega) (by omega)
    have dt : ∀ (G : Hp) (ys : List V), G t = some (.tup xs) → PrAll G xs ps → G l = some (.lst ys) → Dq true l G (.ref t) (.tuple (ps.map prD)) := fun G ys g1 g2 g3 => .tup g1 (fun z => by rw [z, g3] at g1; cases g1) (PrAll.dq g3 g2)
    refine ite2 (fun c => ?_) (fun c => ?_)
    · obtain ⟨y6, e6⟩ := p6.lst
      refine ⟨p, l, _, m + 65, rfl, p6, nlp, el6, by omega, fun H7 v d k7 p7 dqp dql sz => ?_⟩
      obtain ⟨y7, e7⟩ := p7.lst
      refine ⟨p, 3, m + 77, rfl, p7, by omega, by decide, by decide, fun H8 i k8 p8 i0 i3 => ?_⟩
      have k68 := k7.trans k8
      have el8 := k68 _ _ nlp el6
      have ht8 := k68 _ _ ntp ht6
      have ps8 : PrAll H8 xs ps := ps6.tk (TK.kp k68 e6)
      have dq8 := Dq.keep2 k8 d v dqp dql
      have put : ∀ ys, let G := upd H8 l (.lst ys); Kp p H G ∧ Pot G p (m + 100) ∧ Dq true l G v d ∧ Dq true l G (.ref t) (.tuple (ps.map prD)) := fun ys =>
        ⟨(k06.trans k68).putNew nl0, (p8.eq (by rw [upd_ne nlp.symm])).up (by omega), Dq.keep Kp.put d v dq8, dt _ ys (by rw [upd_ne (fun z => by rw [z, el8] at ht8; cases ht8)]; exact ht8) (ps8.tk (TK.put el8)) upd_same⟩
      have ci : i = 0 ∨ i = 1 ∨ i = 2 := by omega
      rcases ci with rfl | rfl | rfl
      · obtain ⟨g1, g2, g3, g4⟩ := put [v, V.ref t, x5]
        exact ⟨_, 0, rfl, el8, 0, rfl, q _ l v (.ref t) x5 d _ db g1 g2 upd_same g3 g4 (hb _ _) sz zt zb⟩
      · obtain ⟨g1, g2, g3, g4⟩ := put [V.str nm, v, x5]
        exact ⟨_, 1, rfl, el8, 1, rfl, q _ l (.str nm) v x5 _ d db g1 g2 upd_same (.str _) g3 (hb _ _) zn sz zb⟩
      · obtain ⟨g1, g2, g3, g4⟩ := put [V.str nm, V.ref t, v]
        exact ⟨_, 2, rfl, el8, 2, rfl, q _ l (.str nm) (.ref t) v _ _ d g1 g2 upd_same (.str _) g4 g3 zn zt sz⟩
    · exact q H6 l (.str nm) (.ref t) x5 _ _ db k06 (p6.up (by omega)) el6 (.str _) (dt _ _ ht6 ps6 el6) (hb _ _) zn zt zb
end
end Pf

set_option Elab.async false
set_option linter.all false
set_option maxRecDepth 100000
/-! What a call told, shown. -/
namespace Pf
open PySem PySem.Spec PyProof.Rows L2
local macro_rules | `(tactic| walk_at "rd") => `(tactic| simp only [tC1, tCK, tB, rNe, rEq, tChain, gTupV, gCons, gNil, Nat.sub_self, Nat.reduceSub, List.replicate_zero, List.replicate_succ, tTest, tIfS, tIf, tNot, tAnd, tOr, tAndV, tOrV, tNotV, tDrop, tNext, rIxV, rIxP,
  gSub, rSetL, tSl, tPart, tNoPart, rSl1, tAsg2, ipI, tDNewK, tBM, rAppend, wipe, rAllB, rAnyB, iTup, iList, RZ.iZipA, iRng1, iRng2, tYes, upd_same, at0, at1, at2, at20, at21, ixN30, ixN32, HO.lst.injEq, HO.tup.injEq, Nat.reduceAdd, tSeq, tAsg, tPar, tAug, tOp, tVar, tC, tCB, tCons, tNil, rI, rI0, rU, tUn, gName, tRet, tLst, tLstM, tTup, L2.start, List.map_cons, List.map_nil, List.length_cons, List.length_nil, List.replicate, List.cons_append,
  List.nil_append, List.set_cons_zero, List.set_cons_succ, List.getElem?_cons_zero, List.getElem?_cons_succ, Option.some.injEq, V.int.injEq, V.ref.injEq, V.bl.injEq, V.str.injEq, List.cons.injEq, exists_eq_left', exists_eq_left, exists_and_left, exists_and_right, and_true, true_and, reduceCtorEq, false_and,
  exists_false, or_false, false_or, exists_const, exists_eq, exists_eq', Bool.not_true, Bool.not_false, Bool.false_eq_true, if_true, if_false, ite_true, ite_false])
abbrev s__law_shown : Stmt := topS 63
theorem sc__law_shown : FnScope ["_law_told", "_law_name"] ["_law_told", "_law_name"] (defScope s__law_shown) := ⟨rfl, rfl, rfl, by decide +kernel, rfl, by decide +kernel, by decide +kernel⟩
/-- (x,) == (y,) of texts -/
def rEqT1 : R2 := fun x y H Q => ∃ (a b : Addr) (z u : Str), x = .ref a ∧ y = .ref b ∧ H a = some (.tup [.str z]) ∧ H b = some (.tup [.str u]) ∧ PyData.strOk z = true ∧ PyData.strOk u = true ∧ Q (.bl (decide (z = u))) H
theorem shaped1 {z : Str} (h : PyData.strOk z = true) : SeqAt.shaped (.tuple [.str z]) = true := by
  unfold SeqAt.shaped
  simp only [PyData.canLay0, PyData.canLayAll0, PyData.depth, PyData.depthAll, h, Bool.true_and, Bool.and_true]
  exact decide_eq_true (by decide)
theorem op_eqT1 {X : Cx} (hu : X.A.units + 64 < cLine) : OpR X (compareOp .Eq) rEqT1 := by
  intro pins s σ H x y v u Q I rx ry h
  obtain ⟨a, b, z, w, rfl, rfl, e1, e2, o1, o2, q⟩ := h
  refine op_eqD hu pins s σ H _ _ v u Q I rx ry ⟨.tuple [.str z], .tuple [.str w], .tup (SqT.of e1) (.cons (.str z) .nil), .tup (SqT.of e2) (.cons (.str w) .nil), shaped1 o1, shaped1 o2, ?_⟩
  have e : PyData.eqv (.tuple [.str z]) (.tuple [.str w]) = decide (z = w) := by
    simp only [PyData.eqv, PyData.eqvAll, Bool.and_true]
    by_cases h : z = w
    · rw [h, decide_eq_true rfl]; simp
    · rw [decide_eq_false h]; simpa using h
  rw [e]
  exact q
section
variable {base : Heap} {P : Program} {w : World} {mg : Str → Option Value} {K : PySem.W.Frag}
def sp_shown (C : Addr) : Sp := fun vs H Q _ => ∃ (t : Addr) (vn : V) (k T : Str), vs = [.ref t, vn] ∧ ((k ≠ "told" ∧ H t = some (.tup [.str k, .str T])) ∨
    (k = "told" ∧ ∃ (x dx c : Addr) (fs : List (Str × V)) (z : Str), H t = some (.tup [.str "told", .ref x]) ∧ H x = some (.ins C dx fs) ∧ fs.lookup ("string" : Str) = some (V.str T) ∧ fs.lookup ("columns" : Str) = some (V.ref c) ∧ H c = some (.tup [.str z]) ∧ vn = .str z ∧ PyData.strOk z = true)) ∧
  ∀ H' t', Same H H' → H' t' = some (.tup [.str k, .str T]) → Q (.ref t') H'
theorem ok_shown {C : Addr} {f : Addr} {fd : FuncData} (F : Fun K "_law_shown" "_law_shown" s__law_shown f fd) (T : Txt mg) (hC : CondC K C) : FnG P w K mg base 1 f fd ["_law_told", "_law_name"] (sp_shown C) := by
  refine okG F sc__law_shown (fun vs H Q E h => ?_) (fun cdv A outer s H vs Q E hg hr h => ?_)
  · obtain ⟨t, vn, k, T, rfl, _⟩ := h
    rfl
  · obtain ⟨t, vn, k, TT, rfl, h, q⟩ := h
    replace hr := And.intro hg hr
    refine ⟨_, (pss_cons (ps_if (pt_cmpR op_ne (pe_ix ix_t (pv 0) pe_int (fun _ _ => rfl)) pe_str (nomark _)) (pss_one (ps_ret (pv 0))) pss_nil)
        (pss_one (ps_ret (pe_ifExp (pt_cmpR (op_eqT1 hr.2.u64) (pe_fld (pe_ix ix_t (pv 0) pe_int (fun _ _ => rfl)) (by rfl)) (pe_tup (pa_cons (pv 1) pa_nil)) (nomark _)) (pe_tup (pa_cons pe_str (pa_cons (pe_fld (pe_ix ix_t (pv 0) pe_int (fun _ _ => rfl)) (by rfl)) pa_nil))) (pe_tup (pa_cons pe_str (pa_cons pe_non pa_nil))))))), ?_⟩
    walk_at "rd"
    rcases h with ⟨nk, e⟩ | ⟨rfl, x, dx, c, fs, z, e, ex, ls, lc, ec, rfl, oz⟩
    · have dk : decide (V.str k = V.str "told") = false := decide_eq_false fun z => nk (V.str.inj z)
      refine ⟨_, e, .str k, rfl, rfl, ?_⟩
      rw [dk]
      exact iteT (q _ t (Same.refl _) e)
    · refine ⟨_, e, .str "told", rfl, rfl, ?_⟩
      rw [decide_eq_true rfl]
      refine iteF ⟨.ref t, rfl, t, _, 1, .ref x, rfl, rfl, e, rfl, x, C, dx, fs, _, rfl, ex, hC.cl, hC.n4, lc, by decide, fun p hp => ?_⟩
      have s1 := new_same (o := .tup [V.str z]) hp
      refine ⟨c, p, z, z, rfl, rfl, s1 _ _ ec, upd_same, oz, oz, _, rfl, ?_⟩
      rw [decide_eq_true rfl]
      exact iteT ⟨.ref t, rfl, t, _, 1, .ref x, rfl, rfl, s1 _ _ e, rfl, x, C, dx, fs, _, rfl, s1 _ _ ex, hC.cl, hC.n5, ls, by decide, fun p2 hp2 => q _ p2 (s1.trans (new_same hp2)) upd_same⟩
end
end Pf

set_option Elab.async false
set_option linter.all false
set_option maxRecDepth 100000
/-! Lambdas of one parameter, handed to a def that calls them: what they answer, told of the state. -/
namespace Pf
open PySem PySem.Spec PyProof.Rows L2 LamX NdefX
/-- from the state s on the function at f answers the whole number n by p n -/
structure Ans (P : Program) (w : World) (K : PySem.W.Frag) (mg : Str → Option Value) (base : Heap) (k : Nat) (f : Addr) (p : Int → Bool) (s : Shared) (H : Hp) (fs : List Addr) : Prop where
  here : ∀ (s1 : Shared) (H1 : Hp), Un fs [] H H1 s.heap s1.heap → PySem.W.FnAt f s1.heap
  run : ∀ (A : Around) (outer : List Env) (s1 : Shared) (H1 : Hp) (n : Int) (u : Value) (Q : VK), A.guards = some [] → Room k A → Env0 P w K mg base A outer s1 H1 → Un fs [] H H1 s.heap s1.heap → L2.Same H H1 → RelV (.int n) u →
    (∀ H2, L2.Same H1 H2 → Q (.bl (p n)) H2) → codeAny (model P w) A (.call (.ref f) ⟨[u], []⟩) (CR CX0 outer P w H1 s1 Q noErr) s1
section
variable {X : Cx} {i j k : Nat} {x : Str} {f : Addr} {p : Int → Bool} {e : Expr} {t : TA} {p1 p2 : Pos}
def tAns (i : Nat) (f : Addr) (p : Int → Bool) (H0 : Hp) (t : TA) : TE := fun σ H Q => σ[i]? = some (some (.ref f)) ∧ t σ H fun vs H1 => ∃ n, vs = [V.int n] ∧ L2.Same H0 H1 ∧ ∀ H2, L2.Same H1 H2 → Q (.bl (p n)) H2
theorem pe_ans (C : Ans X.prog X.w X.K X.mg X.base k f p X.s_0 X.H_0 X.fs) (hex : X.ex = []) (hr : X.A.guards = some [] ∧ Room j X.A) (hk : k ≤ j) (hN : X.N[i]? = some x) (hv : Vis X.env.scope x) (ha : PA X [e] t)
    (hd : (x == ("__debug__" : Str)) = false := by decide) (hcd : (x == ("__classdict__" : Str)) = false := by decide) (he : starEach [e] X.env = (false, eval e X.env) :: starEach [] X.env := by rfl) :
    PE X (.Call (.Name x p1) [e] [] p2) (tAns i f p X.H_0 t) := by
  refine ⟨fun pins s σ H Q I h => ?_⟩
  obtain ⟨hs, ht⟩ := h
  refine wpAny_Call_Name_kw (thn ((pe_var (pos := p1) hN hv hd hcd).run pins s σ H (fun v H1 => v = .ref f ∧ H1 = H) I ⟨.ref f, hs, rfl, rfl⟩) ?_)
  rintro u s1 ⟨v, H1, I1, r1, rfl, rfl⟩
  obtain rfl : u = Value.ref f := r1
  have un1 : Un X.fs [] X.H_0 H1 X.s_0.heap s1.heap := hex ▸ I1.base
  refine PySem.W.callWith_F (first := []) (C.here _ _ un1) ?_ he rfl
  refine thn (ha.run p2 pins s1 σ H1 _ I1 ht) ?_
  rintro us s2 ⟨vs, H2, I2, r2, n, rfl, sm, q⟩
  obtain ⟨u2, rfl, r3⟩ := vals1 r2
  have un2 : Un X.fs [] X.H_0 H2 X.s_0.heap s2.heap := hex ▸ I2.base
  refine ⟨C.here _ _ un2, ?_⟩
  refine wpAny_call (codeAny_mono (C.run X.A X.stack s2 H2 n u2 Q hr.1 (hr.2.mono hk) I2.env0 un2 sm r3 q) ?_)
  intro res s' z
  match res, z with
  | .error e, z => exact pass0 pins σ H2 s2 e s' I2 z
  | .ok (.ret u), z => exact I2.after z
  | .ok .next, z => exact z.elim
  | .ok .brk, z => exact z.elim
  | .ok .cont, z => exact z.elim
end
/-- what the body of a lambda of one parameter makes of its parameter and of what it captured -/
theorem ans_made {X : Cx} {pins : List (Addr × Obj)} {σ : L2.St} {H : Hp} {s : Shared} {f c' : Addr} {pm ctv : Value} {params : Arguments} {body : Expr} {scope : Scope} {k : Nat} {x : Str} {N fr : List Str} {js : List Nat} {p : Int → Bool} {tb : TE}
    (I : Inv X pins σ H s) (hf : s.heap.get? f = some (PySem.W.kla_obj "<lambda>" (X.env.qual ++ "<lambda>") params body scope (cloFrom X.env.cells scope.names []) pm c' ctv)) (hfn : H f = none) (hfr : f ∉ frs X.stack)
    (hco : H c' = some (CodeO c' (X.env.qual ++ "<lambda>"))) (S : NScope N [x] fr scope) (cp : Caps X (cloFrom X.env.cells scope.names []) fr js)
    (hbind : ∀ u, bindArgs (PySem.W.kla_fn "<lambda>" (X.env.qual ++ "<lambda>") params body scope (cloFrom X.env.cells scope.names []) pm (.ref c') ctv) ⟨[u], []⟩ = pure [(x, u)])
    (hbody : ∀ (A : Around) (outer : List Env) (s : Shared) (H : Hp), (A.deeper (envF ⟨"<lambda>", X.env.qual ++ "<lambda>", params, [], scope, cloFrom X.env.cells scope.names [], c'⟩ f s.heap.objs.size)).guards = some [] →
      Room k (A.deeper (envF ⟨"<lambda>", X.env.qual ++ "<lambda>", params, [], scope, cloFrom X.env.cells scope.names [], c'⟩ f s.heap.objs.size)) →
      PE (ncx CX0 X.prog X.w X.K X.mg X.base N ⟨"<lambda>", X.env.qual ++ "<lambda>", params, [], scope, cloFrom X.env.cells scope.names [], c'⟩ f A outer s H noErr) body tb)
    (read : ∀ n H1 R, L2.Same H H1 → (∀ H2, L2.Same H1 H2 → R (.bl (p n)) H2) → tb (startF N [.int n] (js.map (slotAt σ))) H1 R) :
    Ans X.prog X.w X.K X.mg X.base (k + 1) f p s H (frs X.stack) := by
  have keep : ∀ (s1 : Shared) (H1 : Hp), Un (frs X.stack) [] H H1 s.heap s1.heap → s1.heap.get? f = some (PySem.W.kla_obj "<lambda>" (X.env.qual ++ "<lambda>") params body scope (cloFrom X.env.cells scope.names []) pm c' ctv) := fun s1 H1 un => un.keep f _ hf hfn hfr (fun z => nomatch z)
  refine ⟨fun s1 H1 un => ⟨_, _, _, _, keep s1 H1 un⟩, fun A outer s1 H1 n u Q hg hr e0 un sm ru q => ?_⟩
  have lim : s1.heap.NoLimit := e0.mod.nolimit.keeps fun b o e => (e0.bs b o e).1
  have C0 := cells_of I cp
  have C1 : CellsAt (cloFrom X.env.cells scope.names []) fr (js.map (slotAt σ)) s1.heap H1 := by
    have cell : ∀ {c : Addr} {v : Option Value}, H c = none → s.heap.IsCell c v → H1 c = none ∧ s1.heap.IsCell c v := fun {c v} nn ⟨o, ho, hd⟩ => by
      obtain ⟨sl, z⟩ := un.any ho nn (fun z => nomatch z)
      exact ⟨un.free c o ho nn (fun z => nomatch z), _, z, hd⟩
    refine ⟨C0.len, fun y c e => ?_, C0.inj, fun i y e => ?_⟩
    · obtain ⟨z1, v, z2⟩ := C0.all y c e
      exact ⟨(cell z1 z2).1, v, (cell z1 z2).2⟩
    · obtain ⟨c, z1, z2⟩ := C0.has i y e
      refine ⟨c, z1, fun v hv => ?_⟩
      obtain ⟨w', r, z3⟩ := z2 v hv
      exact ⟨w', r, (cell (C0.all y c z1).1 z3).2⟩
  obtain ⟨⟨oc, vs, t, hoc, hdc, hvc⟩, _, _⟩ := e0.hok c' _ (sm _ _ hco)
  refine PySem.W.kla_callFunE hr.depth (keep s1 H1 un) rfl S.co S.gen rfl ⟨c', oc, vs, t, rfl, hoc, hdc, hvc⟩ ?_
  rw [hbind u]
  refine wpAny_pure (wpAny_newFunctionEnv S.nocell (fun y hy => ?_) (fun h₁ hns hsb => ⟨lim.fresh _ hsb, ?_⟩) S.kind)
  · obtain rfl : y = (x, u) := List.mem_singleton.mp hy
    exact S.par x (List.mem_singleton.mpr rfl)
  have kp : ∀ b o, s1.heap.get? b = some o → h₁.get? b = some o := fun b o e => hsb.extBut b o (Nat.ne_of_lt (Heap.lt_size e)) (Heap.get?_push_of_some _ e)
  have J := inv_startN (CX := CX0) (F := ⟨"<lambda>", X.env.qual ++ "<lambda>", params, [], scope, cloFrom X.env.cells scope.names [], c'⟩) (f := f) (E := noErr) (us := [u]) (vs := [.int n]) (tk := s1.toks + 1) S hr.hd e0 rfl (.cons ru .nil) C1 hns kp
  show codeAny _ _ (.expr body (envF ⟨"<lambda>", X.env.qual ++ "<lambda>", params, [], scope, cloFrom X.env.cells scope.names [], c'⟩ f s1.heap.objs.size)) _ _
  refine PySem.W.kla_codeExpr (wpAny_mono ((hbody A outer s1 H1 (guards_deeper hg) (hr.deeper _)).run [] _ _ H1 Q J (read n H1 Q sm q)) ?_ (fun e s' hq => hq))
  rintro v s' ⟨w', H', J', rv, q'⟩
  exact ⟨w', H', J'.os, J'.bare, J'.base, J'.hok, rv, q'⟩
/-- a def of two parameters that calls the second one -/
structure CalL (P : Program) (w : World) (K : PySem.W.Frag) (mg : Str → Option Value) (base : Heap) (j m : Nat) (x : Str) (sp : V → (Int → Bool) → Hp → VK → Prop) : Prop where
  is : ∃ (g : Addr) (fd : FuncData) (ps : List Str), mg x = some (.ref g) ∧ PySem.W.keepIn K (.ref g) = true ∧ Binds K fd ps [] ∧ ps.length = 2 ∧
    ∀ (A : Around) (outer : List Env) (s : Shared) (H : Hp) (args : Args) (f : Addr) (p : Int → Bool) (v : V) (u : Value) (Q : VK), A.guards = some [] → Room m A → Env0 P w K mg base A outer s H → BindsTo s fd args (ps.zip [u, .ref f]) → RelV v u →
      Ans P w K mg base j f p s H (frs outer) → sp v p H Q → codeAny (model P w) A (.call (.ref g) args) (CR CX0 outer P w H s Q noErr) s
/-- g(e, lambda x: body) -/
def tLam1 (T : List (Addr × Str)) (sp : V → (Int → Bool) → Hp → VK → Prop) (N : List Str) (js : List Nat) (tb te : TE) : TE := fun σ H Q => te σ H fun v H1 => Tabs T H1 ∧ ∃ p : Int → Bool, ∀ H2, ExtN H1 H2 → Tabs T H2 →
  (∀ n H3 (R : VK), L2.Same H2 H3 → (∀ H4, L2.Same H3 H4 → R (.bl (p n)) H4) → tb (startF N [.int n] (js.map (slotAt σ))) H3 R) ∧ sp v p H2 Q
theorem pe_lam1 {X : Cx} {T : List (Addr × Str)} {x y : Str} {c P : Addr} {i k m : Nat} {params : Arguments} {body : Expr} {scope : Scope} {N fr : List Str} {js : List Nat} {sp : V → (Int → Bool) → Hp → VK → Prop} {tb te : TE} {e : Expr} {pp lpos pos : Pos}
    (G : CalL X.prog X.w X.K X.mg X.base (k + 1) m x sp) (hr : X.A.guards = some [] ∧ Room i X.A) (hm : m ≤ i) (gl : Gl X x) (he : PE X e te)
    (TB : TabB X.base X.mg c P) (hcode : X.env.code = .ref c) (hmT : (P, X.env.qual ++ "<lambda>") ∈ T) (hu : ∀ p ∈ T, p.1 = P → p.2 = X.env.qual ++ "<lambda>") (S : NScope N [y] fr scope)
    (hfree : ∀ z ∈ scope.names, z.2 = .free → X.env.scope.names.lookup z.1 = some .cell ∨ X.env.scope.names.lookup z.1 = some .free) (hfr : ∀ z ∈ fr, (z, NameKind.free) ∈ scope.names) (hjs : js.map (fun j => X.N[j]?) = fr.map some)
    (hdef : defaultsOf params X.env = ([], []))
    (hbind : ∀ (q : Str) (cl : List (Str × Addr)) (pm cv ctv u : Value), bindArgs (PySem.W.kla_fn "<lambda>" q params body scope cl pm cv ctv) ⟨[u], []⟩ = pure [(y, u)])
    (hbody : ∀ (nm ql : Str) (cl : List (Str × Addr)) (c' f : Addr) (A : Around) (outer : List Env) (s : Shared) (H : Hp), ((A.deeper (envF ⟨nm, ql, params, [], scope, cl, c'⟩ f s.heap.objs.size)).guards = some [] ∧ Room k (A.deeper (envF ⟨nm, ql, params, [], scope, cl, c'⟩ f s.heap.objs.size))) →
      PE (ncx CX0 X.prog X.w X.K X.mg X.base N ⟨nm, ql, params, [], scope, cl, c'⟩ f A outer s H noErr) body tb)
    (hdb : (x == ("__debug__" : Str)) = false := by decide) (hs : starEach [e, .Lambda params body scope lpos] X.env = (false, eval e X.env) :: starEach [.Lambda params body scope lpos] X.env := by rfl) :
    PE X (.Call (.Name x pp) [e, .Lambda params body scope lpos] [] pos) (tLam1 T sp N js tb te) := by
  obtain ⟨g, fd, ps, hmx, kp, b, l2, run⟩ := G.is
  refine ⟨fun pins s σ H Q I h => ?_⟩
  refine Call_ (ld_glob I gl hmx ?_ hdb)
  refine PySem.W.callWith_K (h₀ := X.base) I.ok.mod.kin kp ?_ hs (by rfl)
  rw [hs]
  show wpAny _ _ (spliced ((false, eval e X.env) :: (false, eval (.Lambda params body scope lpos) X.env) :: backTo pos (starEach [] X.env))) _ _ s
  refine Calls.spliced_cons (thn (he.run pins s σ H _ I h) ?_)
  rintro u s1 ⟨v, H1, I1, rv, T1, p, q⟩
  have has : ∀ z ∈ scope.names, z.2 = .free → ∃ c, X.env.cells.lookup z.1 = some c := fun z hz e => (hfree z hz e).elim (fun k => I1.ok.has _ (.inl k)) fun k => I1.ok.has _ (.inr k)
  refine Calls.spliced_cons (lam_make2 I1 TB hcode hmT hu T1 hdef has fun f c' pm ctv H2 s2 I2 eN T2 hf hfn hfr' hco => Calls.spliced_nil ⟨I2.kIn, ?_⟩)
  obtain ⟨rd, q2⟩ := q H2 eN T2
  have ans := ans_made (p := p) I2 hf hfn hfr' hco S (Caps.made I2.ok hfree hfr hjs) (fun u => hbind _ _ _ _ _ u) (fun A outer s H h1 h2 => hbody _ _ _ _ f A outer s H ⟨h1, h2⟩) rd
  have bb := b s2 [u, .ref f] I2.kIn (by rw [List.append_nil]; exact l2.symm)
  rw [List.append_nil] at bb
  refine wpAny_call (codeAny_mono (run X.A X.stack s2 H2 _ f p v u Q hr.1 (hr.2.mono hm) I2.env0 bb rv ans q2) ?_)
  intro res s' z
  match res, z with
  | .error e, z => exact pass0 pins σ H2 s2 e s' I2 z
  | .ok (.ret u), z => exact I2.after z
  | .ok .next, z => exact z.elim
  | .ok .brk, z => exact z.elim
  | .ok .cont, z => exact z.elim
/-- such a def by its body -/
theorem calL_of {P : Program} {w : World} {K : PySem.W.Frag} {mg : Str → Option Value} {base : Heap} {x qual : Str} {st : Stmt} {f : Addr} {fd : FuncData} {N : List Str} {a b : Str} {j k : Nat} {sp : V → (Int → Bool) → Hp → VK → Prop} (F : Fun K x qual st f fd) (S : FnScope N [a, b] (defScope st)) (hm : mg x = some (.ref f)) (hb : Binds K fd [a, b] [])
    (bd : ∀ (cdv : Value) (A : Around) (outer : List Env) (s : Shared) (H : Hp) (h : Addr) (p : Int → Bool) (v : V) (Q : VK), (A.deeper (envOfC qual (defScope st) s.heap.objs.size f cdv)).guards = some [] →
      Room k (A.deeper (envOfC qual (defScope st) s.heap.objs.size f cdv)) → Ans P w K mg base j h p s H (frs outer) → sp v p H Q →
      ∃ t, PSs (cxOf CX0 P w K mg base N qual (defScope st) f cdv A outer s H noErr).nox (defBody st) t ∧ t { nx := fun _ H' => Q .non H', rt := Q } (start N [v, .ref h]) H) : CalL P w K mg base j (k + 1) x sp := by
  refine ⟨f, fd, [a, b], hm, F.kp, hb, rfl, ?_⟩
  obtain ⟨_, _, _, _, _, _, cdv, _, _, hfd, lk, hcd⟩ := F.ex
  subst hfd
  intro A outer s H args h p v u Q hg hr e0 bind rv ans promise
  refine run_ofS (CX := CX0) (E := noErr) (us := [u, .ref h]) (vs := [v, .ref h]) lk hcd S hr e0 bind (.cons rv (.cons rfl .nil)) rfl fun hr' => ?_
  obtain ⟨t, der, rd⟩ := bd cdv A outer s H h p v Q (guards_deeper hg) hr' ans promise
  exact ⟨t, der.nox, rd⟩
end Pf

set_option Elab.async false
set_option linter.all false
set_option maxRecDepth 100000
/-! Tables of code objects: a def that makes lambdas, and the law's call where tables are tracked. -/
namespace Pf
open PySem PySem.Spec PyProof.Rows L2 LamX NdefX
/-- all but what is at p and the tables stay -/
def Ke (p : Addr) (H H' : Hp) : Prop := ∀ b o, b ≠ p → (∀ ps, o ≠ HO.tbl ps) → H b = some o → H' b = some o
theorem Ke.refl (p : Addr) (H : Hp) : Ke p H H := fun _ _ _ _ h => h
theorem Ke.trans {p : Addr} {H H1 H2 : Hp} (a : Ke p H H1) (b : Ke p H1 H2) : Ke p H H2 := fun c o n m h => b c o n m (a c o n m h)
theorem Ke.kp {p : Addr} {H H' : Hp} (a : Kp p H H') : Ke p H H' := fun c o n _ h => a c o n h
theorem Ke.ext {p : Addr} {H H' : Hp} (a : ExtN H H') : Ke p H H' := fun c o _ m h => a c o h m
theorem Ke.same {p : Addr} {H H' : Hp} (a : Same H H') : Ke p H H' := fun c o _ _ h => a c o h
theorem ext_same {H H' : Hp} (a : Same H H') : ExtN H H' := fun c o h _ => a c o h
theorem TabS.kp {p P : Addr} {q : Str} {H H' : Hp} {xs : List V} (t : TabS H P q) (k : Kp p H H') (hp : H p = some (.lst xs)) : TabS H' P q := by
  obtain ⟨ps, h1, h2, h3⟩ := t
  refine ⟨ps, k _ _ (fun z => ?_) h1, h2, fun pos cv hc => ?_⟩
  · rw [z, hp] at h1
    cases h1
  · obtain ⟨c, e1, e2⟩ := h3 pos cv hc
    refine ⟨c, e1, k _ _ (fun z => ?_) e2⟩
    rw [z, hp] at e2
    unfold CodeO at e2
    cases e2
theorem Tabs.kp {p : Addr} {T : List (Addr × Str)} {H H' : Hp} {xs : List V} (t : Tabs T H) (k : Kp p H H') (hp : H p = some (.lst xs)) : Tabs T H' := fun z m => TabS.kp (t z m) k hp
theorem Tabs.same {T : List (Addr × Str)} {H H' : Hp} (t : Tabs T H) (s : Same H H') : Tabs T H' := Tabs.ext t s
theorem ext_tk {H H' : Hp} (e : ExtN H H') : TK H H' := fun b xs h => e b _ h fun _ z => nomatch z
theorem ke_tk {p : Addr} {H H' : Hp} {xs : List V} (e : Ke p H H') (hp : H p = some (.lst xs)) : TK H H' := fun b ys h => e b _ (fun z => by rw [z, hp] at h; cases h) (fun _ z => nomatch z) h
/-- the law's call where tables of code objects are tracked -/
theorem lawT {P : Program} {w : World} {K : PySem.W.Frag} {mg mb : Str → Option Value} {k : Nat} {fa a : Addr} {cs : List (Addr × Addr)} {fd : FuncData} {x : Str} {sp : Sp} {s₁ : Shared} {vs : List Value} {ns : List Int}
    (KX : K.In s₁.heap) (gn : s₁.heap.Ns mainGlobals mg) (bn : s₁.heap.Ns builtinsNs mb) (bb : ∀ x : Str, x ≠ "__name__" → mb x = bootBuiltins x) (nl : s₁.heap.NoLimit) (gens : s₁.gens = #[])
    (tabs : PySem.W.TabsAt cs s₁.heap) (loose : ∀ p ∈ cs, K.lookup p.2 = none)
    (bmod : ∃ (bm : Addr) (ob : Obj), mg "__builtins__" = some (.ref bm) ∧ bm ≠ builtinsNs ∧ s₁.heap.get? bm = some ob ∧ ob.cls = .type "module" ∧ ob.dict = some builtinsNs ∧ ob.data = .plain)
    (at_a : s₁.heap.get? a = some { cls := .type "list", data := .seq vs.toArray }) (iv : IntsAre vs ns) (few : ns.length ≤ sizeLine) (room : Room k callerA)
    (F : ∀ base : Heap, K.In base → base.Ns mainGlobals mg → (∀ p ∈ cs, TabB base mg p.1 p.2) → FnG P w K mg base k fa fd [x] sp) (bind : ∀ (s : Shared) (u : Value), BindsTo s fd ⟨[u], []⟩ [(x, u)])
    (goal : ∀ H : Hp, (∀ p ∈ cs, H p.2 = some (.tbl #[])) → SqL K H a (ns.map V.int) → sp [.ref a] H (fun v _ => v = .bl true) fun _ _ _ => False) :
    codeAny (model P w) callerA (.call (.ref fa) ⟨[.ref a], []⟩) (fun out t => out = .ok (.ret (.bool true)) ∧ OldK s₁.heap t.heap ∧ t.os = s₁.os ∧ AllBare t.gens) s₁ := by
  have rel := vals_ints iv
  have tabAt : ∀ b, b ∈ cs.map Prod.snd → s₁.heap.get? b = some (PySem.W.tabObj #[]) := fun b m => by
    obtain ⟨z, zm, rfl⟩ := List.mem_map.mp m
    exact (tabs z zm).2
  have isTab : ∀ z ∈ cs, z.2 ∈ cs.map Prod.snd := fun z zm => List.mem_map.mpr ⟨z, zm, rfl⟩
  have aOut : a ∉ cs.map Prod.snd := fun m => by
    have g := tabAt a m
    rw [at_a] at g
    exact nomatch (congrArg Obj.cls (Option.some.inj g))
  -- what is tracked: the tables; the script, unless it is an object of the written part
  obtain ⟨H, kind, sql, ok, gotT⟩ : ∃ H : Hp, (∀ b, H b = none ∨ (b ∈ cs.map Prod.snd ∧ H b = some (.tbl #[])) ∨ (b = a ∧ K.lookup a = none ∧ ∃ o xs, H b = some (.frz o (.lst xs)))) ∧ SqL K H a (ns.map V.int) ∧ HOk P w H s₁.heap ∧ ∀ z ∈ cs, H z.2 = some (.tbl #[]) := by
    cases look : K.lookup a with
    | some o =>
      have same := KX a o look
      rw [at_a] at same
      cases same
      refine ⟨fun b => if b ∈ cs.map Prod.snd then some (.tbl #[]) else none, fun b => ?_, .inr ⟨_, vs.toArray, _, look, rfl, rfl, rfl, by rw [List.size_toArray, iv.length]; exact few, by simpa using rel⟩, fun b u z => ?_, fun z zm => if_pos (isTab z zm)⟩
      · by_cases m : b ∈ cs.map Prod.snd
        · exact Or.inr (Or.inl ⟨m, if_pos m⟩)
        · exact Or.inl (if_neg m)
      · by_cases m : b ∈ cs.map Prod.snd
        · have e := (if_pos m).symm.trans z
          cases e
          exact tabAt b m
        · have e := (if_neg m).symm.trans z
          cases e
    | none =>
      refine ⟨fun b => if b ∈ cs.map Prod.snd then some (.tbl #[]) else if b = a then some (.frz { cls := .type "list", data := .seq vs.toArray } (.lst (ns.map V.int))) else none, fun b => ?_, .inl (.inr ⟨_, (if_neg aOut).trans (if_pos rfl)⟩), fun b u z => ?_, fun z zm => if_pos (isTab z zm)⟩
      · by_cases m : b ∈ cs.map Prod.snd
        · exact Or.inr (Or.inl ⟨m, if_pos m⟩)
        · by_cases e : b = a
          · exact Or.inr (Or.inr ⟨e, rfl, _, _, (if_neg m).trans (if_pos e)⟩)
          · exact Or.inl ((if_neg m).trans (if_neg e))
      · by_cases m : b ∈ cs.map Prod.snd
        · have e := (if_pos m).symm.trans z
          cases e
          exact tabAt b m
        · have z1 := (if_neg m).symm.trans z
          by_cases e : b = a
          · subst e
            have zz := (if_pos rfl).symm.trans z1
            cases zz
            exact ⟨at_a, by rw [List.length_map]; exact few, vs, _, rel, at_a⟩
          · have zz := (if_neg e).symm.trans z1
            cases zz
  have off : ∀ {b : Addr} {o : Obj}, s₁.heap.get? b = some o → (∀ xs n, o.data ≠ .seq xs n) → o ≠ PySem.W.tabObj #[] → H b = none := fun {b o} e n1 n2 => by
    rcases kind b with z | ⟨m, _⟩ | ⟨rfl, _, _⟩
    · exact z
    · rw [tabAt b m] at e
      exact (n2 (Option.some.inj e).symm).elim
    · rw [at_a] at e
      cases e
      exact (n1 _ _ rfl).elim
  have hid : ∀ {b : Addr} {o : Obj}, s₁.heap.get? b = some o → H b = none → (hidT s₁.heap H).get? b = some o := fun e n => hidT_get e n
  have ofData : ∀ {b : Addr} {o : Obj} {d : Data}, s₁.heap.get? b = some o → o.data = d → (∀ xs n, d ≠ .seq xs n) → d ≠ .fields #[] → (hidT s₁.heap H).get? b = some o := fun {b o d} e ed n1 n2 =>
    hid e (off e (fun xs n z => n1 xs n (ed.symm.trans z)) fun z => n2 (by rw [← ed, z]))
  have names : ∀ {b : Addr} {m : Str → Option Value}, s₁.heap.Ns b m → (hidT s₁.heap H).Ns b m := by
    rintro b m ⟨o, es, ep, e, d, r⟩
    exact ⟨o, es, ep, ofData e d (fun _ _ z => nomatch z) (fun z => nomatch z), d, r⟩
  have kin : K.In (hidT s₁.heap H) := by
    intro b o e
    refine hid (KX b o e) ?_
    rcases kind b with z | ⟨m, _⟩ | ⟨rfl, n, _⟩
    · exact z
    · obtain ⟨z, zm, rfl⟩ := List.mem_map.mp m
      rw [loose z zm] at e
      cases e
    · rw [n] at e
      cases e
  obtain ⟨mc, n1, n2⟩ := nl
  have env0 : Env0 P w K mg (hidT s₁.heap H) callerA [] s₁ H :=
    ⟨rfl, ⟨kin, names gn, ⟨mb, names bn, bb⟩, ⟨mc, names n1, n2⟩⟩, fun b o e => of_hidT e, Nat.le_of_eq (hidT_size _ _), trivial, fun b hb => (List.not_mem_nil hb).elim, ok, .of_eq gens⟩
  have tb : ∀ z ∈ cs, TabB (hidT s₁.heap H) mg z.1 z.2 := fun z zm => by
    obtain ⟨hd, tz⟩ := tabs z zm
    obtain ⟨og, eg, pg, ge, gd, _⟩ := gn
    refine ⟨?_, ?_, fun q => ?_⟩
    · obtain ⟨o, us, v1, v2, v3, v4, v5, v6, v7, at_o, cls, dat, w1, rest⟩ := hd
      refine ⟨o, us, v1, v2, v3, v4, v5, v6, v7, ofData at_o dat (fun _ _ q => nomatch q) (fun q => ?_), cls, dat, w1, rest⟩
      cases q
      simp at w1
    · obtain ⟨bm, ob, b1, b2, b3, b4, b5, b6⟩ := bmod
      refine ⟨bm, ob, b1, b2, fun q => ?_, fun q => ?_, ofData b3 b6 (fun _ _ q => nomatch q) (fun q => nomatch q), b4, b5, b6⟩
      · subst q
        rw [b3] at ge
        cases ge
        rw [b6] at gd
        cases gd
      · subst q
        rw [b3] at tz
        cases tz
        cases b6
    · rw [q, tz] at ge
      cases ge
      cases gd
  refine codeAny_mono ((F _ kin (names gn) tb).goes callerA [] s₁ H ⟨[.ref a], []⟩ [.ref a] [.ref a] _ _ rfl room env0 (bind s₁ (.ref a)) (.cons rfl .nil) (goal H gotT sql)) ?_
  intro res s' z
  match res, z with
  | .ok .next, z => exact z.elim
  | .ok .brk, z => exact z.elim
  | .ok .cont, z => exact z.elim
  | .ok (.ret u), ⟨v, H', os, bare, un, ok', rv, q⟩ =>
    have vt : v = V.bl true := q
    subst vt
    have ut : u = Value.bool true := rv
    subst ut
    have same : ∀ b o, b ∉ cs.map Prod.snd → s₁.heap.get? b = some o → s'.heap.get? b = some o := fun b o nm e => by
      rcases kind b with n | ⟨m, _⟩ | ⟨_, _, ob, xs, fz⟩
      · exact un.keep b o e n (fun m => (List.not_mem_nil m).elim) (by simp)
      · exact absurd m nm
      · have g1 := (ok b _ fz).1
        have g2 := (ok' b _ (un.frzs b ob _ fz)).1
        rw [e] at g1
        cases g1
        exact g2
    have grew : ∀ z ∈ cs, ∃ more : Array Value, s'.heap.get? z.2 = some (PySem.W.tabObj more) := fun z zm => by
      obtain ⟨more, e⟩ := un.tbls z.2 #[] (gotT z zm)
      exact ⟨_, ok' z.2 _ e⟩
    refine ⟨rfl, OldK.mk (fun b o e => ?_) (fun b o e => ?_), os, bare⟩
    · by_cases m : b ∈ cs.map Prod.snd
      · obtain ⟨z, zm, rfl⟩ := List.mem_map.mp m
        obtain ⟨more, g⟩ := grew z zm
        have e2 := (tabs z zm).2
        rw [e] at e2
        cases e2
        refine Or.inr (Or.inl ⟨((tabs z zm).1.tab e).isCodeTable, rfl, #[], more, rfl, ?_⟩)
        rw [Array.empty_append]
        exact g
      · exact Or.inl (same b o m e)
    · by_cases m : b ∈ cs.map Prod.snd
      · obtain ⟨z, zm, rfl⟩ := List.mem_map.mp m
        obtain ⟨more, g⟩ := grew z zm
        exact ⟨_, g⟩
      · exact ⟨o, same b o m e⟩
theorem loose_of {K : PySem.W.Frag} {h : Heap} {cs : List (Addr × Addr)} (X : K.In h) (no : PySem.W.noTabs K = true) (t : PySem.W.TabsAt cs h) : ∀ p ∈ cs, K.lookup p.2 = none := fun p m => by
  cases e : K.lookup p.2 with
  | none => rfl
  | some o =>
    have g := X _ _ e
    rw [(t p m).2] at g
    have q := List.all_eq_true.mp no _ (PySem.W.mem_of_lookupK e)
    rw [← Option.some.inj g] at q
    exact absurd (show false = true from q) Bool.false_ne_true
theorem walkT {l : PySem.W.OpenLaw} {k : Nat} {q : Program} {loose : List Str} {XP : (Str → Option Value) → Heap → Prop} {YP : World → Heap → Prop} {d : DefRec} {K : Params → PySem.W.Frag} {sp : List (Addr × Addr) → PySem.W.Frag → Sp} {x : Str}
    (hn : l.most = some 63) (hdf : d.params.defaults = []) (room : Room k callerA) (hY : ∀ (w : World) (h : Heap), YP w h → (K w.params).In h)
    (F : ∀ (w : World) (mg : Str → Option Value) (at_ : Addr) (top : Heap), YP w top → (K w.params).In top → top.Ns mainGlobals mg → mg d.name = some (.ref at_) →
      ∃ (fd : FuncData) (cs : List (Addr × Addr)), PySem.W.TabsAt cs top ∧ PySem.W.noTabs (K w.params) = true ∧ (∀ (s : Shared) (u : Value), BindsTo s fd ⟨[u], []⟩ [(x, u)]) ∧
        (∀ base : Heap, (K w.params).In base → base.Ns mainGlobals mg → (∀ p ∈ cs, TabB base mg p.1 p.2) → FnG l.prog w (K w.params) mg base k at_ fd [x] (sp cs (K w.params))))
    (goal : ∀ (K : PySem.W.Frag) (cs : List (Addr × Addr)) (H : Hp) (a : Addr) (ns : List Int), ns.length ≤ 63 → (∀ p ∈ cs, H p.2 = some (.tbl #[])) → SqL K H a (ns.map V.int) → sp cs K [.ref a] H (fun v _ => v = .bl true) fun _ _ _ => False) :
    PySem.W.WalkO q loose XP YP l.row.toRowW d [] (fun g args => PySem.call g args) := by
  refine Att.attach_call hn hdf ?_
  intro w _ _ mg mb fa o pm cd doc a _ ns top behind _ _ _ named script iv few gens
  obtain ⟨fd, cs, tabs, no, bind, made⟩ := F w mg fa _ behind (hY w _ behind) top.T.g named
  exact lawT (hY w _ behind) top.T.g top.T.b top.T.builtins top.T.nolimit gens tabs (loose_of (hY w _ behind) no tabs) top.T.bmain script iv (Nat.le_trans few (by decide)) room made bind fun H hT hS => goal _ cs H a ns few hT hS
/-- one table -/
theorem fin_mk {P : Program} {w : World} {K : PySem.W.Frag} {mg : Str → Option Value} {fa : Addr} {k : Nat} {x : Str} {h : Heap} {c A : Addr} {sp : List (Addr × Addr) → PySem.W.Frag → Sp}
    (made : ∃ fd : FuncData, (∀ (s : Shared) (u : Value), BindsTo s fd ⟨[u], []⟩ [(x, u)]) ∧ ∀ base : Heap, K.In base → base.Ns mainGlobals mg → (∀ p ∈ [(c, A)], TabB base mg p.1 p.2) → FnG P w K mg base k fa fd [x] (sp [(c, A)] K))
    (tab : h.get? A = some (PySem.W.tabObj #[])) (code : PySem.W.CodeHd h c A) (no : PySem.W.noTabs K = true) :
    ∃ (fd : FuncData) (cs : List (Addr × Addr)), PySem.W.TabsAt cs h ∧ PySem.W.noTabs K = true ∧ (∀ (s : Shared) (u : Value), BindsTo s fd ⟨[u], []⟩ [(x, u)]) ∧
      (∀ base : Heap, K.In base → base.Ns mainGlobals mg → (∀ p ∈ cs, TabB base mg p.1 p.2) → FnG P w K mg base k fa fd [x] (sp cs K)) := by
  obtain ⟨fd, a, b⟩ := made
  refine ⟨fd, [(c, A)], fun z m => ?_, no, a, b⟩
  rw [List.mem_singleton.mp m]
  exact ⟨code, tab⟩
end Pf

set_option Elab.async false
set_option linter.all false
set_option maxRecDepth 100000
/-! What where does, as _law_met tells it. -/
namespace Pf
open PySem PySem.Spec PyProof.Rows L2 LamX NdefX
mutual
theorem Dq.ke {b : Bool} {p : Addr} {H H' : Hp} (k : Ke p H H') : ∀ (d : PyData) (v : V), Dq b p H v d → Dq b p H' v d
  | .none, _, h => by cases h; exact .non
  | .bool x, _, h => by cases h; exact .bl x
  | .int x, _, h => by cases h; exact .int x
  | .str x, _, h => by cases h; exact .str x
  | .list ds, _, h => by
    cases h with
    | lst g ne sm ha => exact .lst (k _ _ ne (fun _ z => by cases z) g) ne sm (Dq.keAll k ds _ ha)
  | .tuple ds, _, h => by
    cases h with
    | tup g ne ha => exact .tup (k _ _ ne (fun _ z => by cases z) g) ne (Dq.keAll k ds _ ha)
  | .dict kvs, _, h => by
    cases h with
    | dc0 t g ne => exact .dc0 t (k _ _ ne (fun _ z => by cases z) g) ne
    | @dc1 a x v d t g ne hd => exact .dc1 t (k _ _ ne (fun _ z => by cases z) g) ne (Dq.ke k d v hd)
theorem Dq.keAll {b : Bool} {p : Addr} {H H' : Hp} (k : Ke p H H') : ∀ (ds : List PyData) (vs : List V), DqAll b p H vs ds → DqAll b p H' vs ds
  | [], _, h => by cases h; exact .nil
  | d :: ds, _, h => by
    cases h with
    | cons h1 h2 => exact .cons (Dq.ke k d _ h1) (Dq.keAll k ds _ h2)
end
mutual
theorem Dq.avoid {b : Bool} {p q : Addr} {H : Hp} (k : H q = none) : ∀ (d : PyData) (v : V), Dq b p H v d → Dq b q H v d
  | .none, _, h => by cases h; exact .non
  | .bool x, _, h => by cases h; exact .bl x
  | .int x, _, h => by cases h; exact .int x
  | .str x, _, h => by cases h; exact .str x
  | .list ds, _, h => by
    cases h with
    | lst g ne sm ha => exact .lst g (ne_of_none g k) sm (Dq.avoidAll k ds _ ha)
  | .tuple ds, _, h => by
    cases h with
    | tup g ne ha => exact .tup g (ne_of_none g k) (Dq.avoidAll k ds _ ha)
  | .dict kvs, _, h => by
    cases h with
    | dc0 t g ne => exact .dc0 t g (ne_of_none g k)
    | @dc1 a x v d t g ne hd => exact .dc1 t g (ne_of_none g k) (Dq.avoid k d v hd)
theorem Dq.avoidAll {b : Bool} {p q : Addr} {H : Hp} (k : H q = none) : ∀ (ds : List PyData) (vs : List V), DqAll b p H vs ds → DqAll b q H vs ds
  | [], _, h => by cases h; exact .nil
  | d :: ds, _, h => by
    cases h with
    | cons h1 h2 => exact .cons (Dq.avoid k d _ h1) (Dq.avoidAll k ds _ h2)
end
theorem con_ok {col : Str} (ps : List (Int × Int)) (m : Bool) (h : PyData.strOk col = true) : PyData.strOk (conS col ps m) = true := by
  unfold conS takesS
  refine strOk_app (strOk_app h (strOk_of _)) ?_
  split
  · rw [show Txt.join "," (wordsS ps m) = Builtin.Str.glued "," (wordsS ps m) from rfl, StrLaws.glued_eq_join]
    exact strOk_join (strOk_of _) _ (words_ok ps m)
  · exact strOk_of _
theorem abc_ok {z : Str} (h : colD (.str z) = true) : PyData.strOk z = true := by
  have h' : ((decide (1 ≤ (z.length : Int)) && decide ((z.length : Int) ≤ 8)) && (!inV (.str z) [.str "and", .str "or"] && ofS abc z)) = true := h
  rw [Bool.and_eq_true, Bool.and_eq_true, Bool.and_eq_true] at h'
  have a := List.all_eq_true.mp h'.2.2
  have lim : abc.cps.toList.all (fun c => decide (c < 0x110000)) = true := by decide +kernel
  unfold PyData.strOk
  rw [Array.all_eq_true]
  intro i hi
  have m := of_decide_eq_true (a z.cps[i] (Array.getElem_mem_toList hi))
  exact List.all_eq_true.mp lim _ m
/-- what _law_met's answer at t is -/
def Res (cl : ClsA) (H : Hp) (t : Addr) (vn : V) (dn dr dm : PyData) : Prop := (dueK dn dr dm ≠ "told" ∧ H t = some (.tup [.str (dueK dn dr dm), .str (dueT dn dr dm)])) ∨
  (dueK dn dr dm = "told" ∧ ∃ (x dx c : Addr) (fs : List (Str × V)) (z : Str), H t = some (.tup [.str "told", .ref x]) ∧ H x = some (.ins cl.Condition dx fs) ∧ fs.lookup ("string" : Str) = some (V.str (dueT dn dr dm)) ∧ fs.lookup ("columns" : Str) = some (V.ref c) ∧ H c = some (.tup [.str z]) ∧ vn = .str z ∧ PyData.strOk z = true)
/-- all but lists and tables stay -/
def Nt (H H' : Hp) : Prop := ∀ b o, (∀ ps, o ≠ HO.tbl ps) → (∀ ys, o ≠ HO.lst ys) → H b = some o → H' b = some o
theorem Nt.trans {H H1 H2 : Hp} (a : Nt H H1) (b : Nt H1 H2) : Nt H H2 := fun c o n m h => b c o n m (a c o n m h)
theorem Nt.ext {H H' : Hp} (a : ExtN H H') : Nt H H' := fun c o n _ h => a c o h n
theorem Nt.same {H H' : Hp} (a : Same H H') : Nt H H' := fun c o _ _ h => a c o h
theorem Nt.put {L : Addr} {H : Hp} {ys : List V} {o : HO} (e : H L = some (.lst ys)) : Nt H (upd H L o) := fun c u _ m h => by
  rw [upd_ne (fun z => by rw [z, e] at h; cases h; exact m _ rfl)]
  exact h
theorem Res.nt {cl : ClsA} {H H' : Hp} {t : Addr} {vn : V} {dn dr dm : PyData} (r : Res cl H t vn dn dr dm) (k : Nt H H') : Res cl H' t vn dn dr dm := by
  rcases r with ⟨a, e⟩ | ⟨a, x, dx, c, fs, z, e1, e2, l1, l2, e3, e4⟩
  · exact .inl ⟨a, k _ _ (fun _ z => by cases z) (fun _ z => by cases z) e⟩
  · exact .inr ⟨a, x, dx, c, fs, z, k _ _ (fun _ z => by cases z) (fun _ z => by cases z) e1, k _ _ (fun _ z => by cases z) (fun _ z => by cases z) e2, l1, l2, k _ _ (fun _ z => by cases z) (fun _ z => by cases z) e3, e4⟩
theorem shown_read {cl : ClsA} {H : Hp} {t : Addr} {vn : V} {dn dr dm : PyData} {Q : VK} (r : Res cl H t vn dn dr dm) (fin : ∀ H' t', Same H H' → H' t' = some (.tup [.str (dueK dn dr dm), .str (dueT dn dr dm)]) → Q (.ref t') H') : sp_shown cl.Condition [.ref t, vn] H Q noErr := by
  refine ⟨t, vn, dueK dn dr dm, dueT dn dr dm, rfl, ?_, fin⟩
  rcases r with ⟨a, e⟩ | ⟨a, x, dx, c, fs, z, e1, e2, l1, l2, e3, e4⟩
  · exact .inl ⟨a, e⟩
  · exact .inr ⟨a, x, dx, c, fs, z, e1, e2, l1, l2, e3, e4⟩
theorem ans_shaped {k T : Str} (h1 : PyData.strOk k = true) (h2 : PyData.strOk T = true) : SeqAt.shaped (.tuple [.str k, .str T]) = true ∧ SeqAt.shaped (.list [.tuple [.str k, .str T], .tuple [.str k, .str T]]) = true := by
  constructor
  · unfold SeqAt.shaped
    simp only [PyData.canLay0, PyData.canLayAll0, PyData.depth, PyData.depthAll, h1, h2, Bool.true_and, Bool.and_true]
    exact decide_eq_true (by decide)
  · unfold SeqAt.shaped
    simp only [PyData.canLay0, PyData.canLayAll0, PyData.depth, PyData.depthAll, h1, h2, Bool.true_and, Bool.and_true]
    exact decide_eq_true (by decide)
theorem due_ok {dn dr dm : PyData} (h1 : PyData.strOk dn.shown = true) (h2 : PyData.strOk dr.shown = true) (h3 : PyData.strOk dm.shown = true) : PyData.strOk (dueK dn dr dm) = true ∧ PyData.strOk (dueT dn dr dm) = true := by
  unfold dueK dueT
  cases e1 : colD dn with
  | false => exact ⟨strOk_of _, h1⟩
  | true =>
    cases e2 : fitsD dr with
    | false => exact ⟨strOk_of _, h2⟩
    | true =>
      cases e3 : isBoolD dm with
      | false => exact ⟨strOk_of _, h3⟩
      | true =>
        refine ⟨strOk_of _, ?_⟩
        show PyData.strOk (conD dn dr dm) = true
        unfold conD
        split
        · exact con_ok _ _ (abc_ok e1)
        · exact strOk_of _
theorem where_read {cl : ClsA} {H : Hp} {vn vr vm : V} {dn dr dm : PyData} {l : Addr} {Q Q' : VK} (hn : Dq true l H vn dn) (hd : Dq true l H vr dr) (hm : Dq true l H vm dm) (fn : Fits dn) (fr : Fits dr) (fm : Fits dm) (zn : ∀ x, dn = .str x → x.length ≤ 100000)
    (zr : ∀ l, dr = .tuple l → l.length ≤ 1000) (hQ : ∀ v H', (∀ H'' t, Same H' H'' → H'' t = some (.tup [.str "told", v]) → Q (.ref t) H'') → Q' v H')
    (fin : ∀ H' t, Same H H' → Res cl H' t vn dn dr dm → Q (.ref t) H') : sp_where cl [vn, vr, vm] H Q' (met_err cl Q) := by
  refine ⟨vn, vr, vm, dn, dr, dm, true, l, rfl, hn, hd, hm, zn, zr, ⟨fun e H1 d s1 nd => ?_, fun e1 e2 H1 d s1 nd => ?_, fun e1 e2 e3 H1 d s1 nd => ?_, fun z ds m ez ed em e1 e2 H1 x dx t fs s1 ex es ec et => ?_⟩⟩
  · have s2 := s1.trans (new_same (o := .xd [("value", vn)]) nd)
    have k1 : dueK dn dr dm = "column" := by rw [dueK, e]; rfl
    have k2 : dueT dn dr dm = dn.shown := by rw [dueT, e]; rfl
    refine ⟨"column", _, d, vn, dn, true, l, .inl ⟨rfl, rfl⟩, rfl, rfl, upd_same, hn.same s2, fn, fun H'' t s3 et => fin H'' t (s2.trans s3) (.inl ⟨by rw [k1]; decide, by rw [k1, k2]; exact et⟩)⟩
  · have s2 := s1.trans (new_same (o := .xd [("value", vr)]) nd)
    have k1 : dueK dn dr dm = "ranges" := by rw [dueK, e1, e2]; rfl
    have k2 : dueT dn dr dm = dr.shown := by rw [dueT, e1, e2]; rfl
    refine ⟨"ranges", _, d, vr, dr, true, l, .inr (.inl ⟨rfl, rfl⟩), rfl, rfl, upd_same, hd.same s2, fr, fun H'' t s3 et => fin H'' t (s2.trans s3) (.inl ⟨by rw [k1]; decide, by rw [k1, k2]; exact et⟩)⟩
  · have s2 := s1.trans (new_same (o := .xd [("value", vm)]) nd)
    have k1 : dueK dn dr dm = "flag" := by rw [dueK, e1, e2, e3]; rfl
    have k2 : dueT dn dr dm = dm.shown := by rw [dueT, e1, e2, e3]; rfl
    refine ⟨"flag", _, d, vm, dm, true, l, .inr (.inr ⟨rfl, rfl⟩), rfl, rfl, upd_same, hm.same s2, fm, fun H'' t s3 et => fin H'' t (s2.trans s3) (.inl ⟨by rw [k1]; decide, by rw [k1, k2]; exact et⟩)⟩
  · subst ez
    subst ed
    subst em
    have k1 : dueK (.str z) (.tuple ds) (.bool m) = "told" := by rw [dueK, e1, e2]; rfl
    have k2 : dueT (.str z) (.tuple ds) (.bool m) = conS z (prs ds) m := by rw [dueT, e1, e2]; rfl
    cases hn
    refine hQ _ _ fun H'' t2 s2 e2' => fin H'' t2 (s1.trans s2) (.inr ⟨k1, x, dx, t, fs, z, e2', s2 _ _ ex, by rw [k2]; exact es, ec, s2 _ _ et, rfl, abc_ok e1⟩)
end Pf

set_option Elab.async false
set_option linter.all false
set_option maxRecDepth 100000
/-! The law's look. -/
namespace Pf
open PySem PySem.Spec PyProof.Rows L2 LamX NdefX
local macro_rules | `(tactic| walk_at "rd") => `(tactic| simp only [tC1, tCK, tB, rNe, rEq, tChain, gTupV, gCons, gNil, Nat.sub_self, Nat.reduceSub, List.replicate_zero, List.replicate_succ, tTest, tIfS, tIf, tNot, tAnd, tOr, tAndV, tOrV, tNotV, tDrop, tNext, rIxV, rIxP,
  gSub, rSetL, tSl, tPart, tNoPart, rSl1, tAsg2, ipI, tDNewK, tBM, rAppend, wipe, rAllB, rAnyB, iTup, iList, RZ.iZipA, iRng1, iRng2, tYes, upd_same, at0, at1, at2, at20, at21, ixN30, ixN32, HO.lst.injEq, HO.tup.injEq, Nat.reduceAdd, tSeq, tAsg, tPar, tAug, tOp, tVar, tC, tCB, tCons, tNil, rI, rI0, rU, tUn, gName, tRet, tLst, tLstM, tTup, L2.start, List.map_cons, List.map_nil, List.length_cons, List.length_nil, List.replicate, List.cons_append,
  List.nil_append, List.set_cons_zero, List.set_cons_succ, List.getElem?_cons_zero, List.getElem?_cons_succ, Option.some.injEq, V.int.injEq, V.ref.injEq, V.bl.injEq, V.str.injEq, List.cons.injEq, exists_eq_left', exists_eq_left, exists_and_left, exists_and_right, and_true, true_and, reduceCtorEq, false_and,
  exists_false, or_false, false_or, exists_const, exists_eq, exists_eq', Bool.not_true, Bool.not_false, Bool.false_eq_true, if_true, if_false, ite_true, ite_false])
abbrev s__law_right : Stmt := topS 64
theorem sc__law_right : FnScope ["_law_pot_here", "_law_turn", "_law_name", "_law_spans_here", "_law_bare", "_law_kept", "_law_due_here", "_law_made", "_law_plain", "_law_told"] ["_law_pot_here"] (defScope s__law_right) := ⟨rfl, rfl, rfl, by decide +kernel, rfl, by decide +kernel, by decide +kernel⟩
theorem repr_ge (x : Str) : x.length ≤ (reprText x).length := by
  rw [← PySem.reprLen_eq]
  have one : ∀ c q, 1 ≤ (Builtin.Str.reprChar q c).length := fun c q => by
    unfold Builtin.Str.reprChar
    simp only []
    repeat' split
    all_goals simp
  have go : ∀ (l : List Nat) (n : Nat) (q : Nat), n + l.length ≤ l.foldl (fun n c => n + (Builtin.Str.reprChar q c).length) n := by
    intro l
    induction l with
    | nil => intro n q; simp
    | cons c r ih =>
      intro n q
      have a := ih (n + (Builtin.Str.reprChar q c).length) q
      have b := one c q
      simp only [List.foldl_cons, List.length_cons]
      omega
  have z := go x.cps.toList 2 (reprQuote x)
  rw [← Array.foldl_toList]
  have e : x.length = x.cps.toList.length := rfl
  omega
section
variable {base : Heap} {P : Program} {w : World} {mg : Str → Option Value} {K : PySem.W.Frag} {cl : ClsA}
def rightT (A : Addr) : List (Addr × Str) := [(A, (("_law_right" : Str) ++ (".<locals>." : Str)) ++ ("<lambda>" : Str))]
def sp_right (A : Addr) : Sp := fun vs H Q _ => ∃ (p : Addr), vs = [.ref p] ∧ Pot H p 0 ∧ Tabs (rightT A) H ∧ ∀ H', Ke p H H' → Tabs (rightT A) H' → Q (.bl true) H'
def ord1 (vs zs : List V) : List V := vs ++ zs
def ord0 (_ zs : List V) : List V := zs.reverse
def ord2 (vs _ : List V) : List V := vs ++ [.bl false]
theorem ok_right {f c A : Addr} {fd : FuncData} (F : Fun K "_law_right" "_law_right" s__law_right f fd) (hfc : fd.code = .ref c) (TB : TabB base mg c A) (T : Txt mg) (C__law_three : Cal P w K mg base 4 "_law_three" sp_three) (C__law_due : Cal P w K mg base 4 "_law_due" sp_due)
    (C__law_shown : Cal P w K mg base 1 "_law_shown" (sp_shown cl.Condition)) (CM__law_met : CalM P w K mg base 6 7 "_law_met" (sp_met cl)) (CX_where_2_missing : CalX P w K mg base 5 "where" 2 ["missing"] ord1 (sp_where cl))
    (CX_where_0_missing_ranges_column : CalX P w K mg base 5 "where" 0 ["missing", "ranges", "column"] ord0 (sp_where cl)) (CX_where_2 : CalX P w K mg base 5 "where" 2 [] ord2 (sp_where cl)) :
    FnG P w K mg base 8 f fd ["_law_pot_here"] (sp_right A) := by
  refine okGc F sc__law_right (fun vs H Q E h => ?_) (fun cdv A0 outer s H vs Q E hcd hg hr h => ?_)
  · obtain ⟨p, rfl, _⟩ := h
    rfl
  · obtain ⟨p, rfl, hp, T0, q⟩ := h
    replace hr := And.intro hg hr
    have hcv : cdv = .ref c := hcd.symm.trans hfc
    subst hcv
    obtain ⟨TT, eTT⟩ : ∃ TT, TT = rightT A := ⟨_, rfl⟩
    have hTT : (A, (("_law_right" : Str) ++ (".<locals>." : Str)) ++ ("<lambda>" : Str)) ∈ TT := by rw [eTT]; exact List.mem_singleton.mpr rfl
    have hTU : ∀ z ∈ TT, z.1 = A → z.2 = (("_law_right" : Str) ++ (".<locals>." : Str)) ++ ("<lambda>" : Str) := fun z m _ => by
      rw [eTT] at m
      rw [List.mem_singleton.mp m]
    refine ⟨_, (pss_cons (ps_for PassesOwn.never rfl (pi_range1 (by rfl) T.b_range (pa_cons pe_int pa_nil)) (pg_name (i := 1) sc__law_right.nd rfl (Or.inl rfl)) (pss_cons (ps_asg (pe_c C__law_three hr (by decide) (by rfl) (pa_cons (pv 0) pa_nil)) (pg_lst (n := 3) rfl (pgs_cons (pg_name (i := 2) sc__law_right.nd rfl (Or.inr rfl)) (pgs_cons (pg_name (i := 3) sc__law_right.nd rfl (Or.inr rfl)) (pgs_cons (pg_name (i := 4) sc__law_right.nd rfl (Or.inr rfl)) pgs_nil)))))
        (pss_cons (ps_par (i := 5) (j := 6) (by rfl) sc__law_right.nd rfl rfl (by decide) rfl rfl (pa_cons (pe_callB (call_reprV hr) (by rfl) T.b_repr (by decide +kernel) (pa_cons (pe_lstM (pa_cons (pv 2) (pa_cons (pv 3) (pa_cons (pv 4) pa_nil)))) pa_nil)) (pa_cons (pe_c C__law_due hr (by decide) (by rfl) (pa_cons (pv 2) (pa_cons (pv 3) (pa_cons (pv 4) pa_nil)))) pa_nil)) (by rfl))
        (pss_cons (ps_set (i := 7) sc__law_right.nd rfl (Or.inl rfl) (pe_lst (pa_cons (pe_lamM (T := TT) (N := ["_law_name", "_law_spans_here", "_law_bare"]) (fr := ["_law_name", "_law_spans_here", "_law_bare"]) (js := [2, 3, 4]) (k := 5) CM__law_met hr (by decide) (by rfl) TB rfl hTT hTU (nscope_by (by decide +kernel)) (ndef_free (fr := ["_law_name", "_law_spans_here", "_law_bare"]) (sc := defScope s__law_right) (by decide +kernel)) (ndef_fr (sc := defScope s__law_right) (by decide +kernel)) rfl rfl (fun _ _ _ _ _ => rfl) (fun _ _ _ _ _ _ _ _ _ E hr => (pe_cX CX_where_2_missing hr (by decide) (by rfl) (takes_of (E := E) rfl rfl rfl rfl) (fun _ _ _ _ q => q) (pa_cons (pv 0) (pa_cons (pv 1) pa_nil)) (pk_cons (pv 2) pk_nil)))) pa_nil)))
        (pss_cons (ps_expr (pe_bm PySem.F.plainAttrs_list PySem.F.slot_list_append PySem.F.type_list_append mt_append (pv 7) (pa_cons (pe_lamM (T := TT) (N := ["_law_bare", "_law_spans_here", "_law_name"]) (fr := ["_law_bare", "_law_spans_here", "_law_name"]) (js := [4, 3, 2]) (k := 5) CM__law_met hr (by decide) (by rfl) TB rfl hTT hTU (nscope_by (by decide +kernel)) (ndef_free (fr := ["_law_bare", "_law_spans_here", "_law_name"]) (sc := defScope s__law_right) (by decide +kernel)) (ndef_fr (sc := defScope s__law_right) (by decide +kernel)) rfl rfl (fun _ _ _ _ _ => rfl) (fun _ _ _ _ _ _ _ _ _ E hr => (pe_cX0 CX_where_0_missing_ranges_column hr (by decide) (by rfl) (takes_of (E := E) rfl rfl rfl rfl) (fun _ _ _ _ q => q) (pk_cons (pv 0) (pk_cons (pv 1) (pk_cons (pv 2) pk_nil)))))) pa_nil)))
        (pss_cons (ps_if (PW.pt (pw_or (pt_cmpR (op_neD hr.2.u64) (pe_lc (own := [("_law_told", 9)]) (g := gName 9) (tt := tYes) rfl sc__law_right.nd (pi_list (pv 7)) (blkOk_by (own := [("_law_told", 9)]) (N := ["_law_pot_here", "_law_turn", "_law_name", "_law_spans_here", "_law_bare", "_law_kept", "_law_due_here", "_law_made", "_law_plain", "_law_told"]) (sc := defScope s__law_right) (by decide +kernel)) (fun _ _ _ _ _ => (pg_name (i := 9) sc__law_right.nd rfl (Or.inl rfl))) (fun _ _ _ _ _ => pts_nil) (fun _ _ _ _ _ => (pe_c C__law_shown hr (by decide) (by rfl) (pa_cons (pv 9) (pa_cons (pv 2) pa_nil))))) (pe_lst (pa_cons (pv 6) (pa_cons (pv 6) pa_nil))) (nomark _)) (pw_or1 (pt_cmpR op_ne (pe_callB (call_reprV hr) (by rfl) T.b_repr (by decide +kernel) (pa_cons (pe_lstM (pa_cons (pv 2) (pa_cons (pv 3) (pa_cons (pv 4) pa_nil)))) pa_nil)) (pv 5) (nomark _))))) (pss_one (ps_ret pe_bl)) pss_nil)
        (pss_cons (ps_set (i := 8) sc__law_right.nd rfl (Or.inl rfl) (pe_lamM (T := TT) (N := ["_law_name", "_law_spans_here"]) (fr := ["_law_name", "_law_spans_here"]) (js := [2, 3]) (k := 5) CM__law_met hr (by decide) (by rfl) TB rfl hTT hTU (nscope_by (by decide +kernel)) (ndef_free (fr := ["_law_name", "_law_spans_here"]) (sc := defScope s__law_right) (by decide +kernel)) (ndef_fr (sc := defScope s__law_right) (by decide +kernel)) rfl rfl (fun _ _ _ _ _ => rfl) (fun _ _ _ _ _ _ _ _ _ E hr => (pe_cXp CX_where_2 hr (by decide) (by rfl) (takes_of (E := E) rfl rfl rfl rfl) (fun _ _ _ _ q => q) (pa_cons (pv 0) (pa_cons (pv 1) pa_nil))))))
        (pss_one (ps_if (pt_cmpR (op_neD hr.2.u64) (pe_c C__law_shown hr (by decide) (by rfl) (pa_cons (pv 8) (pa_cons (pv 2) pa_nil))) (pe_c C__law_due hr (by decide) (by rfl) (pa_cons (pv 2) (pa_cons (pv 3) (pa_cons pe_bl pa_nil)))) (nomark _)) (pss_one (ps_ret pe_bl)) pss_nil)))))))))
        (pss_one (ps_ret pe_bl))), ?_⟩
    walk_at "rd"
    refine ⟨60, rfl, by decide, by decide, for_range (lo := 0) (n := 60) (fun i σ H' => ∃ s1 s2 s3 s4 s5 s6 s7 s8 s9 : Option V, σ = [some (.ref p), s1, s2, s3, s4, s5, s6, s7, s8, s9] ∧ Ke p H H' ∧ Pot H' p (100 * i) ∧ Tabs (rightT A) H') ⟨_, _, _, _, _, _, _, _, _, rfl, fun _ _ _ _ h => h, hp, T0⟩ ?_ ?_⟩
    · rintro i σ H0 hi ⟨s1, s2, s3, s4, s5, s6, s7, s8, s9, rfl, k0, p0, t0⟩
      walk_at "rd"
      refine ⟨p, 100 * i, rfl, p0, by omega, fun H1 l vn vr vm dn dr dm k1 p1 el hn hd hm zn zr zm => ?_⟩
      refine ⟨l, _, rfl, SqL.of el, rfl, ?_⟩
      walk_at "rd"
      refine ⟨_, _, ⟨rfl, rfl⟩, _, _, rfl, _, _, rfl, rfl, by decide, fun a na ma => ?_⟩
      have sa := new_same (o := .lst [vn, vr, vm]) na
      have ft : ∀ {d}, Sz 60000 20 d → Fits d := fun z => z.fits (by decide) (by decide)
      have zl : Sz 200000 21 (.list [dn, dr, dm]) := (Sz.list (n := 60000) (k := 20) (ds := [dn, dr, dm]) fun d m => by
        simp only [List.mem_cons, List.not_mem_nil, or_false] at m
        rcases m with rfl | rfl | rfl <;> assumption).up (by show 3 * (60000 + 2) + 3 ≤ 200000; decide) (by show 20 + 1 ≤ 21; decide)
      have fl : Fits (.list [dn, dr, dm]) := zl.fits (by decide) (by decide)
      have bn : ∀ x, dn = .str x → x.length ≤ 100000 := fun x e => by
        have z := zn.2.1
        rw [e] at z
        simp only [PyData.shown] at z
        exact Nat.le_trans (repr_ge x) (by omega)
      have la : a ≠ l := (ne_of_none el na).symm
      refine ⟨.list [dn, dr, dm], ⟨true, l, .lst upd_same la (fun _ => ma) (.cons (hn.same sa) (.cons (hd.same sa) (.cons (hm.same sa) .nil)))⟩, fl, vn, vr, vm, dn, dr, dm, true, l, rfl, hn.same sa, hd.same sa, hm.same sa, ft zn, ft zr, ft zm, bn, zr.tl, fun H3 t s3 et => ?_⟩
      have s13 := sa.trans s3
      obtain ⟨y0, e0⟩ := p0.lst
      obtain ⟨y1, e1⟩ := p1.lst
      have T1 : Tabs TT H1 := by rw [eTT]; exact Tabs.kp t0 k1 e0
      have T3 : Tabs TT H3 := Tabs.same T1 s13
      refine ⟨_, _, ⟨rfl, rfl⟩, T3, fun H4 x4 T4 H5 Q' s5 told => ?_⟩
      have k15 : Ke p H1 H5 := (Ke.same s13).trans ((Ke.ext x4).trans (Ke.same s5))
      have kl5 : Ke l H1 H5 := (Ke.same s13).trans ((Ke.ext x4).trans (Ke.same s5))
      refine ⟨vn, rfl, vr, rfl, vm, rfl, rfl, rfl, where_read (Dq.ke kl5 _ _ hn) (Dq.ke kl5 _ _ hd) (Dq.ke kl5 _ _ hm) (ft zn) (ft zr) (ft zm) bn zr.tl told (fun H6 t6 s6 r6 => ?_)⟩
      have T6 : Tabs TT H6 := Tabs.same T4 (s5.trans s6)
      refine ⟨by decide, fun L nL => ⟨.inl ⟨rfl, _, SqL.of upd_same⟩, ?_⟩⟩
      have kl6 := kl5.trans (Ke.same s6)
      have n6 := Dq.avoid nL _ _ (Dq.ke kl6 _ _ hn)
      have d6 := Dq.avoid nL _ _ (Dq.ke kl6 _ _ hd)
      have m6 := Dq.avoid nL _ _ (Dq.ke kl6 _ _ hm)
      have sL := new_same (o := .lst [V.ref t6]) nL
      refine ⟨Tabs.same T6 sL, fun H8 x8 T8 H9 Q9 s9' told9 => ?_⟩
      have k69 : Ke L H6 H9 := (Ke.same sL).trans ((Ke.ext x8).trans (Ke.same s9'))
      have n9 := Dq.ke k69 _ _ n6
      have d9 := Dq.ke k69 _ _ d6
      have m9 := Dq.ke k69 _ _ m6
      have nt69 : Nt H6 H9 := (Nt.same sL).trans ((Nt.ext x8).trans (Nt.same s9'))
      refine ⟨vm, rfl, vr, rfl, vn, rfl, rfl, rfl, where_read n9 d9 m9 (ft zn) (ft zr) (ft zm) bn zr.tl told9 (fun H10 t10 s10 r10 => ?_)⟩
      have T10 : Tabs TT H10 := Tabs.same T8 (s9'.trans s10)
      have eL10 : H10 L = some (.lst [V.ref t6]) := s10 _ _ (s9' _ _ (x8 _ _ upd_same (fun _ z => by cases z)))
      have r6' := r6.nt (nt69.trans (Nt.same s10))
      refine ⟨_, eL10, by show 1 < sizeLine; decide, ?_⟩
      have r6a := r6'.nt (Nt.put (o := .lst ([V.ref t6] ++ [V.ref t10])) eL10)
      have r10a := r10.nt (Nt.put (o := .lst ([V.ref t6] ++ [V.ref t10])) eL10)
      have T11 : Tabs TT (upd H10 L (.lst ([V.ref t6] ++ [V.ref t10]))) := Tabs.kp T10 Kp.put eL10
      refine ⟨.ref L, rfl, L, rfl, ⟨_, SqL.of upd_same⟩, fun D nD => lc_it (walk_list (xs := [V.ref t6, V.ref t10])) (fun j H' => ∃ us : List V, H' D = some (.lst us) ∧ us.length = j ∧ (∀ u ∈ us, ∃ w, u = .ref w ∧ H' w = some (.tup [.str (dueK dn dr dm), .str (dueT dn dr dm)])) ∧ Same (upd H10 L (.lst ([V.ref t6] ++ [V.ref t10]))) H')
        ⟨[], upd_same, rfl, fun _ m => (List.not_mem_nil m).elim, new_same nD⟩ (fun j H' hj ⟨us, _, _, _, s⟩ => s.seq (SqL.of upd_same)) ?_ ?_⟩
      · rintro j x G G' hj ⟨us, eD, lu, au, sG⟩ ⟨rfl, hx⟩
        refine ⟨rfl, ?_⟩
        walk_at "rd"
        obtain ⟨w', rfl, rw'⟩ : ∃ w, x = V.ref w ∧ Res cl G' w vn dn dr dm := by
          have hj2 : j < 2 := hj
          match j, hj2 with
          | 0, _ => cases hx; exact ⟨_, rfl, r6a.nt (Nt.same sG)⟩
          | 1, _ => cases hx; exact ⟨_, rfl, r10a.nt (Nt.same sG)⟩
        refine shown_read rw' (fun H' t' s' e' => ⟨us, s' _ _ eD, Nat.lt_of_le_of_lt (show us.length ≤ 2 by have : j < 2 := hj; omega) (by decide), by rw [List.length_append, lu]; rfl, fun u m => ?_, fun c o y => by rw [upd_ne (ne_of_none y nD)]; exact s' _ _ (sG _ _ y)⟩)
        have tu : ∀ w ys, H' w = some (.tup ys) → upd H' D (.lst (us ++ [V.ref t'])) w = some (.tup ys) := fun w ys z => by
          rw [upd_ne (fun y => by rw [y, s' _ _ eD] at z; cases z)]
          exact z
        rcases List.mem_append.mp m with m | m
        · obtain ⟨w, e1, e2⟩ := au u m
          exact ⟨w, e1, tu _ _ (s' _ _ e2)⟩
        · rw [List.mem_singleton.mp m]
          exact ⟨t', rfl, tu _ _ e'⟩
      · rintro G ⟨us, eD, lu, au, sG⟩
        match us, lu with
        | [u1, u2], _ =>
        obtain ⟨w1, rfl, f1⟩ := au u1 List.mem_cons_self
        obtain ⟨w2, rfl, f2⟩ := au u2 (List.mem_cons_of_mem _ List.mem_cons_self)
        have ok := due_ok (dm := dm) zn.ok zr.ok zm.ok
        have ntG : Nt H3 G := (Nt.ext x4).trans ((Nt.same s5).trans ((Nt.same s6).trans (nt69.trans ((Nt.same s10).trans ((Nt.put (o := .lst ([V.ref t6] ++ [V.ref t10])) eL10).trans (Nt.same sG))))))
        have etG := ntG _ _ (fun _ z => by cases z) (fun _ z => by cases z) et
        refine ⟨by decide, fun M nM => ?_⟩
        have sM := new_same (o := .lst [V.ref t, V.ref t]) nM
        have tp : ∀ w, G w = some (.tup [.str (dueK dn dr dm), .str (dueT dn dr dm)]) → Dp K (upd G M (.lst [V.ref t, V.ref t])) (.ref w) (.tuple [.str (dueK dn dr dm), .str (dueT dn dr dm)]) := fun w e => .tup (SqT.of (sM _ _ e)) (.cons (.str _) (.cons (.str _) .nil))
        refine ⟨_, _, .lst (SqL.of (sM _ _ eD)) (.cons (tp _ f1) (.cons (tp _ f2) .nil)), .lst (SqL.of upd_same) (.cons (tp _ etG) (.cons (tp _ etG) .nil)), (ans_shaped ok.1 ok.2).2, (ans_shaped ok.1 ok.2).2, _, rfl, ?_⟩
        rw [SeqAt.eqv_refl _ (SeqAt.canLay_of_shaped (ans_shaped ok.1 ok.2).2)]
        refine iteF ⟨by decide, fun a2 na2 ma2 => ?_⟩
        have s2' := new_same (o := .lst [vn, vr, vm]) na2
        have kLG : Ke L H6 G := k69.trans ((Ke.same s10).trans ((Ke.kp (Kp.put (o := .lst ([V.ref t6] ++ [V.ref t10])))).trans (Ke.same sG)))
        have kL2 := kLG.trans ((Ke.same sM).trans (Ke.same s2'))
        have n2 := Dq.ke kL2 _ _ n6
        have d2 := Dq.ke kL2 _ _ d6
        have m2 := Dq.ke kL2 _ _ m6
        have eL2 := sM _ _ (sG _ _ (upd_same (H := H10) (a := L) (o := .lst ([V.ref t6] ++ [V.ref t10]))))
        have a2L : a2 ≠ L := (ne_of_none eL2 na2).symm
        refine ⟨.list [dn, dr, dm], ⟨true, L, .lst upd_same a2L (fun _ => ma2) (.cons n2 (.cons d2 (.cons m2 .nil)))⟩, fl, rfl, ?_⟩
        rw [decide_eq_true rfl]
        have T2 := Tabs.same T11 (sG.trans (sM.trans s2'))
        refine iteF ⟨T2, fun H12 x12 T12 H13 Q13 s13' told13 => ?_⟩
        have kL13 := kL2.trans ((Ke.ext x12).trans (Ke.same s13'))
        have n13 := Dq.ke kL13 _ _ n6
        have d13 := Dq.ke kL13 _ _ d6
        have zf : Sz 60000 20 (.bool false) := sz_of (by decide +kernel)
        refine ⟨vn, rfl, vr, rfl, rfl, rfl, where_read (vm := .bl false) n13 d13 (.bl false) (ft zn) (ft zr) (ft zf) bn zr.tl told13 (fun H14 t14 s14 r14 => shown_read r14 (fun H15 t15 s15 e15 => ?_))⟩
        have s35 := s14.trans s15
        refine ⟨vn, vr, .bl false, dn, dr, .bool false, true, L, rfl, n13.same s35, d13.same s35, .bl false, ft zn, ft zr, ft zf, bn, zr.tl, fun H16 t16 s16 e16 => ?_⟩
        have ok2 := due_ok (dm := .bool false) zn.ok zr.ok zf.ok
        refine ⟨_, _, .tup (SqT.of (s16 _ _ e15)) (.cons (.str _) (.cons (.str _) .nil)), .tup (SqT.of e16) (.cons (.str _) (.cons (.str _) .nil)), (ans_shaped ok2.1 ok2.2).1, (ans_shaped ok2.1 ok2.2).1, _, rfl, ?_⟩
        rw [SeqAt.eqv_refl _ (SeqAt.canLay_of_shaped (ans_shaped ok2.1 ok2.2).1)]
        have s36 := s35.trans s16
        have kL16 := kL13.trans (Ke.same s36)
        have k6p : Ke p H6 H16 := fun c o n m h => kL16 c o (ne_of_none h nL) m h
        have k16 : Ke p H1 H6 := k15.trans (Ke.same s6)
        have e6 : H6 p = some (.lst y1) := s6 _ _ (s5 _ _ (x4 _ _ (s13 _ _ e1) (fun _ z => by cases z)))
        have e16p : H16 p = some (.lst y1) := kL16 _ _ (ne_of_none e6 nL) (fun _ z => by cases z) e6
        refine iteF ?_
        exact ⟨k0.trans ((Ke.kp k1).trans (k16.trans k6p)), (p1.eq (e16p.trans e1.symm)).up (by omega), by rw [← eTT]; exact Tabs.same T12 (s13'.trans s36)⟩
    · rintro σ H0 ⟨s1, s2, s3, s4, s5, s6, s7, s8, s9, rfl, k0, p0, t0⟩
      walk_at "rd"
      exact q _ k0 t0
end
end Pf

set_option Elab.async false
set_option linter.all false
set_option maxRecDepth 100000
/-! The law. -/
namespace Pf
open PySem PySem.Spec PyProof.Rows L2 LamX NdefX
local macro_rules | `(tactic| walk_at "rd") => `(tactic| simp only [tC1, tCK, tB, rNe, rEq, tChain, gTupV, gCons, gNil, Nat.sub_self, Nat.reduceSub, List.replicate_zero, List.replicate_succ, tTest, tIfS, tIf, tNot, tAnd, tOr, tAndV, tOrV, tNotV, tDrop, tNext, rIxV, rIxP,
  gSub, rSetL, tSl, tPart, tNoPart, rSl1, tAsg2, ipI, tDNewK, tBM, rAppend, wipe, rAllB, rAnyB, iTup, iList, RZ.iZipA, iRng1, iRng2, tYes, upd_same, at0, at1, at2, at20, at21, ixN30, ixN32, HO.lst.injEq, HO.tup.injEq, Nat.reduceAdd, tSeq, tAsg, tPar, tAug, tOp, tVar, tC, tCB, tCons, tNil, rI, rI0, rU, tUn, gName, tRet, tLst, tLstM, tTup, L2.start, List.map_cons, List.map_nil, List.length_cons, List.length_nil, List.replicate, List.cons_append,
  List.nil_append, List.set_cons_zero, List.set_cons_succ, List.getElem?_cons_zero, List.getElem?_cons_succ, Option.some.injEq, V.int.injEq, V.ref.injEq, V.bl.injEq, V.str.injEq, List.cons.injEq, exists_eq_left', exists_eq_left, exists_and_left, exists_and_right, and_true, true_and, reduceCtorEq, false_and,
  exists_false, or_false, false_or, exists_const, exists_eq, exists_eq', Bool.not_true, Bool.not_false, Bool.false_eq_true, if_true, if_false, ite_true, ite_false])
abbrev s_law : Stmt := topS 65
theorem sc_law : FnScope ["_law_script", "_law_k"] ["_law_script"] (defScope s_law) := ⟨rfl, rfl, rfl, by decide +kernel, rfl, by decide +kernel, by decide +kernel⟩
section
variable {base : Heap} {P : Program} {w : World} {mg : Str → Option Value} {K : PySem.W.Frag}
def sp_law (cs : List (Addr × Addr)) (K : PySem.W.Frag) : Sp := fun vs H Q _ => ∃ (a : Addr) (ns : List Int), vs = [.ref a] ∧ (∀ p ∈ cs, H p.2 = some (.tbl #[])) ∧ SqL K H a (ns.map V.int) ∧ ns.length ≤ 63 ∧ ∀ H', Q (.bl true) H'
theorem Ke.seqL {K : PySem.W.Frag} {p a : Addr} {H H' : Hp} {xs : List V} (k : Ke p H H') (n : H p = none) (h : SqL K H a xs) : SqL K H' a xs := by
  rcases h with (h | ⟨o, h⟩) | h
  · exact .inl (.inl (k _ _ (ne_of_none h n) (fun _ z => nomatch z) h))
  · exact .inl (.inr ⟨o, k _ _ (ne_of_none h n) (fun _ z => nomatch z) h⟩)
  · exact .inr h
theorem ok_law {f : Addr} {A c : Addr} {fd : FuncData} (F : Fun K "law" "law" s_law f fd) (T : Txt mg) (C__law_pot : Cal P w K mg base 1 "_law_pot" (sp_pot K)) (C__law_right : Cal P w K mg base 8 "_law_right" (sp_right A)) : FnG P w K mg base 9 f fd ["_law_script"] (sp_law [(c, A)] K) := by
  refine okG F sc_law (fun vs H Q E h => ?_) (fun cdv A0 outer s H vs Q E hg hr h => ?_)
  · obtain ⟨a, ns, rfl, _⟩ := h
    rfl
  · obtain ⟨a, ns, rfl, hA, hS, hl, q⟩ := h
    have T0 : Tabs (rightT A) H := fun z m => by
      rw [List.mem_singleton.mp m]
      exact TabS.nil (hA _ List.mem_cons_self)
    replace hr := And.intro hg hr
    refine ⟨_, (pss_cons (ps_for PassesOwn.never rfl (pi_range1 (by rfl) T.b_range (pa_cons (pe_callB (call_max2 rfl) (by rfl) T.b_max (by decide +kernel) (pa_cons pe_int (pa_cons (pe_callB (call_min2 rfl) (by rfl) T.b_min (by decide +kernel) (pa_cons pe_int (pa_cons (pe_callB call_len_seq (by rfl) T.b_len (by decide +kernel) (pa_cons (pv 0) pa_nil)) pa_nil))) pa_nil))) pa_nil)) (pg_name (i := 1) sc_law.nd rfl (Or.inl rfl)) (pss_one (ps_if (pt_not (pt_val (pe_c C__law_right hr (by decide) (by rfl) (pa_cons (pe_c C__law_pot hr (by decide) (by rfl) (pa_cons (pv 0) (pa_cons (pv 1) pa_nil))) pa_nil)))) (pss_one (ps_ret pe_bl)) pss_nil)))
        (pss_one (ps_ret pe_bl))), ?_⟩
    walk_at "rd"
    have least : ∀ L : Int, 0 ≤ L → 0 ≤ (if (if L < 3 then L else 3) > 1 then (if L < 3 then L else 3) else 1) ∧ (if (if L < 3 then L else 3) > 1 then (if L < 3 then L else 3) else 1) ≤ 3 := fun L h => by
      split <;> split <;> omega
    obtain ⟨b1, b2⟩ := least ((ns.map V.int).length : Nat) (by omega)
    refine ⟨.ref a, rfl, a, rfl, ns.map V.int, .inl hS, 3, _, rfl, 1, _, rfl, _, rfl, ?_, ?_, for_range (lo := 0) (fun i σ H' => ∃ t : Option V, σ = [some (.ref a), t] ∧ SqL K H' a (ns.map V.int) ∧ Tabs (rightT A) H') ⟨none, rfl, hS, T0⟩ ?_ ?_⟩
    · exact Int.le_trans (by decide) b1
    · exact Int.lt_of_le_of_lt b2 (by decide)
    · rintro i σ H0 hi ⟨t, rfl, s0, t0⟩
      have i3 : i < 3 := by
        have := Int.toNat_le_toNat b2
        exact Nat.lt_of_lt_of_le hi this
      walk_at "rd"
      exact ⟨a, ns, i, by rw [Int.zero_add], s0, hl, by omega, fun H1 p s1 np pot => ⟨p, rfl, pot, Tabs.same t0 s1, fun H2 k2 t2 => ⟨true, rfl, iteF ⟨((Ke.same s1).trans k2).seqL np s0, t2⟩⟩⟩⟩
    · rintro σ H0 ⟨t, rfl, s0, t0⟩
      walk_at "rd"
      exact q _
end
end Pf

set_option Elab.async false
set_option linter.all false
set_option maxRecDepth 100000
/-! The end: the law from its parts. -/
namespace Pf
open PySem PySem.Spec PyProof.Rows L2 LamX NdefX
section
variable {base : Heap} {P : Program} {w : World} {mg : Str → Option Value} {K : PySem.W.Frag} {cl : ClsA}
/-- the two ways that where is called with every argument written -/
theorem kb_all {x qual : Str} {st : Stmt} {f : Addr} {fd : FuncData} {ps ks : List Str} {n : Nat} {g : List Value → List Value → List Value} {gV : List V → List V → List V} (F : Fun K x qual st f fd)
    (h : ∀ (kV doc pm : Value) (an : Option Addr) (cdv ct : Value) (us ws : List Value), us.length = n → ws.length = ks.length → bindArgs (PySem.W.fnOf x qual (defArgs st) (defBody st) (defScope st) .none kV doc pm an cdv ct) ⟨us, ks.zip ws⟩ = pure (ps.zip (g us ws)))
    (rel : ∀ {vs : List V} {us : List Value} {zs : List V} {ws : List Value}, Vals vs us → Vals zs ws → Vals (gV vs zs) (g us ws)) : KBn K fd ps n ks g gV := by
  obtain ⟨_, _, kV, doc, pm, an, cdv, ct, _, rfl, _, _⟩ := F.ex
  exact ⟨fun s us ws _ h1 h2 => .of_eq (h kV doc pm an cdv ct us ws h1 h2), fun r1 r2 => rel r1 r2⟩
theorem vals_app : ∀ {vs : List V} {us : List Value} {zs : List V} {ws : List Value}, Vals vs us → Vals zs ws → Vals (vs ++ zs) (us ++ ws)
  | _, _, _, _, .nil, r => r
  | _, _, _, _, .cons h t, r => .cons h (vals_app t r)
theorem vals_rev : ∀ {zs : List V} {ws : List Value}, Vals zs ws → Vals zs.reverse ws.reverse
  | _, _, .nil => .nil
  | _, _, .cons h t => by
    rw [List.reverse_cons, List.reverse_cons]
    exact vals_app (vals_rev t) (.cons h .nil)
theorem kb_where1 {f : Addr} {fd : FuncData} (F : Fun K "where" "where" s_where f fd) : KBn K fd ["column", "ranges", "missing"] 2 ["missing"] (fun us ws => us ++ ws) ord1 :=
  kb_all F (fun _ _ _ _ _ _ us ws h1 h2 => match us, ws, h1, h2 with | [_, _], [_], _, _ => rfl) fun a b => vals_app a b
theorem kb_where2 {f : Addr} {fd : FuncData} (F : Fun K "where" "where" s_where f fd) : KBn K fd ["column", "ranges", "missing"] 0 ["missing", "ranges", "column"] (fun _ ws => ws.reverse) ord0 :=
  kb_all F (fun _ _ _ _ _ _ us ws h1 h2 => match us, ws, h1, h2 with | [], [_, _, _], _, _ => rfl) fun _ b => vals_rev b
/-- .. and with the default -/
theorem kb_where3 {f D : Addr} {oc doc pm cdv ct : Value} {an od : Option Addr} {osl : Array (Option Value)} (lk : K.lookup f = some ⟨oc, od, .func (PySem.W.fnOf "where" "where" (defArgs s_where) (defBody s_where) (defScope s_where) .none (.ref D) doc pm an cdv ct), osl⟩)
    (hD : PySem.W.nsIn K D "missing" = some (some (.bool false))) : KBn K (PySem.W.fnOf "where" "where" (defArgs s_where) (defBody s_where) (defScope s_where) .none (.ref D) doc pm an cdv ct) ["column", "ranges", "missing"] 2 [] (fun us _ => us ++ [.bool false]) ord2 := by
  refine ⟨fun s us ws X h1 h2 => L2.BindsTo.of_looks fun M => ?_, fun a _ => vals_app a (.cons rfl .nil)⟩
  match us, ws, h1, h2 with
  | [u1, u2], [], _, _ =>
    refine KwChain.looks (D := D) (l := [(("missing" : Str), Value.bool false)]) X (fun q m => ?_) ?_
    · rw [List.mem_singleton.mp m]
      exact hD
    · exact ⟨_, _, _, _, _, _, rfl, rfl, rfl⟩
theorem all_ok {f A c : Addr} {fd : FuncData} (T : Txt mg) (TC : TxtC mg cl) (M : MetC K cl) (F : Fun K "law" "law" s_law f fd)
    {f_is_number : Addr} {fd_is_number : FuncData} (F_is_number : Fun K "is_number" "is_number" s_is_number f_is_number fd_is_number) (b_is_number : Binds K fd_is_number ["value"] []) (m_is_number : mg "is_number" = some (.ref f_is_number))
    {f_is_column : Addr} {fd_is_column : FuncData} (F_is_column : Fun K "is_column" "is_column" s_is_column f_is_column fd_is_column) (b_is_column : Binds K fd_is_column ["value"] []) (m_is_column : mg "is_column" = some (.ref f_is_column))
    {f_consists_of : Addr} {fd_consists_of : FuncData} (F_consists_of : Fun K "consists_of" "consists_of" s_consists_of f_consists_of fd_consists_of) (b_consists_of : Binds K fd_consists_of ["word", "characters"] []) (m_consists_of : mg "consists_of" = some (.ref f_consists_of))
    {f_is_ranges : Addr} {fd_is_ranges : FuncData} (F_is_ranges : Fun K "is_ranges" "is_ranges" s_is_ranges f_is_ranges fd_is_ranges) (b_is_ranges : Binds K fd_is_ranges ["value"] []) (m_is_ranges : mg "is_ranges" = some (.ref f_is_ranges))
    {f_is_pair : Addr} {fd_is_pair : FuncData} (F_is_pair : Fun K "is_pair" "is_pair" s_is_pair f_is_pair fd_is_pair) (b_is_pair : Binds K fd_is_pair ["value"] []) (m_is_pair : mg "is_pair" = some (.ref f_is_pair))
    {f_condition_string : Addr} {fd_condition_string : FuncData} (F_condition_string : Fun K "condition_string" "condition_string" s_condition_string f_condition_string fd_condition_string) (b_condition_string : Binds K fd_condition_string ["column", "ranges", "missing"] []) (m_condition_string : mg "condition_string" = some (.ref f_condition_string))
    {f_fits_condition : Addr} {fd_fits_condition : FuncData} (F_fits_condition : Fun K "fits_condition" "fits_condition" s_fits_condition f_fits_condition fd_fits_condition) (b_fits_condition : Binds K fd_fits_condition ["ranges"] []) (m_fits_condition : mg "fits_condition" = some (.ref f_fits_condition))
    {f__law_pot : Addr} {fd__law_pot : FuncData} (F__law_pot : Fun K "_law_pot" "_law_pot" s__law_pot f__law_pot fd__law_pot) (b__law_pot : Binds K fd__law_pot ["_law_script", "_law_k"] []) (m__law_pot : mg "_law_pot" = some (.ref f__law_pot))
    {f__law_draw : Addr} {fd__law_draw : FuncData} (F__law_draw : Fun K "_law_draw" "_law_draw" s__law_draw f__law_draw fd__law_draw) (b__law_draw : Binds K fd__law_draw ["_law_pot_here", "_law_many"] []) (m__law_draw : mg "_law_draw" = some (.ref f__law_draw))
    {f__law_any : Addr} {fd__law_any : FuncData} (F__law_any : Fun K "_law_any" "_law_any" s__law_any f__law_any fd__law_any) (b__law_any : Binds K fd__law_any ["_law_pot_here", "_law_items"] []) (m__law_any : mg "_law_any" = some (.ref f__law_any))
    {f__law_odd : Addr} {fd__law_odd : FuncData} (F__law_odd : Fun K "_law_odd" "_law_odd" s__law_odd f__law_odd fd__law_odd) (b__law_odd : Binds K fd__law_odd ["_law_pot_here"] []) (m__law_odd : mg "_law_odd" = some (.ref f__law_odd))
    {f__law_spans : Addr} {fd__law_spans : FuncData} (F__law_spans : Fun K "_law_spans" "_law_spans" s__law_spans f__law_spans fd__law_spans) (b__law_spans : Binds K fd__law_spans ["_law_pot_here", "_law_most", "_law_low", "_law_high"] []) (m__law_spans : mg "_law_spans" = some (.ref f__law_spans))
    {f__law_is_integer : Addr} {fd__law_is_integer : FuncData} (F__law_is_integer : Fun K "_law_is_integer" "_law_is_integer" s__law_is_integer f__law_is_integer fd__law_is_integer) (b__law_is_integer : Binds K fd__law_is_integer ["_law_thing"] []) (m__law_is_integer : mg "_law_is_integer" = some (.ref f__law_is_integer))
    {f__law_is_set : Addr} {fd__law_is_set : FuncData} (F__law_is_set : Fun K "_law_is_set" "_law_is_set" s__law_is_set f__law_is_set fd__law_is_set) (b__law_is_set : Binds K fd__law_is_set ["_law_thing"] []) (m__law_is_set : mg "_law_is_set" = some (.ref f__law_is_set))
    {f__law_is_name : Addr} {fd__law_is_name : FuncData} (F__law_is_name : Fun K "_law_is_name" "_law_is_name" s__law_is_name f__law_is_name fd__law_is_name) (b__law_is_name : Binds K fd__law_is_name ["_law_thing"] []) (m__law_is_name : mg "_law_is_name" = some (.ref f__law_is_name))
    {f__law_con_text : Addr} {fd__law_con_text : FuncData} (F__law_con_text : Fun K "_law_con_text" "_law_con_text" s__law_con_text f__law_con_text fd__law_con_text) (b__law_con_text : Binds K fd__law_con_text ["_law_tree"] []) (m__law_con_text : mg "_law_con_text" = some (.ref f__law_con_text))
    {f__law_met : Addr} {fd__law_met : FuncData} (F__law_met : Fun K "_law_met" "_law_met" s__law_met f__law_met fd__law_met) (b__law_met : Binds K fd__law_met ["_law_call"] []) (m__law_met : mg "_law_met" = some (.ref f__law_met))
    {f__law_three : Addr} {fd__law_three : FuncData} (F__law_three : Fun K "_law_three" "_law_three" s__law_three f__law_three fd__law_three) (b__law_three : Binds K fd__law_three ["_law_pot_here"] []) (m__law_three : mg "_law_three" = some (.ref f__law_three))
    {f__law_due : Addr} {fd__law_due : FuncData} (F__law_due : Fun K "_law_due" "_law_due" s__law_due f__law_due fd__law_due) (b__law_due : Binds K fd__law_due ["_law_name", "_law_spans_here", "_law_bare"] []) (m__law_due : mg "_law_due" = some (.ref f__law_due))
    {f__law_shown : Addr} {fd__law_shown : FuncData} (F__law_shown : Fun K "_law_shown" "_law_shown" s__law_shown f__law_shown fd__law_shown) (b__law_shown : Binds K fd__law_shown ["_law_told", "_law_name"] []) (m__law_shown : mg "_law_shown" = some (.ref f__law_shown))
    {f__law_right : Addr} {fd__law_right : FuncData} (F__law_right : Fun K "_law_right" "_law_right" s__law_right f__law_right fd__law_right) (b__law_right : Binds K fd__law_right ["_law_pot_here"] []) (m__law_right : mg "_law_right" = some (.ref f__law_right))
    {f_where : Addr} {fd_where : FuncData} (F_where : Fun K "where" "where" s_where f_where fd_where) (m_where : mg "where" = some (.ref f_where)) {g1 g2 g3 : List Value → List Value → List Value} (kb1 : KBn K fd_where ["column", "ranges", "missing"] 2 ["missing"] g1 ord1) (kb2 : KBn K fd_where ["column", "ranges", "missing"] 0 ["missing", "ranges", "column"] g2 ord0) (kb3 : KBn K fd_where ["column", "ranges", "missing"] 2 [] g3 ord2)
    {f_BadColumn : Addr} {fd_BadColumn : FuncData} (F_BadColumn : Fun K "__init__" "BadColumn.__init__" s_BadColumn_init f_BadColumn fd_BadColumn) (b_BadColumn : Binds K fd_BadColumn ["self", "value"] []) (oex_BadColumn : OexC K cl.BadColumn) (no_BadColumn : PySem.W.findIn K (.ref cl.BadColumn) "value" = some none) (i_BadColumn : PySem.W.findIn K (.ref cl.BadColumn) "__init__" = some (some (.ref f_BadColumn))) (t_BadColumn : PySem.W.typeIn K (.ref f_BadColumn) = some (.type "function"))
    {f_BadRanges : Addr} {fd_BadRanges : FuncData} (F_BadRanges : Fun K "__init__" "BadRanges.__init__" s_BadRanges_init f_BadRanges fd_BadRanges) (b_BadRanges : Binds K fd_BadRanges ["self", "value"] []) (oex_BadRanges : OexC K cl.BadRanges) (no_BadRanges : PySem.W.findIn K (.ref cl.BadRanges) "value" = some none) (i_BadRanges : PySem.W.findIn K (.ref cl.BadRanges) "__init__" = some (some (.ref f_BadRanges))) (t_BadRanges : PySem.W.typeIn K (.ref f_BadRanges) = some (.type "function"))
    {f_BadFlag : Addr} {fd_BadFlag : FuncData} (F_BadFlag : Fun K "__init__" "BadFlag.__init__" s_BadFlag_init f_BadFlag fd_BadFlag) (b_BadFlag : Binds K fd_BadFlag ["self", "value"] []) (oex_BadFlag : OexC K cl.BadFlag) (no_BadFlag : PySem.W.findIn K (.ref cl.BadFlag) "value" = some none) (i_BadFlag : PySem.W.findIn K (.ref cl.BadFlag) "__init__" = some (some (.ref f_BadFlag))) (t_BadFlag : PySem.W.typeIn K (.ref f_BadFlag) = some (.type "function"))
    {f_Condition : Addr} {fd_Condition : FuncData} (F_Condition : Fun K "__init__" "Condition.__init__" s_Condition_init f_Condition fd_Condition) (b_Condition : Binds K fd_Condition ["self", "column", "ranges", "missing"] []) (mk_Condition : Mk K cl.Condition f_Condition) (cc : CondC K cl.Condition)
    (hfc : fd__law_right.code = .ref c) (TB : TabB base mg c A) :
    FnG P w K mg base 9 f fd ["_law_script"] (sp_law [(c, A)] K) := by
  have C_consists_of : Cal P w K mg base 1 "consists_of" sp_consists := ⟨_, _, _, ok_consists F_consists_of T, m_consists_of, F_consists_of.kp, b_consists_of⟩
  have C_is_column : Cal P w K mg base 2 "is_column" sp_column := ⟨_, _, _, ok_column F_is_column T C_consists_of, m_is_column, F_is_column.kp, b_is_column⟩
  have C_is_number : Cal P w K mg base 1 "is_number" sp_number := ⟨_, _, _, ok_number F_is_number T, m_is_number, F_is_number.kp, b_is_number⟩
  have C_is_pair : Cal P w K mg base 2 "is_pair" sp_pair := ⟨_, _, _, ok_pair F_is_pair T C_is_number, m_is_pair, F_is_pair.kp, b_is_pair⟩
  have C_is_ranges : Cal P w K mg base 3 "is_ranges" sp_ranges := ⟨_, _, _, ok_ranges F_is_ranges T C_is_pair, m_is_ranges, F_is_ranges.kp, b_is_ranges⟩
  have C_fits_condition : Cal P w K mg base 4 "fits_condition" sp_fits := ⟨_, _, _, ok_fits F_fits_condition T C_is_ranges, m_fits_condition, F_fits_condition.kp, b_fits_condition⟩
  have C_condition_string : Cal P w K mg base 1 "condition_string" sp_cstr := ⟨_, _, _, ok_cstr F_condition_string T, m_condition_string, F_condition_string.kp, b_condition_string⟩
  have MK : MakG P w K mg base 2 "Condition" cl.Condition (sp_cinit cl.Condition) := ⟨_, _, _, mk_Condition, ok_cinit F_Condition T cc C_condition_string, TC.g_Condition, b_Condition⟩
  have E_BadColumn : ErrC P w K mg base "BadColumn" "value" cl.BadColumn := ⟨oex_BadColumn, TC.g_BadColumn, _, _, i_BadColumn, t_BadColumn, b_BadColumn, ok_eBadColumn F_BadColumn oex_BadColumn no_BadColumn⟩
  have E_BadRanges : ErrC P w K mg base "BadRanges" "value" cl.BadRanges := ⟨oex_BadRanges, TC.g_BadRanges, _, _, i_BadRanges, t_BadRanges, b_BadRanges, ok_eBadRanges F_BadRanges oex_BadRanges no_BadRanges⟩
  have E_BadFlag : ErrC P w K mg base "BadFlag" "value" cl.BadFlag := ⟨oex_BadFlag, TC.g_BadFlag, _, _, i_BadFlag, t_BadFlag, b_BadFlag, ok_eBadFlag F_BadFlag oex_BadFlag no_BadFlag⟩
  have W := ok_where F_where T C_is_column C_fits_condition ⟨E_BadColumn, E_BadRanges, E_BadFlag⟩ MK
  have X1 : CalX P w K mg base 5 "where" 2 ["missing"] ord1 (sp_where cl) := ⟨_, _, _, g1, W, m_where, F_where.kp, kb1⟩
  have X2 : CalX P w K mg base 5 "where" 0 ["missing", "ranges", "column"] ord0 (sp_where cl) := ⟨_, _, _, g2, W, m_where, F_where.kp, kb2⟩
  have X3 : CalX P w K mg base 5 "where" 2 [] ord2 (sp_where cl) := ⟨_, _, _, g3, W, m_where, F_where.kp, kb3⟩
  have C__law_pot : Cal P w K mg base 1 "_law_pot" (sp_pot K) := ⟨_, _, _, ok_pot F__law_pot T, m__law_pot, F__law_pot.kp, b__law_pot⟩
  have C__law_draw : Cal P w K mg base 1 "_law_draw" sp_draw := ⟨_, _, _, ok_draw F__law_draw T, m__law_draw, F__law_draw.kp, b__law_draw⟩
  have C__law_any : Cal P w K mg base 2 "_law_any" sp_any := ⟨_, _, _, ok_any F__law_any T C__law_draw, m__law_any, F__law_any.kp, b__law_any⟩
  have C__law_odd : Cal P w K mg base 3 "_law_odd" sp_odd := ⟨_, _, _, ok_odd F__law_odd T C__law_any, m__law_odd, F__law_odd.kp, b__law_odd⟩
  have C__law_spans : Cal P w K mg base 3 "_law_spans" sp_spans := ⟨_, _, _, ok_spans F__law_spans T C__law_draw C__law_any, m__law_spans, F__law_spans.kp, b__law_spans⟩
  have C__law_is_integer : Cal P w K mg base 1 "_law_is_integer" sp_number := ⟨_, _, _, ok_integer F__law_is_integer T, m__law_is_integer, F__law_is_integer.kp, b__law_is_integer⟩
  have C__law_is_set : Cal P w K mg base 3 "_law_is_set" sp_ranges := ⟨_, _, _, ok_set F__law_is_set T C__law_is_integer, m__law_is_set, F__law_is_set.kp, b__law_is_set⟩
  have C__law_is_name : Cal P w K mg base 1 "_law_is_name" sp_column := ⟨_, _, _, ok_name F__law_is_name T, m__law_is_name, F__law_is_name.kp, b__law_is_name⟩
  have C__law_con_text : Cal P w K mg base 1 "_law_con_text" sp_ctext := ⟨_, _, _, ok_ctext F__law_con_text T, m__law_con_text, F__law_con_text.kp, b__law_con_text⟩
  have CM := ok_met (P := P) (w := w) (base := base) F__law_met T TC M m__law_met b__law_met
  have C__law_three : Cal P w K mg base 4 "_law_three" sp_three := ⟨_, _, _, ok_three F__law_three T C__law_any C__law_draw C__law_spans C__law_odd, m__law_three, F__law_three.kp, b__law_three⟩
  have C__law_due : Cal P w K mg base 4 "_law_due" sp_due := ⟨_, _, _, ok_due F__law_due T C__law_is_name C__law_is_set C__law_con_text, m__law_due, F__law_due.kp, b__law_due⟩
  have C__law_shown : Cal P w K mg base 1 "_law_shown" (sp_shown cl.Condition) := ⟨_, _, _, ok_shown F__law_shown T cc, m__law_shown, F__law_shown.kp, b__law_shown⟩
  have C__law_right : Cal P w K mg base 8 "_law_right" (sp_right A) := ⟨_, _, _, ok_right F__law_right hfc TB T C__law_three C__law_due C__law_shown CM X1 X2 X3, m__law_right, F__law_right.kp, b__law_right⟩
  exact ok_law F T C__law_pot C__law_right
end
end Pf

set_option Elab.async false
set_option linter.all false
set_option maxRecDepth 100000
/-! The end, over the linked heap. -/
namespace Pf
open PySem PySem.Spec PyProof.Rows L2 LamX NdefX
theorem all_mk {l : PySem.W.OpenLaw} {w : World} {K : PySem.W.Frag} {h : Heap} {mg : Str → Option Value} {fa c A D f_is_number f_is_column f_consists_of f_is_ranges f_is_pair f_condition_string f_fits_condition f__law_pot f__law_draw f__law_any f__law_odd f__law_spans f__law_is_integer f__law_is_set f__law_is_name f__law_con_text f__law_met f__law_three f__law_due f__law_shown f__law_right f_where f_law f_BadColumn f_BadRanges f_BadFlag f_Condition c_FactsError_ c_BadColumn_ c_BadRanges_ c_BadFlag_ c_NoColumn_ c_Twice_ c_TooMany_ c_Question_ c_Condition_ c_Joined_ : Addr} (hfa : mg "law" = some (.ref fa)) (X : K.In h) (G : h.Ns mainGlobals mg)
    {od_is_number an_is_number : Option Addr} {sl_is_number : Array (Option Value)} {oc_is_number kV_is_number dc_is_number pm_is_number cd_is_number ct_is_number : Value}
    {od_is_column an_is_column : Option Addr} {sl_is_column : Array (Option Value)} {oc_is_column kV_is_column dc_is_column pm_is_column cd_is_column ct_is_column : Value}
    {od_consists_of an_consists_of : Option Addr} {sl_consists_of : Array (Option Value)} {oc_consists_of kV_consists_of dc_consists_of pm_consists_of cd_consists_of ct_consists_of : Value}
    {od_is_ranges an_is_ranges : Option Addr} {sl_is_ranges : Array (Option Value)} {oc_is_ranges kV_is_ranges dc_is_ranges pm_is_ranges cd_is_ranges ct_is_ranges : Value}
    {od_is_pair an_is_pair : Option Addr} {sl_is_pair : Array (Option Value)} {oc_is_pair kV_is_pair dc_is_pair pm_is_pair cd_is_pair ct_is_pair : Value}
    {od_condition_string an_condition_string : Option Addr} {sl_condition_string : Array (Option Value)} {oc_condition_string kV_condition_string dc_condition_string pm_condition_string cd_condition_string ct_condition_string : Value}
    {od_fits_condition an_fits_condition : Option Addr} {sl_fits_condition : Array (Option Value)} {oc_fits_condition kV_fits_condition dc_fits_condition pm_fits_condition cd_fits_condition ct_fits_condition : Value}
    {od__law_pot an__law_pot : Option Addr} {sl__law_pot : Array (Option Value)} {oc__law_pot kV__law_pot dc__law_pot pm__law_pot cd__law_pot ct__law_pot : Value}
    {od__law_draw an__law_draw : Option Addr} {sl__law_draw : Array (Option Value)} {oc__law_draw kV__law_draw dc__law_draw pm__law_draw cd__law_draw ct__law_draw : Value}
    {od__law_any an__law_any : Option Addr} {sl__law_any : Array (Option Value)} {oc__law_any kV__law_any dc__law_any pm__law_any cd__law_any ct__law_any : Value}
    {od__law_odd an__law_odd : Option Addr} {sl__law_odd : Array (Option Value)} {oc__law_odd kV__law_odd dc__law_odd pm__law_odd cd__law_odd ct__law_odd : Value}
    {od__law_spans an__law_spans : Option Addr} {sl__law_spans : Array (Option Value)} {oc__law_spans kV__law_spans dc__law_spans pm__law_spans cd__law_spans ct__law_spans : Value}
    {od__law_is_integer an__law_is_integer : Option Addr} {sl__law_is_integer : Array (Option Value)} {oc__law_is_integer kV__law_is_integer dc__law_is_integer pm__law_is_integer cd__law_is_integer ct__law_is_integer : Value}
    {od__law_is_set an__law_is_set : Option Addr} {sl__law_is_set : Array (Option Value)} {oc__law_is_set kV__law_is_set dc__law_is_set pm__law_is_set cd__law_is_set ct__law_is_set : Value}
    {od__law_is_name an__law_is_name : Option Addr} {sl__law_is_name : Array (Option Value)} {oc__law_is_name kV__law_is_name dc__law_is_name pm__law_is_name cd__law_is_name ct__law_is_name : Value}
    {od__law_con_text an__law_con_text : Option Addr} {sl__law_con_text : Array (Option Value)} {oc__law_con_text kV__law_con_text dc__law_con_text pm__law_con_text cd__law_con_text ct__law_con_text : Value}
    {od__law_met an__law_met : Option Addr} {sl__law_met : Array (Option Value)} {oc__law_met kV__law_met dc__law_met pm__law_met cd__law_met ct__law_met : Value}
    {od__law_three an__law_three : Option Addr} {sl__law_three : Array (Option Value)} {oc__law_three kV__law_three dc__law_three pm__law_three cd__law_three ct__law_three : Value}
    {od__law_due an__law_due : Option Addr} {sl__law_due : Array (Option Value)} {oc__law_due kV__law_due dc__law_due pm__law_due cd__law_due ct__law_due : Value}
    {od__law_shown an__law_shown : Option Addr} {sl__law_shown : Array (Option Value)} {oc__law_shown kV__law_shown dc__law_shown pm__law_shown cd__law_shown ct__law_shown : Value}
    {od__law_right an__law_right : Option Addr} {sl__law_right : Array (Option Value)} {oc__law_right kV__law_right dc__law_right pm__law_right  ct__law_right : Value}
    {od_where an_where : Option Addr} {sl_where : Array (Option Value)} {oc_where  dc_where pm_where cd_where ct_where : Value}
    {od_law an_law : Option Addr} {sl_law : Array (Option Value)} {oc_law kV_law dc_law pm_law cd_law ct_law : Value}
    {od_BadColumn an_BadColumn : Option Addr} {sl_BadColumn : Array (Option Value)} {oc_BadColumn kV_BadColumn dc_BadColumn pm_BadColumn cd_BadColumn ct_BadColumn : Value}
    {od_BadRanges an_BadRanges : Option Addr} {sl_BadRanges : Array (Option Value)} {oc_BadRanges kV_BadRanges dc_BadRanges pm_BadRanges cd_BadRanges ct_BadRanges : Value}
    {od_BadFlag an_BadFlag : Option Addr} {sl_BadFlag : Array (Option Value)} {oc_BadFlag kV_BadFlag dc_BadFlag pm_BadFlag cd_BadFlag ct_BadFlag : Value}
    {od_Condition an_Condition : Option Addr} {sl_Condition : Array (Option Value)} {oc_Condition kV_Condition dc_Condition pm_Condition cd_Condition ct_Condition : Value}
    {nm_BadColumn q_BadColumn : _} {N_BadColumn : _} {bs_BadColumn bm_BadColumn : _} {sn_BadColumn sub_BadColumn ab_BadColumn col_BadColumn dd_BadColumn x0_BadColumn x1_BadColumn x2_BadColumn x3_BadColumn x5_BadColumn : _}
    {nm_BadRanges q_BadRanges : _} {N_BadRanges : _} {bs_BadRanges bm_BadRanges : _} {sn_BadRanges sub_BadRanges ab_BadRanges col_BadRanges dd_BadRanges x0_BadRanges x1_BadRanges x2_BadRanges x3_BadRanges x5_BadRanges : _}
    {nm_BadFlag q_BadFlag : _} {N_BadFlag : _} {bs_BadFlag bm_BadFlag : _} {sn_BadFlag sub_BadFlag ab_BadFlag col_BadFlag dd_BadFlag x0_BadFlag x1_BadFlag x2_BadFlag x3_BadFlag x5_BadFlag : _}
    {tk_LOWEST : Tok}
    {tk_HIGHEST : Tok}
    {tk_MOST_LETTERS : Tok}
    {tk_LETTERS : Tok}
    {tk_MOST_COLUMNS : Tok}
    {tk_MOST_PAIRS : Tok}
    (a_is_number : PySem.W.nsIn K mainGlobals "is_number" = some (some (.ref f_is_number))) (l_is_number : K.lookup f_is_number = some ⟨oc_is_number, od_is_number, .func (PySem.W.fnOf "is_number" "is_number" (defArgs s_is_number) (defBody s_is_number) (defScope s_is_number) .none kV_is_number dc_is_number pm_is_number an_is_number cd_is_number ct_is_number), sl_is_number⟩) (c_is_number : PySem.W.codeIn K cd_is_number "is_number" = true) (k_is_number : PySem.W.keepIn K (.ref f_is_number) = true)
    (a_is_column : PySem.W.nsIn K mainGlobals "is_column" = some (some (.ref f_is_column))) (l_is_column : K.lookup f_is_column = some ⟨oc_is_column, od_is_column, .func (PySem.W.fnOf "is_column" "is_column" (defArgs s_is_column) (defBody s_is_column) (defScope s_is_column) .none kV_is_column dc_is_column pm_is_column an_is_column cd_is_column ct_is_column), sl_is_column⟩) (c_is_column : PySem.W.codeIn K cd_is_column "is_column" = true) (k_is_column : PySem.W.keepIn K (.ref f_is_column) = true)
    (a_consists_of : PySem.W.nsIn K mainGlobals "consists_of" = some (some (.ref f_consists_of))) (l_consists_of : K.lookup f_consists_of = some ⟨oc_consists_of, od_consists_of, .func (PySem.W.fnOf "consists_of" "consists_of" (defArgs s_consists_of) (defBody s_consists_of) (defScope s_consists_of) .none kV_consists_of dc_consists_of pm_consists_of an_consists_of cd_consists_of ct_consists_of), sl_consists_of⟩) (c_consists_of : PySem.W.codeIn K cd_consists_of "consists_of" = true) (k_consists_of : PySem.W.keepIn K (.ref f_consists_of) = true)
    (a_is_ranges : PySem.W.nsIn K mainGlobals "is_ranges" = some (some (.ref f_is_ranges))) (l_is_ranges : K.lookup f_is_ranges = some ⟨oc_is_ranges, od_is_ranges, .func (PySem.W.fnOf "is_ranges" "is_ranges" (defArgs s_is_ranges) (defBody s_is_ranges) (defScope s_is_ranges) .none kV_is_ranges dc_is_ranges pm_is_ranges an_is_ranges cd_is_ranges ct_is_ranges), sl_is_ranges⟩) (c_is_ranges : PySem.W.codeIn K cd_is_ranges "is_ranges" = true) (k_is_ranges : PySem.W.keepIn K (.ref f_is_ranges) = true)
    (a_is_pair : PySem.W.nsIn K mainGlobals "is_pair" = some (some (.ref f_is_pair))) (l_is_pair : K.lookup f_is_pair = some ⟨oc_is_pair, od_is_pair, .func (PySem.W.fnOf "is_pair" "is_pair" (defArgs s_is_pair) (defBody s_is_pair) (defScope s_is_pair) .none kV_is_pair dc_is_pair pm_is_pair an_is_pair cd_is_pair ct_is_pair), sl_is_pair⟩) (c_is_pair : PySem.W.codeIn K cd_is_pair "is_pair" = true) (k_is_pair : PySem.W.keepIn K (.ref f_is_pair) = true)
    (a_condition_string : PySem.W.nsIn K mainGlobals "condition_string" = some (some (.ref f_condition_string))) (l_condition_string : K.lookup f_condition_string = some ⟨oc_condition_string, od_condition_string, .func (PySem.W.fnOf "condition_string" "condition_string" (defArgs s_condition_string) (defBody s_condition_string) (defScope s_condition_string) .none kV_condition_string dc_condition_string pm_condition_string an_condition_string cd_condition_string ct_condition_string), sl_condition_string⟩) (c_condition_string : PySem.W.codeIn K cd_condition_string "condition_string" = true) (k_condition_string : PySem.W.keepIn K (.ref f_condition_string) = true)
    (a_fits_condition : PySem.W.nsIn K mainGlobals "fits_condition" = some (some (.ref f_fits_condition))) (l_fits_condition : K.lookup f_fits_condition = some ⟨oc_fits_condition, od_fits_condition, .func (PySem.W.fnOf "fits_condition" "fits_condition" (defArgs s_fits_condition) (defBody s_fits_condition) (defScope s_fits_condition) .none kV_fits_condition dc_fits_condition pm_fits_condition an_fits_condition cd_fits_condition ct_fits_condition), sl_fits_condition⟩) (c_fits_condition : PySem.W.codeIn K cd_fits_condition "fits_condition" = true) (k_fits_condition : PySem.W.keepIn K (.ref f_fits_condition) = true)
    (a__law_pot : PySem.W.nsIn K mainGlobals "_law_pot" = some (some (.ref f__law_pot))) (l__law_pot : K.lookup f__law_pot = some ⟨oc__law_pot, od__law_pot, .func (PySem.W.fnOf "_law_pot" "_law_pot" (defArgs s__law_pot) (defBody s__law_pot) (defScope s__law_pot) .none kV__law_pot dc__law_pot pm__law_pot an__law_pot cd__law_pot ct__law_pot), sl__law_pot⟩) (c__law_pot : PySem.W.codeIn K cd__law_pot "_law_pot" = true) (k__law_pot : PySem.W.keepIn K (.ref f__law_pot) = true)
    (a__law_draw : PySem.W.nsIn K mainGlobals "_law_draw" = some (some (.ref f__law_draw))) (l__law_draw : K.lookup f__law_draw = some ⟨oc__law_draw, od__law_draw, .func (PySem.W.fnOf "_law_draw" "_law_draw" (defArgs s__law_draw) (defBody s__law_draw) (defScope s__law_draw) .none kV__law_draw dc__law_draw pm__law_draw an__law_draw cd__law_draw ct__law_draw), sl__law_draw⟩) (c__law_draw : PySem.W.codeIn K cd__law_draw "_law_draw" = true) (k__law_draw : PySem.W.keepIn K (.ref f__law_draw) = true)
    (a__law_any : PySem.W.nsIn K mainGlobals "_law_any" = some (some (.ref f__law_any))) (l__law_any : K.lookup f__law_any = some ⟨oc__law_any, od__law_any, .func (PySem.W.fnOf "_law_any" "_law_any" (defArgs s__law_any) (defBody s__law_any) (defScope s__law_any) .none kV__law_any dc__law_any pm__law_any an__law_any cd__law_any ct__law_any), sl__law_any⟩) (c__law_any : PySem.W.codeIn K cd__law_any "_law_any" = true) (k__law_any : PySem.W.keepIn K (.ref f__law_any) = true)
    (a__law_odd : PySem.W.nsIn K mainGlobals "_law_odd" = some (some (.ref f__law_odd))) (l__law_odd : K.lookup f__law_odd = some ⟨oc__law_odd, od__law_odd, .func (PySem.W.fnOf "_law_odd" "_law_odd" (defArgs s__law_odd) (defBody s__law_odd) (defScope s__law_odd) .none kV__law_odd dc__law_odd pm__law_odd an__law_odd cd__law_odd ct__law_odd), sl__law_odd⟩) (c__law_odd : PySem.W.codeIn K cd__law_odd "_law_odd" = true) (k__law_odd : PySem.W.keepIn K (.ref f__law_odd) = true)
    (a__law_spans : PySem.W.nsIn K mainGlobals "_law_spans" = some (some (.ref f__law_spans))) (l__law_spans : K.lookup f__law_spans = some ⟨oc__law_spans, od__law_spans, .func (PySem.W.fnOf "_law_spans" "_law_spans" (defArgs s__law_spans) (defBody s__law_spans) (defScope s__law_spans) .none kV__law_spans dc__law_spans pm__law_spans an__law_spans cd__law_spans ct__law_spans), sl__law_spans⟩) (c__law_spans : PySem.W.codeIn K cd__law_spans "_law_spans" = true) (k__law_spans : PySem.W.keepIn K (.ref f__law_spans) = true)
    (a__law_is_integer : PySem.W.nsIn K mainGlobals "_law_is_integer" = some (some (.ref f__law_is_integer))) (l__law_is_integer : K.lookup f__law_is_integer = some ⟨oc__law_is_integer, od__law_is_integer, .func (PySem.W.fnOf "_law_is_integer" "_law_is_integer" (defArgs s__law_is_integer) (defBody s__law_is_integer) (defScope s__law_is_integer) .none kV__law_is_integer dc__law_is_integer pm__law_is_integer an__law_is_integer cd__law_is_integer ct__law_is_integer), sl__law_is_integer⟩) (c__law_is_integer : PySem.W.codeIn K cd__law_is_integer "_law_is_integer" = true) (k__law_is_integer : PySem.W.keepIn K (.ref f__law_is_integer) = true)
    (a__law_is_set : PySem.W.nsIn K mainGlobals "_law_is_set" = some (some (.ref f__law_is_set))) (l__law_is_set : K.lookup f__law_is_set = some ⟨oc__law_is_set, od__law_is_set, .func (PySem.W.fnOf "_law_is_set" "_law_is_set" (defArgs s__law_is_set) (defBody s__law_is_set) (defScope s__law_is_set) .none kV__law_is_set dc__law_is_set pm__law_is_set an__law_is_set cd__law_is_set ct__law_is_set), sl__law_is_set⟩) (c__law_is_set : PySem.W.codeIn K cd__law_is_set "_law_is_set" = true) (k__law_is_set : PySem.W.keepIn K (.ref f__law_is_set) = true)
    (a__law_is_name : PySem.W.nsIn K mainGlobals "_law_is_name" = some (some (.ref f__law_is_name))) (l__law_is_name : K.lookup f__law_is_name = some ⟨oc__law_is_name, od__law_is_name, .func (PySem.W.fnOf "_law_is_name" "_law_is_name" (defArgs s__law_is_name) (defBody s__law_is_name) (defScope s__law_is_name) .none kV__law_is_name dc__law_is_name pm__law_is_name an__law_is_name cd__law_is_name ct__law_is_name), sl__law_is_name⟩) (c__law_is_name : PySem.W.codeIn K cd__law_is_name "_law_is_name" = true) (k__law_is_name : PySem.W.keepIn K (.ref f__law_is_name) = true)
    (a__law_con_text : PySem.W.nsIn K mainGlobals "_law_con_text" = some (some (.ref f__law_con_text))) (l__law_con_text : K.lookup f__law_con_text = some ⟨oc__law_con_text, od__law_con_text, .func (PySem.W.fnOf "_law_con_text" "_law_con_text" (defArgs s__law_con_text) (defBody s__law_con_text) (defScope s__law_con_text) .none kV__law_con_text dc__law_con_text pm__law_con_text an__law_con_text cd__law_con_text ct__law_con_text), sl__law_con_text⟩) (c__law_con_text : PySem.W.codeIn K cd__law_con_text "_law_con_text" = true) (k__law_con_text : PySem.W.keepIn K (.ref f__law_con_text) = true)
    (a__law_met : PySem.W.nsIn K mainGlobals "_law_met" = some (some (.ref f__law_met))) (l__law_met : K.lookup f__law_met = some ⟨oc__law_met, od__law_met, .func (PySem.W.fnOf "_law_met" "_law_met" (defArgs s__law_met) (defBody s__law_met) (defScope s__law_met) .none kV__law_met dc__law_met pm__law_met an__law_met cd__law_met ct__law_met), sl__law_met⟩) (c__law_met : PySem.W.codeIn K cd__law_met "_law_met" = true) (k__law_met : PySem.W.keepIn K (.ref f__law_met) = true)
    (a__law_three : PySem.W.nsIn K mainGlobals "_law_three" = some (some (.ref f__law_three))) (l__law_three : K.lookup f__law_three = some ⟨oc__law_three, od__law_three, .func (PySem.W.fnOf "_law_three" "_law_three" (defArgs s__law_three) (defBody s__law_three) (defScope s__law_three) .none kV__law_three dc__law_three pm__law_three an__law_three cd__law_three ct__law_three), sl__law_three⟩) (c__law_three : PySem.W.codeIn K cd__law_three "_law_three" = true) (k__law_three : PySem.W.keepIn K (.ref f__law_three) = true)
    (a__law_due : PySem.W.nsIn K mainGlobals "_law_due" = some (some (.ref f__law_due))) (l__law_due : K.lookup f__law_due = some ⟨oc__law_due, od__law_due, .func (PySem.W.fnOf "_law_due" "_law_due" (defArgs s__law_due) (defBody s__law_due) (defScope s__law_due) .none kV__law_due dc__law_due pm__law_due an__law_due cd__law_due ct__law_due), sl__law_due⟩) (c__law_due : PySem.W.codeIn K cd__law_due "_law_due" = true) (k__law_due : PySem.W.keepIn K (.ref f__law_due) = true)
    (a__law_shown : PySem.W.nsIn K mainGlobals "_law_shown" = some (some (.ref f__law_shown))) (l__law_shown : K.lookup f__law_shown = some ⟨oc__law_shown, od__law_shown, .func (PySem.W.fnOf "_law_shown" "_law_shown" (defArgs s__law_shown) (defBody s__law_shown) (defScope s__law_shown) .none kV__law_shown dc__law_shown pm__law_shown an__law_shown cd__law_shown ct__law_shown), sl__law_shown⟩) (c__law_shown : PySem.W.codeIn K cd__law_shown "_law_shown" = true) (k__law_shown : PySem.W.keepIn K (.ref f__law_shown) = true)
    (a__law_right : PySem.W.nsIn K mainGlobals "_law_right" = some (some (.ref f__law_right))) (l__law_right : K.lookup f__law_right = some ⟨oc__law_right, od__law_right, .func (PySem.W.fnOf "_law_right" "_law_right" (defArgs s__law_right) (defBody s__law_right) (defScope s__law_right) .none kV__law_right dc__law_right pm__law_right an__law_right (.ref c) ct__law_right), sl__law_right⟩) (c__law_right : PySem.W.codeIn K (.ref c) "_law_right" = true) (k__law_right : PySem.W.keepIn K (.ref f__law_right) = true)
    (a_where : PySem.W.nsIn K mainGlobals "where" = some (some (.ref f_where))) (l_where : K.lookup f_where = some ⟨oc_where, od_where, .func (PySem.W.fnOf "where" "where" (defArgs s_where) (defBody s_where) (defScope s_where) .none (.ref D) dc_where pm_where an_where cd_where ct_where), sl_where⟩) (c_where : PySem.W.codeIn K cd_where "where" = true) (k_where : PySem.W.keepIn K (.ref f_where) = true)
    (dflt : PySem.W.nsIn K D "missing" = some (some (.bool false)))
    (a_law : PySem.W.nsIn K mainGlobals "law" = some (some (.ref f_law))) (l_law : K.lookup f_law = some ⟨oc_law, od_law, .func (PySem.W.fnOf "law" "law" (defArgs s_law) (defBody s_law) (defScope s_law) .none kV_law dc_law pm_law an_law cd_law ct_law), sl_law⟩) (c_law : PySem.W.codeIn K cd_law "law" = true) (k_law : PySem.W.keepIn K (.ref f_law) = true)
    (l_BadColumn : K.lookup f_BadColumn = some ⟨oc_BadColumn, od_BadColumn, .func (PySem.W.fnOf "__init__" "BadColumn.__init__" (defArgs s_BadColumn_init) (defBody s_BadColumn_init) (defScope s_BadColumn_init) .none kV_BadColumn dc_BadColumn pm_BadColumn an_BadColumn cd_BadColumn ct_BadColumn), sl_BadColumn⟩) (c_BadColumn : PySem.W.codeIn K cd_BadColumn "BadColumn.__init__" = true) (k_BadColumn : PySem.W.keepIn K (.ref f_BadColumn) = true)
    (i_BadColumn : PySem.W.findIn K (.ref c_BadColumn_) "__init__" = some (some (.ref f_BadColumn)))
    (l_BadRanges : K.lookup f_BadRanges = some ⟨oc_BadRanges, od_BadRanges, .func (PySem.W.fnOf "__init__" "BadRanges.__init__" (defArgs s_BadRanges_init) (defBody s_BadRanges_init) (defScope s_BadRanges_init) .none kV_BadRanges dc_BadRanges pm_BadRanges an_BadRanges cd_BadRanges ct_BadRanges), sl_BadRanges⟩) (c_BadRanges : PySem.W.codeIn K cd_BadRanges "BadRanges.__init__" = true) (k_BadRanges : PySem.W.keepIn K (.ref f_BadRanges) = true)
    (i_BadRanges : PySem.W.findIn K (.ref c_BadRanges_) "__init__" = some (some (.ref f_BadRanges)))
    (l_BadFlag : K.lookup f_BadFlag = some ⟨oc_BadFlag, od_BadFlag, .func (PySem.W.fnOf "__init__" "BadFlag.__init__" (defArgs s_BadFlag_init) (defBody s_BadFlag_init) (defScope s_BadFlag_init) .none kV_BadFlag dc_BadFlag pm_BadFlag an_BadFlag cd_BadFlag ct_BadFlag), sl_BadFlag⟩) (c_BadFlag : PySem.W.codeIn K cd_BadFlag "BadFlag.__init__" = true) (k_BadFlag : PySem.W.keepIn K (.ref f_BadFlag) = true)
    (i_BadFlag : PySem.W.findIn K (.ref c_BadFlag_) "__init__" = some (some (.ref f_BadFlag)))
    (l_Condition : K.lookup f_Condition = some ⟨oc_Condition, od_Condition, .func (PySem.W.fnOf "__init__" "Condition.__init__" (defArgs s_Condition_init) (defBody s_Condition_init) (defScope s_Condition_init) .none kV_Condition dc_Condition pm_Condition an_Condition cd_Condition ct_Condition), sl_Condition⟩) (c_Condition : PySem.W.codeIn K cd_Condition "Condition.__init__" = true) (k_Condition : PySem.W.keepIn K (.ref f_Condition) = true)
    (i_Condition : PySem.W.findIn K (.ref c_Condition_) "__init__" = some (some (.ref f_Condition)))
    (g_FactsError : PySem.W.nsIn K mainGlobals "FactsError" = some (some (.ref c_FactsError_)))
    (g_BadColumn : PySem.W.nsIn K mainGlobals "BadColumn" = some (some (.ref c_BadColumn_)))
    (g_BadRanges : PySem.W.nsIn K mainGlobals "BadRanges" = some (some (.ref c_BadRanges_)))
    (g_BadFlag : PySem.W.nsIn K mainGlobals "BadFlag" = some (some (.ref c_BadFlag_)))
    (g_NoColumn : PySem.W.nsIn K mainGlobals "NoColumn" = some (some (.ref c_NoColumn_)))
    (g_Twice : PySem.W.nsIn K mainGlobals "Twice" = some (some (.ref c_Twice_)))
    (g_TooMany : PySem.W.nsIn K mainGlobals "TooMany" = some (some (.ref c_TooMany_)))
    (g_Question : PySem.W.nsIn K mainGlobals "Question" = some (some (.ref c_Question_)))
    (g_Condition : PySem.W.nsIn K mainGlobals "Condition" = some (some (.ref c_Condition_)))
    (g_Joined : PySem.W.nsIn K mainGlobals "Joined" = some (some (.ref c_Joined_)))
    (o_BadColumn : K.lookup c_BadColumn_ = some (excClassObj nm_BadColumn q_BadColumn c_BadColumn_ N_BadColumn bs_BadColumn bm_BadColumn true sn_BadColumn sub_BadColumn ab_BadColumn col_BadColumn dd_BadColumn x0_BadColumn x1_BadColumn x2_BadColumn x3_BadColumn x5_BadColumn "ValueError.__new__"))
    (r_BadColumn : PySem.HandSPX.refsVE bm_BadColumn = true)
    (sa_BadColumn : PySem.W.findIn K (.ref c_BadColumn_) "__setattr__" = some (some (.builtin "object.__setattr__")))
    (ex_BadColumn : PySem.W.subIn K (.ref c_BadColumn_) (.type "BaseException") = some true)
    (ty_BadColumn : PySem.W.typeIn K (.ref c_BadColumn_) = some (.type "type"))
    (kc_BadColumn : PySem.W.keepIn K (.ref c_BadColumn_) = true)
    (ga_BadColumn : PySem.W.findIn K (.ref c_BadColumn_) "__getattribute__" = some (some (.builtin "BaseException.__getattribute__")))
    (gg_BadColumn : PySem.W.findIn K (.ref c_BadColumn_) "__getattr__" = some none)
    (hd_BadColumn : PySem.W.hasDictIn K c_BadColumn_ = true)
    (ca_BadColumn : PySem.W.findIn K (.ref c_BadColumn_) "__class__" = some (some (.builtin "object.__class__")))
    (mr_BadColumn : PySem.W.mroIn K c_BadColumn_ (.type "object") = some true)
    (no_BadColumn : PySem.W.findIn K (.ref c_BadColumn_) "value" = some none)
    (t_BadColumn : PySem.W.typeIn K (.ref f_BadColumn) = some (.type "function"))
    (em_BadColumn : PySem.W.exmOne K (.ref c_BadColumn_) (.ref c_FactsError_) = some true)
    (o_BadRanges : K.lookup c_BadRanges_ = some (excClassObj nm_BadRanges q_BadRanges c_BadRanges_ N_BadRanges bs_BadRanges bm_BadRanges true sn_BadRanges sub_BadRanges ab_BadRanges col_BadRanges dd_BadRanges x0_BadRanges x1_BadRanges x2_BadRanges x3_BadRanges x5_BadRanges "ValueError.__new__"))
    (r_BadRanges : PySem.HandSPX.refsVE bm_BadRanges = true)
    (sa_BadRanges : PySem.W.findIn K (.ref c_BadRanges_) "__setattr__" = some (some (.builtin "object.__setattr__")))
    (ex_BadRanges : PySem.W.subIn K (.ref c_BadRanges_) (.type "BaseException") = some true)
    (ty_BadRanges : PySem.W.typeIn K (.ref c_BadRanges_) = some (.type "type"))
    (kc_BadRanges : PySem.W.keepIn K (.ref c_BadRanges_) = true)
    (ga_BadRanges : PySem.W.findIn K (.ref c_BadRanges_) "__getattribute__" = some (some (.builtin "BaseException.__getattribute__")))
    (gg_BadRanges : PySem.W.findIn K (.ref c_BadRanges_) "__getattr__" = some none)
    (hd_BadRanges : PySem.W.hasDictIn K c_BadRanges_ = true)
    (ca_BadRanges : PySem.W.findIn K (.ref c_BadRanges_) "__class__" = some (some (.builtin "object.__class__")))
    (mr_BadRanges : PySem.W.mroIn K c_BadRanges_ (.type "object") = some true)
    (no_BadRanges : PySem.W.findIn K (.ref c_BadRanges_) "value" = some none)
    (t_BadRanges : PySem.W.typeIn K (.ref f_BadRanges) = some (.type "function"))
    (em_BadRanges : PySem.W.exmOne K (.ref c_BadRanges_) (.ref c_FactsError_) = some true)
    (o_BadFlag : K.lookup c_BadFlag_ = some (excClassObj nm_BadFlag q_BadFlag c_BadFlag_ N_BadFlag bs_BadFlag bm_BadFlag true sn_BadFlag sub_BadFlag ab_BadFlag col_BadFlag dd_BadFlag x0_BadFlag x1_BadFlag x2_BadFlag x3_BadFlag x5_BadFlag "ValueError.__new__"))
    (r_BadFlag : PySem.HandSPX.refsVE bm_BadFlag = true)
    (sa_BadFlag : PySem.W.findIn K (.ref c_BadFlag_) "__setattr__" = some (some (.builtin "object.__setattr__")))
    (ex_BadFlag : PySem.W.subIn K (.ref c_BadFlag_) (.type "BaseException") = some true)
    (ty_BadFlag : PySem.W.typeIn K (.ref c_BadFlag_) = some (.type "type"))
    (kc_BadFlag : PySem.W.keepIn K (.ref c_BadFlag_) = true)
    (ga_BadFlag : PySem.W.findIn K (.ref c_BadFlag_) "__getattribute__" = some (some (.builtin "BaseException.__getattribute__")))
    (gg_BadFlag : PySem.W.findIn K (.ref c_BadFlag_) "__getattr__" = some none)
    (hd_BadFlag : PySem.W.hasDictIn K c_BadFlag_ = true)
    (ca_BadFlag : PySem.W.findIn K (.ref c_BadFlag_) "__class__" = some (some (.builtin "object.__class__")))
    (mr_BadFlag : PySem.W.mroIn K c_BadFlag_ (.type "object") = some true)
    (no_BadFlag : PySem.W.findIn K (.ref c_BadFlag_) "value" = some none)
    (t_BadFlag : PySem.W.typeIn K (.ref f_BadFlag) = some (.type "function"))
    (em_BadFlag : PySem.W.exmOne K (.ref c_BadFlag_) (.ref c_FactsError_) = some true)
    (cn : PySem.W.specialIn K (.builtin "object.__class__") "__get__" = some (some (.builtin "getset_descriptor.__get__")))
    (ctk : PySem.W.takesIn K (.builtin "object.__class__") = some true)
    (kit_BadColumn_BadColumn : PySem.W.kitOne K (.ref c_BadColumn_) (.ref c_BadColumn_) = some true)
    (kit_BadRanges_BadColumn : PySem.W.kitOne K (.ref c_BadRanges_) (.ref c_BadColumn_) = some false)
    (kit_BadRanges_BadRanges : PySem.W.kitOne K (.ref c_BadRanges_) (.ref c_BadRanges_) = some true)
    (kit_BadFlag_BadColumn : PySem.W.kitOne K (.ref c_BadFlag_) (.ref c_BadColumn_) = some false)
    (kit_BadFlag_BadRanges : PySem.W.kitOne K (.ref c_BadFlag_) (.ref c_BadRanges_) = some false)
    (kit_BadFlag_BadFlag : PySem.W.kitOne K (.ref c_BadFlag_) (.ref c_BadFlag_) = some true)
    (cc_pg : PySem.W.plainGet K c_Condition_ Str.empty = true)
    (cc_hd : PySem.W.hasDictIn K c_Condition_ = true)
    (cc_po : PySem.W.plainOver K c_Condition_ = true)
    (cc_sa : PySem.W.findIn K (.ref c_Condition_) "__setattr__" = some (some (.builtin "object.__setattr__")))
    (cc_column : PySem.W.findIn K (.ref c_Condition_) "column" = some none)
    (cc_ranges : PySem.W.findIn K (.ref c_Condition_) "ranges" = some none)
    (cc_missing : PySem.W.findIn K (.ref c_Condition_) "missing" = some none)
    (cc_columns : PySem.W.findIn K (.ref c_Condition_) "columns" = some none)
    (cc_string : PySem.W.findIn K (.ref c_Condition_) "string" = some none)
    (mk_makes : PySem.W.makesIn K c_Condition_ = true)
    (mk_fn : PySem.W.isFn K (.ref f_Condition) = true)
    (mk_kp : PySem.W.keepIn K (.ref c_Condition_) = true)
    (z_ValueError : PySem.W.nsIn K mainGlobals "ValueError" = some none)
    (z_abs : PySem.W.nsIn K mainGlobals "abs" = some none)
    (z_all : PySem.W.nsIn K mainGlobals "all" = some none)
    (z_any : PySem.W.nsIn K mainGlobals "any" = some none)
    (z_bool : PySem.W.nsIn K mainGlobals "bool" = some none)
    (z_int : PySem.W.nsIn K mainGlobals "int" = some none)
    (z_isinstance : PySem.W.nsIn K mainGlobals "isinstance" = some none)
    (z_len : PySem.W.nsIn K mainGlobals "len" = some none)
    (z_max : PySem.W.nsIn K mainGlobals "max" = some none)
    (z_min : PySem.W.nsIn K mainGlobals "min" = some none)
    (z_range : PySem.W.nsIn K mainGlobals "range" = some none)
    (z_repr : PySem.W.nsIn K mainGlobals "repr" = some none)
    (z_sorted : PySem.W.nsIn K mainGlobals "sorted" = some none)
    (z_str : PySem.W.nsIn K mainGlobals "str" = some none)
    (z_tuple : PySem.W.nsIn K mainGlobals "tuple" = some none)
    (z_zip : PySem.W.nsIn K mainGlobals "zip" = some none)
    (v_LOWEST : PySem.W.nsIn K mainGlobals "LOWEST" = some (some (.int (-9999) tk_LOWEST)))
    (v_HIGHEST : PySem.W.nsIn K mainGlobals "HIGHEST" = some (some (.int (9999) tk_HIGHEST)))
    (v_MOST_LETTERS : PySem.W.nsIn K mainGlobals "MOST_LETTERS" = some (some (.int (8) tk_MOST_LETTERS)))
    (v_LETTERS : PySem.W.nsIn K mainGlobals "LETTERS" = some (some (.str "abcdefghijklmnopqrstuvwxyz" tk_LETTERS)))
    (v_MOST_COLUMNS : PySem.W.nsIn K mainGlobals "MOST_COLUMNS" = some (some (.int (8) tk_MOST_COLUMNS)))
    (v_MOST_PAIRS : PySem.W.nsIn K mainGlobals "MOST_PAIRS" = some (some (.int (4) tk_MOST_PAIRS))) :
    ∃ fd : FuncData, (∀ (s : Shared) (v : Value), BindsTo s fd ⟨[v], []⟩ [("_law_script", v)]) ∧ ∀ base : Heap, K.In base → base.Ns mainGlobals mg → (∀ z ∈ [(c, A)], TabB base mg z.1 z.2) → FnG l.prog w K mg base 9 fa fd ["_law_script"] (sp_law [(c, A)] K) := by
  have e := hfa.symm.trans (PySem.W.mg_of X G a_law)
  cases e
  have b_is_number := (fun_mk (st := s_is_number) l_is_number c_is_number k_is_number).binds (ps := ["value"]) fun _ _ _ _ _ _ us hl => match us, hl with | [_], _ => rfl
  have b_is_column := (fun_mk (st := s_is_column) l_is_column c_is_column k_is_column).binds (ps := ["value"]) fun _ _ _ _ _ _ us hl => match us, hl with | [_], _ => rfl
  have b_consists_of := (fun_mk (st := s_consists_of) l_consists_of c_consists_of k_consists_of).binds (ps := ["word", "characters"]) fun _ _ _ _ _ _ us hl => match us, hl with | [_, _], _ => rfl
  have b_is_ranges := (fun_mk (st := s_is_ranges) l_is_ranges c_is_ranges k_is_ranges).binds (ps := ["value"]) fun _ _ _ _ _ _ us hl => match us, hl with | [_], _ => rfl
  have b_is_pair := (fun_mk (st := s_is_pair) l_is_pair c_is_pair k_is_pair).binds (ps := ["value"]) fun _ _ _ _ _ _ us hl => match us, hl with | [_], _ => rfl
  have b_condition_string := (fun_mk (st := s_condition_string) l_condition_string c_condition_string k_condition_string).binds (ps := ["column", "ranges", "missing"]) fun _ _ _ _ _ _ us hl => match us, hl with | [_, _, _], _ => rfl
  have b_fits_condition := (fun_mk (st := s_fits_condition) l_fits_condition c_fits_condition k_fits_condition).binds (ps := ["ranges"]) fun _ _ _ _ _ _ us hl => match us, hl with | [_], _ => rfl
  have b__law_pot := (fun_mk (st := s__law_pot) l__law_pot c__law_pot k__law_pot).binds (ps := ["_law_script", "_law_k"]) fun _ _ _ _ _ _ us hl => match us, hl with | [_, _], _ => rfl
  have b__law_draw := (fun_mk (st := s__law_draw) l__law_draw c__law_draw k__law_draw).binds (ps := ["_law_pot_here", "_law_many"]) fun _ _ _ _ _ _ us hl => match us, hl with | [_, _], _ => rfl
  have b__law_any := (fun_mk (st := s__law_any) l__law_any c__law_any k__law_any).binds (ps := ["_law_pot_here", "_law_items"]) fun _ _ _ _ _ _ us hl => match us, hl with | [_, _], _ => rfl
  have b__law_odd := (fun_mk (st := s__law_odd) l__law_odd c__law_odd k__law_odd).binds (ps := ["_law_pot_here"]) fun _ _ _ _ _ _ us hl => match us, hl with | [_], _ => rfl
  have b__law_spans := (fun_mk (st := s__law_spans) l__law_spans c__law_spans k__law_spans).binds (ps := ["_law_pot_here", "_law_most", "_law_low", "_law_high"]) fun _ _ _ _ _ _ us hl => match us, hl with | [_, _, _, _], _ => rfl
  have b__law_is_integer := (fun_mk (st := s__law_is_integer) l__law_is_integer c__law_is_integer k__law_is_integer).binds (ps := ["_law_thing"]) fun _ _ _ _ _ _ us hl => match us, hl with | [_], _ => rfl
  have b__law_is_set := (fun_mk (st := s__law_is_set) l__law_is_set c__law_is_set k__law_is_set).binds (ps := ["_law_thing"]) fun _ _ _ _ _ _ us hl => match us, hl with | [_], _ => rfl
  have b__law_is_name := (fun_mk (st := s__law_is_name) l__law_is_name c__law_is_name k__law_is_name).binds (ps := ["_law_thing"]) fun _ _ _ _ _ _ us hl => match us, hl with | [_], _ => rfl
  have b__law_con_text := (fun_mk (st := s__law_con_text) l__law_con_text c__law_con_text k__law_con_text).binds (ps := ["_law_tree"]) fun _ _ _ _ _ _ us hl => match us, hl with | [_], _ => rfl
  have b__law_met := (fun_mk (st := s__law_met) l__law_met c__law_met k__law_met).binds (ps := ["_law_call"]) fun _ _ _ _ _ _ us hl => match us, hl with | [_], _ => rfl
  have b__law_three := (fun_mk (st := s__law_three) l__law_three c__law_three k__law_three).binds (ps := ["_law_pot_here"]) fun _ _ _ _ _ _ us hl => match us, hl with | [_], _ => rfl
  have b__law_due := (fun_mk (st := s__law_due) l__law_due c__law_due k__law_due).binds (ps := ["_law_name", "_law_spans_here", "_law_bare"]) fun _ _ _ _ _ _ us hl => match us, hl with | [_, _, _], _ => rfl
  have b__law_shown := (fun_mk (st := s__law_shown) l__law_shown c__law_shown k__law_shown).binds (ps := ["_law_told", "_law_name"]) fun _ _ _ _ _ _ us hl => match us, hl with | [_, _], _ => rfl
  have b__law_right := (fun_mk (st := s__law_right) l__law_right c__law_right k__law_right).binds (ps := ["_law_pot_here"]) fun _ _ _ _ _ _ us hl => match us, hl with | [_], _ => rfl
  have b_BadColumn := (fun_mk (st := s_BadColumn_init) l_BadColumn c_BadColumn k_BadColumn).binds (ps := ["self", "value"]) fun _ _ _ _ _ _ us hl => match us, hl with | [_, _], _ => rfl
  have b_BadRanges := (fun_mk (st := s_BadRanges_init) l_BadRanges c_BadRanges k_BadRanges).binds (ps := ["self", "value"]) fun _ _ _ _ _ _ us hl => match us, hl with | [_, _], _ => rfl
  have b_BadFlag := (fun_mk (st := s_BadFlag_init) l_BadFlag c_BadFlag k_BadFlag).binds (ps := ["self", "value"]) fun _ _ _ _ _ _ us hl => match us, hl with | [_, _], _ => rfl
  have b_Condition := (fun_mk (st := s_Condition_init) l_Condition c_Condition k_Condition).binds (ps := ["self", "column", "ranges", "missing"]) fun _ _ _ _ _ _ us hl => match us, hl with | [_, _, _, _], _ => rfl
  exact ⟨PySem.W.fnOf "law" "law" (defArgs s_law) (defBody s_law) (defScope s_law) .none kV_law dc_law pm_law an_law cd_law ct_law, fun s v => .of_eq rfl, fun base _ _ tb =>
    all_ok (cl := ⟨c_FactsError_, c_BadColumn_, c_BadRanges_, c_BadFlag_, c_NoColumn_, c_Twice_, c_TooMany_, c_Question_, c_Condition_, c_Joined_⟩) ⟨PySem.W.mg_none_of X G z_ValueError, PySem.W.mg_none_of X G z_abs, PySem.W.mg_none_of X G z_all, PySem.W.mg_none_of X G z_any, PySem.W.mg_none_of X G z_bool, PySem.W.mg_none_of X G z_int, PySem.W.mg_none_of X G z_isinstance, PySem.W.mg_none_of X G z_len, PySem.W.mg_none_of X G z_max, PySem.W.mg_none_of X G z_min, PySem.W.mg_none_of X G z_range, PySem.W.mg_none_of X G z_repr, PySem.W.mg_none_of X G z_sorted, PySem.W.mg_none_of X G z_str, PySem.W.mg_none_of X G z_tuple, PySem.W.mg_none_of X G z_zip, ⟨_, (PySem.W.mg_of X G v_LOWEST), ⟨_, rfl⟩⟩, ⟨_, (PySem.W.mg_of X G v_HIGHEST), ⟨_, rfl⟩⟩, ⟨_, (PySem.W.mg_of X G v_MOST_LETTERS), ⟨_, rfl⟩⟩, ⟨_, (PySem.W.mg_of X G v_LETTERS), ⟨_, rfl⟩⟩, ⟨_, (PySem.W.mg_of X G v_MOST_COLUMNS), ⟨_, rfl⟩⟩, ⟨_, (PySem.W.mg_of X G v_MOST_PAIRS), ⟨_, rfl⟩⟩⟩ ⟨(PySem.W.mg_of X G g_FactsError), (PySem.W.mg_of X G g_BadColumn), (PySem.W.mg_of X G g_BadRanges), (PySem.W.mg_of X G g_BadFlag), (PySem.W.mg_of X G g_NoColumn), (PySem.W.mg_of X G g_Twice), (PySem.W.mg_of X G g_TooMany), (PySem.W.mg_of X G g_Question), (PySem.W.mg_of X G g_Condition), (PySem.W.mg_of X G g_Joined)⟩ ⟨⟨ga_BadColumn, gg_BadColumn, ex_BadColumn, hd_BadColumn, ca_BadColumn, cn, ctk, mr_BadColumn⟩, ⟨ga_BadRanges, gg_BadRanges, ex_BadRanges, hd_BadRanges, ca_BadRanges, cn, ctk, mr_BadRanges⟩, ⟨ga_BadFlag, gg_BadFlag, ex_BadFlag, hd_BadFlag, ca_BadFlag, cn, ctk, mr_BadFlag⟩, ⟨ga_BadColumn, gg_BadColumn, ex_BadColumn, hd_BadColumn⟩, ⟨ga_BadRanges, gg_BadRanges, ex_BadRanges, hd_BadRanges⟩, ⟨ga_BadFlag, gg_BadFlag, ex_BadFlag, hd_BadFlag⟩, no_BadColumn, no_BadRanges, no_BadFlag, em_BadColumn, em_BadRanges, em_BadFlag, kit_BadColumn_BadColumn, kit_BadRanges_BadColumn, kit_BadRanges_BadRanges, kit_BadFlag_BadColumn, kit_BadFlag_BadRanges, kit_BadFlag_BadFlag⟩ (fun_mk (st := s_law) l_law c_law k_law) (fun_mk (st := s_is_number) l_is_number c_is_number k_is_number) b_is_number (PySem.W.mg_of X G a_is_number)
      (fun_mk (st := s_is_column) l_is_column c_is_column k_is_column) b_is_column (PySem.W.mg_of X G a_is_column)
      (fun_mk (st := s_consists_of) l_consists_of c_consists_of k_consists_of) b_consists_of (PySem.W.mg_of X G a_consists_of)
      (fun_mk (st := s_is_ranges) l_is_ranges c_is_ranges k_is_ranges) b_is_ranges (PySem.W.mg_of X G a_is_ranges)
      (fun_mk (st := s_is_pair) l_is_pair c_is_pair k_is_pair) b_is_pair (PySem.W.mg_of X G a_is_pair)
      (fun_mk (st := s_condition_string) l_condition_string c_condition_string k_condition_string) b_condition_string (PySem.W.mg_of X G a_condition_string)
      (fun_mk (st := s_fits_condition) l_fits_condition c_fits_condition k_fits_condition) b_fits_condition (PySem.W.mg_of X G a_fits_condition)
      (fun_mk (st := s__law_pot) l__law_pot c__law_pot k__law_pot) b__law_pot (PySem.W.mg_of X G a__law_pot)
      (fun_mk (st := s__law_draw) l__law_draw c__law_draw k__law_draw) b__law_draw (PySem.W.mg_of X G a__law_draw)
      (fun_mk (st := s__law_any) l__law_any c__law_any k__law_any) b__law_any (PySem.W.mg_of X G a__law_any)
      (fun_mk (st := s__law_odd) l__law_odd c__law_odd k__law_odd) b__law_odd (PySem.W.mg_of X G a__law_odd)
      (fun_mk (st := s__law_spans) l__law_spans c__law_spans k__law_spans) b__law_spans (PySem.W.mg_of X G a__law_spans)
      (fun_mk (st := s__law_is_integer) l__law_is_integer c__law_is_integer k__law_is_integer) b__law_is_integer (PySem.W.mg_of X G a__law_is_integer)
      (fun_mk (st := s__law_is_set) l__law_is_set c__law_is_set k__law_is_set) b__law_is_set (PySem.W.mg_of X G a__law_is_set)
      (fun_mk (st := s__law_is_name) l__law_is_name c__law_is_name k__law_is_name) b__law_is_name (PySem.W.mg_of X G a__law_is_name)
      (fun_mk (st := s__law_con_text) l__law_con_text c__law_con_text k__law_con_text) b__law_con_text (PySem.W.mg_of X G a__law_con_text)
      (fun_mk (st := s__law_met) l__law_met c__law_met k__law_met) b__law_met (PySem.W.mg_of X G a__law_met)
      (fun_mk (st := s__law_three) l__law_three c__law_three k__law_three) b__law_three (PySem.W.mg_of X G a__law_three)
      (fun_mk (st := s__law_due) l__law_due c__law_due k__law_due) b__law_due (PySem.W.mg_of X G a__law_due)
      (fun_mk (st := s__law_shown) l__law_shown c__law_shown k__law_shown) b__law_shown (PySem.W.mg_of X G a__law_shown)
      (fun_mk (st := s__law_right) l__law_right c__law_right k__law_right) b__law_right (PySem.W.mg_of X G a__law_right)
      (fun_mk (st := s_where) l_where c_where k_where) (PySem.W.mg_of X G a_where) (kb_where1 (fun_mk (st := s_where) l_where c_where k_where)) (kb_where2 (fun_mk (st := s_where) l_where c_where k_where)) (kb_where3 l_where dflt)
      (fun_mk (st := s_BadColumn_init) l_BadColumn c_BadColumn k_BadColumn) b_BadColumn ⟨⟨_, _, _, _, _, _, _, _, _, _, _, _, _, _, _, o_BadColumn, r_BadColumn⟩, sa_BadColumn, ex_BadColumn, ty_BadColumn, kc_BadColumn⟩ no_BadColumn i_BadColumn t_BadColumn
      (fun_mk (st := s_BadRanges_init) l_BadRanges c_BadRanges k_BadRanges) b_BadRanges ⟨⟨_, _, _, _, _, _, _, _, _, _, _, _, _, _, _, o_BadRanges, r_BadRanges⟩, sa_BadRanges, ex_BadRanges, ty_BadRanges, kc_BadRanges⟩ no_BadRanges i_BadRanges t_BadRanges
      (fun_mk (st := s_BadFlag_init) l_BadFlag c_BadFlag k_BadFlag) b_BadFlag ⟨⟨_, _, _, _, _, _, _, _, _, _, _, _, _, _, _, o_BadFlag, r_BadFlag⟩, sa_BadFlag, ex_BadFlag, ty_BadFlag, kc_BadFlag⟩ no_BadFlag i_BadFlag t_BadFlag
      (fun_mk (st := s_Condition_init) l_Condition c_Condition k_Condition) b_Condition ⟨mk_makes, i_Condition, mk_fn, mk_kp⟩ ⟨⟨cc_pg, cc_hd, cc_po, cc_sa⟩, cc_column, cc_ranges, cc_missing, cc_columns, cc_string⟩ rfl (tb _ List.mem_cons_self)⟩
end Pf
open PySem PySem.W PyProof.Rows
set_option maxHeartbeats 0 in
theorem PySem.Challenge.cw_piecefacts_k05_conditions_of_any_values_holds : PySem.Challenge.rw_piecefacts_k05_conditions_of_any_values.Holds := by
  w_on; o_law; k_head; (case hw => w_witness2)
  k_fill
  refine Pf.walkT (l := PySem.Challenge.rw_piecefacts_k05_conditions_of_any_values) (k := 9) (x := "_law_script") (sp := Pf.sp_law) rfl rfl ⟨rfl, by decide, by decide⟩ (fun w h Y => PySem.W.km_in_of Y) ?F (fun K cs H a ns hl hT hS => ?goal)
  case F =>
    intro w mg fa h Y KX G hmg
    refine' Pf.fin_mk ?made ?tab ?code ?no
    case tab => exact PySem.W.km_tabs_of Y _ List.mem_cons_self
    case made =>
      refine' Pf.all_mk hmg KX G ?a_is_number ?l_is_number ?c_is_number ?k_is_number ?a_is_column ?l_is_column ?c_is_column ?k_is_column ?a_consists_of ?l_consists_of ?c_consists_of ?k_consists_of ?a_is_ranges ?l_is_ranges ?c_is_ranges ?k_is_ranges ?a_is_pair ?l_is_pair ?c_is_pair ?k_is_pair ?a_condition_string ?l_condition_string ?c_condition_string ?k_condition_string ?a_fits_condition ?l_fits_condition ?c_fits_condition ?k_fits_condition ?a__law_pot ?l__law_pot ?c__law_pot ?k__law_pot ?a__law_draw ?l__law_draw ?c__law_draw ?k__law_draw ?a__law_any ?l__law_any ?c__law_any ?k__law_any ?a__law_odd ?l__law_odd ?c__law_odd ?k__law_odd ?a__law_spans ?l__law_spans ?c__law_spans ?k__law_spans ?a__law_is_integer ?l__law_is_integer ?c__law_is_integer ?k__law_is_integer ?a__law_is_set ?l__law_is_set ?c__law_is_set ?k__law_is_set ?a__law_is_name ?l__law_is_name ?c__law_is_name ?k__law_is_name ?a__law_con_text ?l__law_con_text ?c__law_con_text ?k__law_con_text ?a__law_met ?l__law_met ?c__law_met ?k__law_met ?a__law_three ?l__law_three ?c__law_three ?k__law_three ?a__law_due ?l__law_due ?c__law_due ?k__law_due ?a__law_shown ?l__law_shown ?c__law_shown ?k__law_shown ?a__law_right ?l__law_right ?c__law_right ?k__law_right ?a_where ?l_where ?c_where ?k_where ?dflt ?a_law ?l_law ?c_law ?k_law ?l_BadColumn ?c_BadColumn ?k_BadColumn ?i_BadColumn ?l_BadRanges ?c_BadRanges ?k_BadRanges ?i_BadRanges ?l_BadFlag ?c_BadFlag ?k_BadFlag ?i_BadFlag ?l_Condition ?c_Condition ?k_Condition ?i_Condition ?g_FactsError ?g_BadColumn ?g_BadRanges ?g_BadFlag ?g_NoColumn ?g_Twice ?g_TooMany ?g_Question ?g_Condition ?g_Joined ?o_BadColumn ?r_BadColumn ?sa_BadColumn ?ex_BadColumn ?ty_BadColumn ?kc_BadColumn ?ga_BadColumn ?gg_BadColumn ?hd_BadColumn ?ca_BadColumn ?mr_BadColumn ?no_BadColumn ?t_BadColumn ?em_BadColumn ?o_BadRanges ?r_BadRanges ?sa_BadRanges ?ex_BadRanges ?ty_BadRanges ?kc_BadRanges ?ga_BadRanges ?gg_BadRanges ?hd_BadRanges ?ca_BadRanges ?mr_BadRanges ?no_BadRanges ?t_BadRanges ?em_BadRanges ?o_BadFlag ?r_BadFlag ?sa_BadFlag ?ex_BadFlag ?ty_BadFlag ?kc_BadFlag ?ga_BadFlag ?gg_BadFlag ?hd_BadFlag ?ca_BadFlag ?mr_BadFlag ?no_BadFlag ?t_BadFlag ?em_BadFlag ?cn ?ctk ?kit_BadColumn_BadColumn ?kit_BadRanges_BadColumn ?kit_BadRanges_BadRanges ?kit_BadFlag_BadColumn ?kit_BadFlag_BadRanges ?kit_BadFlag_BadFlag ?cc_pg ?cc_hd ?cc_po ?cc_sa ?cc_column ?cc_ranges ?cc_missing ?cc_columns ?cc_string ?mk_makes ?mk_fn ?mk_kp ?z_ValueError ?z_abs ?z_all ?z_any ?z_bool ?z_int ?z_isinstance ?z_len ?z_max ?z_min ?z_range ?z_repr ?z_sorted ?z_str ?z_tuple ?z_zip ?v_LOWEST ?v_HIGHEST ?v_MOST_LETTERS ?v_LETTERS ?v_MOST_COLUMNS ?v_MOST_PAIRS
      (case a_is_number => first | k_is | kit_is | kts_exm); (case a_is_column => first | k_is | kit_is | kts_exm); (case a_consists_of => first | k_is | kit_is | kts_exm); (case a_is_ranges => first | k_is | kit_is | kts_exm); (case a_is_pair => first | k_is | kit_is | kts_exm); (case a_condition_string => first | k_is | kit_is | kts_exm); (case a_fits_condition => first | k_is | kit_is | kts_exm); (case a__law_pot => first | k_is | kit_is | kts_exm); (case a__law_draw => first | k_is | kit_is | kts_exm); (case a__law_any => first | k_is | kit_is | kts_exm); (case a__law_odd => first | k_is | kit_is | kts_exm); (case a__law_spans => first | k_is | kit_is | kts_exm); (case a__law_is_integer => first | k_is | kit_is | kts_exm); (case a__law_is_set => first | k_is | kit_is | kts_exm); (case a__law_is_name => first | k_is | kit_is | kts_exm); (case a__law_con_text => first | k_is | kit_is | kts_exm); (case a__law_met => first | k_is | kit_is | kts_exm); (case a__law_three => first | k_is | kit_is | kts_exm); (case a__law_due => first | k_is | kit_is | kts_exm); (case a__law_shown => first | k_is | kit_is | kts_exm); (case a__law_right => first | k_is | kit_is | kts_exm); (case a_where => first | k_is | kit_is | kts_exm); (case a_law => first | k_is | kit_is | kts_exm); (case g_FactsError => first | k_is | kit_is | kts_exm); (case g_BadColumn => first | k_is | kit_is | kts_exm); (case g_BadRanges => first | k_is | kit_is | kts_exm); (case g_BadFlag => first | k_is | kit_is | kts_exm); (case g_NoColumn => first | k_is | kit_is | kts_exm); (case g_Twice => first | k_is | kit_is | kts_exm); (case g_TooMany => first | k_is | kit_is | kts_exm); (case g_Question => first | k_is | kit_is | kts_exm); (case g_Condition => first | k_is | kit_is | kts_exm); (case g_Joined => first | k_is | kit_is | kts_exm); (case i_BadColumn => first | k_is | kit_is | kts_exm); (case i_BadRanges => first | k_is | kit_is | kts_exm); (case i_BadFlag => first | k_is | kit_is | kts_exm); (case i_Condition => first | k_is | kit_is | kts_exm); (case l_is_number => first | k_is | kit_is | kts_exm); (case c_is_number => first | k_is | kit_is | kts_exm); (case k_is_number => first | k_is | kit_is | kts_exm); (case l_is_column => first | k_is | kit_is | kts_exm); (case c_is_column => first | k_is | kit_is | kts_exm); (case k_is_column => first | k_is | kit_is | kts_exm); (case l_consists_of => first | k_is | kit_is | kts_exm); (case c_consists_of => first | k_is | kit_is | kts_exm); (case k_consists_of => first | k_is | kit_is | kts_exm); (case l_is_ranges => first | k_is | kit_is | kts_exm); (case c_is_ranges => first | k_is | kit_is | kts_exm); (case k_is_ranges => first | k_is | kit_is | kts_exm); (case l_is_pair => first | k_is | kit_is | kts_exm); (case c_is_pair => first | k_is | kit_is | kts_exm); (case k_is_pair => first | k_is | kit_is | kts_exm); (case l_condition_string => first | k_is | kit_is | kts_exm); (case c_condition_string => first | k_is | kit_is | kts_exm); (case k_condition_string => first | k_is | kit_is | kts_exm); (case l_fits_condition => first | k_is | kit_is | kts_exm); (case c_fits_condition => first | k_is | kit_is | kts_exm); (case k_fits_condition => first | k_is | kit_is | kts_exm); (case l__law_pot => first | k_is | kit_is | kts_exm); (case c__law_pot => first | k_is | kit_is | kts_exm); (case k__law_pot => first | k_is | kit_is | kts_exm); (case l__law_draw => first | k_is | kit_is | kts_exm); (case c__law_draw => first | k_is | kit_is | kts_exm); (case k__law_draw => first | k_is | kit_is | kts_exm); (case l__law_any => first | k_is | kit_is | kts_exm); (case c__law_any => first | k_is | kit_is | kts_exm); (case k__law_any => first | k_is | kit_is | kts_exm); (case l__law_odd => first | k_is | kit_is | kts_exm); (case c__law_odd => first | k_is | kit_is | kts_exm); (case k__law_odd => first | k_is | kit_is | kts_exm); (case l__law_spans => first | k_is | kit_is | kts_exm); (case c__law_spans => first | k_is | kit_is | kts_exm); (case k__law_spans => first | k_is | kit_is | kts_exm); (case l__law_is_integer => first | k_is | kit_is | kts_exm); (case c__law_is_integer => first | k_is | kit_is | kts_exm); (case k__law_is_integer => first | k_is | kit_is | kts_exm); (case l__law_is_set => first | k_is | kit_is | kts_exm); (case c__law_is_set => first | k_is | kit_is | kts_exm); (case k__law_is_set => first | k_is | kit_is | kts_exm); (case l__law_is_name => first | k_is | kit_is | kts_exm); (case c__law_is_name => first | k_is | kit_is | kts_exm); (case k__law_is_name => first | k_is | kit_is | kts_exm); (case l__law_con_text => first | k_is | kit_is | kts_exm); (case c__law_con_text => first | k_is | kit_is | kts_exm); (case k__law_con_text => first | k_is | kit_is | kts_exm); (case l__law_met => first | k_is | kit_is | kts_exm); (case c__law_met => first | k_is | kit_is | kts_exm); (case k__law_met => first | k_is | kit_is | kts_exm); (case l__law_three => first | k_is | kit_is | kts_exm); (case c__law_three => first | k_is | kit_is | kts_exm); (case k__law_three => first | k_is | kit_is | kts_exm); (case l__law_due => first | k_is | kit_is | kts_exm); (case c__law_due => first | k_is | kit_is | kts_exm); (case k__law_due => first | k_is | kit_is | kts_exm); (case l__law_shown => first | k_is | kit_is | kts_exm); (case c__law_shown => first | k_is | kit_is | kts_exm); (case k__law_shown => first | k_is | kit_is | kts_exm); (case l__law_right => first | k_is | kit_is | kts_exm); (case c__law_right => first | k_is | kit_is | kts_exm); (case k__law_right => first | k_is | kit_is | kts_exm); (case l_where => first | k_is | kit_is | kts_exm); (case c_where => first | k_is | kit_is | kts_exm); (case k_where => first | k_is | kit_is | kts_exm); (case dflt => first | k_is | kit_is | kts_exm); (case l_law => first | k_is | kit_is | kts_exm); (case c_law => first | k_is | kit_is | kts_exm); (case k_law => first | k_is | kit_is | kts_exm); (case l_BadColumn => first | k_is | kit_is | kts_exm); (case c_BadColumn => first | k_is | kit_is | kts_exm); (case k_BadColumn => first | k_is | kit_is | kts_exm); (case l_BadRanges => first | k_is | kit_is | kts_exm); (case c_BadRanges => first | k_is | kit_is | kts_exm); (case k_BadRanges => first | k_is | kit_is | kts_exm); (case l_BadFlag => first | k_is | kit_is | kts_exm); (case c_BadFlag => first | k_is | kit_is | kts_exm); (case k_BadFlag => first | k_is | kit_is | kts_exm); (case l_Condition => first | k_is | kit_is | kts_exm); (case c_Condition => first | k_is | kit_is | kts_exm); (case k_Condition => first | k_is | kit_is | kts_exm); (case o_BadColumn => first | k_is | kit_is | kts_exm); (case sa_BadColumn => first | k_is | kit_is | kts_exm); (case ex_BadColumn => first | k_is | kit_is | kts_exm); (case ty_BadColumn => first | k_is | kit_is | kts_exm); (case kc_BadColumn => first | k_is | kit_is | kts_exm); (case ga_BadColumn => first | k_is | kit_is | kts_exm); (case gg_BadColumn => first | k_is | kit_is | kts_exm); (case hd_BadColumn => first | k_is | kit_is | kts_exm); (case ca_BadColumn => first | k_is | kit_is | kts_exm); (case mr_BadColumn => first | k_is | kit_is | kts_exm); (case no_BadColumn => first | k_is | kit_is | kts_exm); (case t_BadColumn => first | k_is | kit_is | kts_exm); (case em_BadColumn => first | k_is | kit_is | kts_exm); (case o_BadRanges => first | k_is | kit_is | kts_exm); (case sa_BadRanges => first | k_is | kit_is | kts_exm); (case ex_BadRanges => first | k_is | kit_is | kts_exm); (case ty_BadRanges => first | k_is | kit_is | kts_exm); (case kc_BadRanges => first | k_is | kit_is | kts_exm); (case ga_BadRanges => first | k_is | kit_is | kts_exm); (case gg_BadRanges => first | k_is | kit_is | kts_exm); (case hd_BadRanges => first | k_is | kit_is | kts_exm); (case ca_BadRanges => first | k_is | kit_is | kts_exm); (case mr_BadRanges => first | k_is | kit_is | kts_exm); (case no_BadRanges => first | k_is | kit_is | kts_exm); (case t_BadRanges => first | k_is | kit_is | kts_exm); (case em_BadRanges => first | k_is | kit_is | kts_exm); (case o_BadFlag => first | k_is | kit_is | kts_exm); (case sa_BadFlag => first | k_is | kit_is | kts_exm); (case ex_BadFlag => first | k_is | kit_is | kts_exm); (case ty_BadFlag => first | k_is | kit_is | kts_exm); (case kc_BadFlag => first | k_is | kit_is | kts_exm); (case ga_BadFlag => first | k_is | kit_is | kts_exm); (case gg_BadFlag => first | k_is | kit_is | kts_exm); (case hd_BadFlag => first | k_is | kit_is | kts_exm); (case ca_BadFlag => first | k_is | kit_is | kts_exm); (case mr_BadFlag => first | k_is | kit_is | kts_exm); (case no_BadFlag => first | k_is | kit_is | kts_exm); (case t_BadFlag => first | k_is | kit_is | kts_exm); (case em_BadFlag => first | k_is | kit_is | kts_exm); (case cn => first | k_is | kit_is | kts_exm); (case ctk => first | k_is | kit_is | kts_exm); (case kit_BadColumn_BadColumn => first | k_is | kit_is | kts_exm); (case kit_BadRanges_BadColumn => first | k_is | kit_is | kts_exm); (case kit_BadRanges_BadRanges => first | k_is | kit_is | kts_exm); (case kit_BadFlag_BadColumn => first | k_is | kit_is | kts_exm); (case kit_BadFlag_BadRanges => first | k_is | kit_is | kts_exm); (case kit_BadFlag_BadFlag => first | k_is | kit_is | kts_exm); (case cc_pg => first | k_is | kit_is | kts_exm); (case cc_hd => first | k_is | kit_is | kts_exm); (case cc_po => first | k_is | kit_is | kts_exm); (case cc_sa => first | k_is | kit_is | kts_exm); (case cc_column => first | k_is | kit_is | kts_exm); (case cc_ranges => first | k_is | kit_is | kts_exm); (case cc_missing => first | k_is | kit_is | kts_exm); (case cc_columns => first | k_is | kit_is | kts_exm); (case cc_string => first | k_is | kit_is | kts_exm); (case mk_makes => first | k_is | kit_is | kts_exm); (case mk_fn => first | k_is | kit_is | kts_exm); (case mk_kp => first | k_is | kit_is | kts_exm); (case z_ValueError => first | k_is | kit_is | kts_exm); (case z_abs => first | k_is | kit_is | kts_exm); (case z_all => first | k_is | kit_is | kts_exm); (case z_any => first | k_is | kit_is | kts_exm); (case z_bool => first | k_is | kit_is | kts_exm); (case z_int => first | k_is | kit_is | kts_exm); (case z_isinstance => first | k_is | kit_is | kts_exm); (case z_len => first | k_is | kit_is | kts_exm); (case z_max => first | k_is | kit_is | kts_exm); (case z_min => first | k_is | kit_is | kts_exm); (case z_range => first | k_is | kit_is | kts_exm); (case z_repr => first | k_is | kit_is | kts_exm); (case z_sorted => first | k_is | kit_is | kts_exm); (case z_str => first | k_is | kit_is | kts_exm); (case z_tuple => first | k_is | kit_is | kts_exm); (case z_zip => first | k_is | kit_is | kts_exm); (case v_LOWEST => first | k_is | kit_is | kts_exm); (case v_HIGHEST => first | k_is | kit_is | kts_exm); (case v_MOST_LETTERS => first | k_is | kit_is | kts_exm); (case v_LETTERS => first | k_is | kit_is | kts_exm); (case v_MOST_COLUMNS => first | k_is | kit_is | kts_exm); (case v_MOST_PAIRS => first | k_is | kit_is | kts_exm)
      (case r_BadColumn => kernel_rfl); (case r_BadRanges => kernel_rfl); (case r_BadFlag => kernel_rfl)
    case code => exact PySem.W.codeHd_of_K KX (by kernel_rfl)
    case no => kernel_rfl
  case goal =>
    exact ⟨a, ns, rfl, hT, hS, hl, fun _ => rfl⟩
