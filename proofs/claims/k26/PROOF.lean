import PyProof.Rows.All
import Wide.All
import OpenK.AllK
import Wide.FinOn
import HandS.ForMost
import HandS.Wide
import HandS.IsInst
import HandS.Zip
import HandS.Style
import HandS.Defaults
import HandS.TupAny
import HandS.Walk
import HandS.Star
import HandS.Flow
import HandS.SortRule
import PyProof.ReprRoads
import HandS.SortInts
import HandS.Strs
import PyProof.ZipIter
import KE.KItemsList
import KE.KDictList
import HandS.ListItems
import HandS.SortKw
import HandS.SetFor
import HandS.TupLe
import HandS.Codes
import HandS.Dict
import PySem.Challenge.RW_piecefacts_k26_candidates_of_anything
import KE.RegKIsAll
set_option Elab.async false
set_option linter.all false
set_option maxRecDepth 100000
/-! Calls where no repr is under way: the hand layer's promises of defs, with that fact carried along. -/
namespace Pf
open PySem PySem.Spec PyProof.Rows L2
/-- the promise of a def, kept wherever no repr is under way -/
structure FnG (P : Program) (w : World) (K : PySem.W.Frag) (mg : Str → Option Value) (base : Heap) (k : Nat) (f : Addr) (fd : FuncData) (ps : List Str) (sp : Sp) : Prop where
  size : ∀ vs H Q E, sp vs H Q E → vs.length = ps.length
  goes : ∀ (A : Around) (outer : List Env) (s : Shared) (H : Hp) (args : Args) (us : List Value) (vs : List V) (Q : VK) (E : XK), A.guards = some [] → Room k A →
    Env0 P w K mg base A outer s H → BindsTo s fd args (ps.zip us) → Vals vs us → sp vs H Q E → codeAny (model P w) A (.call (.ref f) args) (CR CX0 outer P w H s Q E) s
section
variable {base : Heap} {P : Program} {w : World} {mg : Str → Option Value} {K : PySem.W.Frag}
theorem FnG.up {j k : Nat} {f : Addr} {fd : FuncData} {ps : List Str} {sp : Sp} (F : FnG P w K mg base j f fd ps sp) (h : j ≤ k) : FnG P w K mg base k f fd ps sp :=
  ⟨F.size, fun A outer s H args us vs Q E hg hr => F.goes A outer s H args us vs Q E hg (hr.mono h)⟩
theorem guards_deeper {A : Around} {env : Env} (h : A.guards = some []) : (A.deeper env).guards = some [] := h
/-- a def by its body, where no repr is under way; its code object told -/
theorem okGc {x qual : Str} {st : Stmt} {f : Addr} {fd : FuncData} {N ps : List Str} {k : Nat} {sp : Sp} (F : Fun K x qual st f fd) (S : FnScope N ps (defScope st)) (hlen : ∀ vs H Q E, sp vs H Q E → vs.length = ps.length)
    (bd : ∀ (cdv : Value) (A : Around) (outer : List Env) (s : Shared) (H : Hp) (vs : List V) (Q : VK) (E : XK), fd.code = cdv → (A.deeper (envOfC qual (defScope st) s.heap.objs.size f cdv)).guards = some [] →
      Room k (A.deeper (envOfC qual (defScope st) s.heap.objs.size f cdv)) → sp vs H Q E →
      ∃ t, PSs (cxOf CX0 P w K mg base N qual (defScope st) f cdv A outer s H E).nox (defBody st) t ∧ t { nx := fun _ H' => Q .non H', rt := Q } (start N vs) H) : FnG P w K mg base (k + 1) f fd ps sp := by
  obtain ⟨_, _, _, _, _, _, cdv, _, _, hfd, lk, hcd⟩ := F.ex
  subst hfd
  constructor
  · exact hlen
  intro A outer s H args us vs Q E hg hr env0 bind rel promise
  have vsl := hlen vs H Q E promise
  have kin : K.In s.heap := env0.mod.kin.keeps (fun b o z => (env0.bs b o z).1)
  have nolim : s.heap.NoLimit := env0.mod.nolimit.keeps (fun b o z => (env0.bs b o z).1)
  obtain ⟨t, der, rd⟩ := bd cdv A outer s H vs Q E rfl (guards_deeper hg) (hr.deeper _) promise
  refine codeAny_call_function hr.depth (kin _ _ lk) rfl S.co S.gen rfl (PySem.W.codeRec_of kin hcd) (bind _ _ _ _ (wpAny_newFunctionEnv_cells S.kind ?kinds ?enter))
  case kinds =>
    rintro ⟨n, v⟩ hy
    cases S.par n (List.of_mem_zip hy).1 with
    | inl q => exact Or.inl q
    | inr q => exact Or.inr (And.intro q (PySem.W.cellsFrom_some _ _ _ (Or.inl q)))
  case enter =>
    intro env he s1 inside
    subst he
    constructor
    · exact nolim.keeps inside.toInCall.keep
    refine codeAny_func (wpAny_mono (der.nox.run [] s1 (start N vs) H _ (inv_start S hr.hd env0 vsl rel inside) rd) ?_ (fun e s' z => z))
    intro flow s' z
    match flow, z with
    | .ret u, ⟨v, σ', H', J, rv, q⟩ => exact ⟨v, H', J.os, J.bare, J.base, J.hok, rv, q⟩
    | .next, ⟨σ', H', J, q⟩ => exact ⟨V.non, H', J.os, J.bare, J.base, J.hok, rfl, q⟩
    | .brk, ⟨_, _, _, q⟩ => exact q.elim
    | .cont, ⟨_, _, _, q⟩ => exact q.elim
/-- .. its code object left open -/
theorem okG {x qual : Str} {st : Stmt} {f : Addr} {fd : FuncData} {N ps : List Str} {k : Nat} {sp : Sp} (F : Fun K x qual st f fd) (S : FnScope N ps (defScope st)) (hlen : ∀ vs H Q E, sp vs H Q E → vs.length = ps.length)
    (bd : ∀ (cdv : Value) (A : Around) (outer : List Env) (s : Shared) (H : Hp) (vs : List V) (Q : VK) (E : XK), (A.deeper (envOfC qual (defScope st) s.heap.objs.size f cdv)).guards = some [] →
      Room k (A.deeper (envOfC qual (defScope st) s.heap.objs.size f cdv)) → sp vs H Q E →
      ∃ t, PSs (cxOf CX0 P w K mg base N qual (defScope st) f cdv A outer s H E).nox (defBody st) t ∧ t { nx := fun _ H' => Q .non H', rt := Q } (start N vs) H) : FnG P w K mg base (k + 1) f fd ps sp :=
  okGc F S hlen fun cdv A outer s H vs Q E _ hg hr h => bd cdv A outer s H vs Q E hg hr h
end
/-- a def that may be called by its name -/
structure Cal (P : Program) (w : World) (K : PySem.W.Frag) (mg : Str → Option Value) (base : Heap) (k : Nat) (x : Str) (sp : Sp) : Prop where
  is : ∃ (f : Addr) (fd : FuncData) (ps : List Str), FnG P w K mg base k f fd ps sp ∧ mg x = some (.ref f) ∧ PySem.W.keepIn K (.ref f) = true ∧ Binds K fd ps []
/-- .. by keywords alone -/
structure CalK (P : Program) (w : World) (K : PySem.W.Frag) (mg : Str → Option Value) (base : Heap) (k : Nat) (x : Str) (ks : List Str) (gV : List V → List V) (sp : Sp) : Prop where
  is : ∃ (f : Addr) (fd : FuncData) (ps : List Str) (g : List Value → List Value), FnG P w K mg base k f fd ps sp ∧ mg x = some (.ref f) ∧ PySem.W.keepIn K (.ref f) = true ∧ KBn K fd ps 0 ks (fun _ ws => g ws) (fun _ zs => gV zs)
def noErr : XK := fun _ _ _ => False
def tC1 (sp : Sp) (t : TA) : TE := fun σ H Q => t σ H fun vs H1 => sp vs H1 Q noErr
def tCK (m : Nat) (sp : Sp) (gV : List V → List V) (tk : TA) : TE := fun σ H Q => tk σ H fun zs H1 => zs.length = m ∧ sp (gV zs) H1 Q noErr
section
variable {X : Cx} {j k : Nat} {x : Str} {sp : Sp} {p pos : Pos} {e : Expr} {es : List Expr} {t tk : TA} {kws : List Keyword} {ks : List Str} {gV : List V → List V}
theorem goesG {pins : List (Addr × Obj)} {σ : L2.St} {H : Hp} {s : Shared} {Q : VK} {f : Addr} {fd : FuncData} {ps : List Str} {args : Args} {us : List Value} {vs : List V} (F : FnG X.prog X.w X.K X.mg X.base k f fd ps sp) (hg : X.A.guards = some []) (hr : Room k X.A)
    (I : Inv X pins σ H s) (b : BindsTo s fd args (ps.zip us)) (r : Vals vs us) (h : sp vs H Q noErr) : wpAny (model X.prog X.w) X.A (call (.ref f) args.pos args.kw) (EP X pins σ Q) X.xe s := by
  refine wpAny_call (codeAny_mono (F.goes X.A X.stack s H args us vs Q noErr hg hr I.env0 b r h) ?_)
  intro res s' z
  match res, z with
  | .error e, z => exact pass0 pins σ H s e s' I z
  | .ok (.ret u), z => exact I.after z
  | .ok .next, z => exact z.elim
  | .ok .brk, z => exact z.elim
  | .ok .cont, z => exact z.elim
theorem pe_c (c : Cal X.prog X.w X.K X.mg X.base k x sp) (hr : X.A.guards = some [] ∧ Room j X.A) (hk : k ≤ j) (gl : Gl X x) (ha : PA X (e :: es) t)
    (hdb : (x == ("__debug__" : Str)) = false := by decide) (he : starEach (e :: es) X.env = (false, eval e X.env) :: starEach es X.env := by rfl) (hpl : (backTo pos (starEach es X.env)).any (·.1) = false := by rfl) :
    PE X (.Call (.Name x p) (e :: es) [] pos) (tC1 sp t) := by
  obtain ⟨f, fd, ps, F, hm, kp, b⟩ := c.is
  constructor
  intro pins s σ H Q I h
  have vsl := F.size
  refine Call_ (ld_glob I gl hm ?_ hdb)
  refine PySem.W.callWith_K (h₀ := X.base) I.ok.mod.kin kp ?_ he hpl
  refine thn (ha.run pos pins s σ H _ I h) fun us s1 ⟨vs, H1, I1, r, q⟩ => ⟨I1.kIn, ?_⟩
  have hl : us.length = ps.length := by rw [← r.length]; exact vsl _ _ _ _ q
  have bb := b s1 us I1.kIn (by rw [List.append_nil]; exact hl)
  rw [List.append_nil] at bb
  exact goesG F hr.1 (hr.2.mono hk) I1 bb r q
theorem pe_cK0 (c : CalK X.prog X.w X.K X.mg X.base k x ks gV sp) (hr : X.A.guards = some [] ∧ Room j X.A) (hk : k ≤ j) (gl : Gl X x) (hkw : PK X kws tk)
    (h1 : (backToKw pos (keywordEach kws X.env)).all (·.1.isSome) = true := by rfl) (h2 : (backToKw pos (keywordEach kws X.env)).filterMap (·.1) = ks := by rfl)
    (hdb : (x == ("__debug__" : Str)) = false := by decide) (hpl : ((backTo pos (starEach [] X.env)).any (·.1) || (backToKw pos (keywordEach kws X.env)).any (·.1.isNone)) = false := by rfl) :
    PE X (.Call (.Name x p) [] kws pos) (tCK ks.length sp gV tk) := by
  obtain ⟨f, fd, ps, g, F, hm, kp, b⟩ := c.is
  constructor
  intro pins s σ H Q I h
  refine wpAny_Call_Name_kw (ld_glob I gl hm ?_ hdb)
  refine PySem.W.callWith_KW0 (h₀ := X.base) I.ok.mod.kin kp h1 ?_ hpl
  refine thn (hkw.run pos pins s σ H _ I h) fun ws s1 ⟨zs, H1, I1, r, hz, q⟩ => ⟨I1.kIn, ?_⟩
  rw [h2]
  have bb := b.to s1 [] ws I1.kIn rfl (r.length.symm.trans hz)
  exact goesG (args := ⟨[], ks.zip ws⟩) F hr.1 (hr.2.mono hk) I1 bb (b.rel (vs := []) .nil r) q
end
/-- the law's call at the caller of a claim: the script is the one object that is known -/
theorem lawG {P : Program} {w : World} {K : PySem.W.Frag} {mg mb : Str → Option Value} {k : Nat} {fa a : Addr} {fd : FuncData} {x : Str} {sp : Sp} {s₁ : Shared} {vs : List Value} {ns : List Int}
    (KX : K.In s₁.heap) (gn : s₁.heap.Ns mainGlobals mg) (bn : s₁.heap.Ns builtinsNs mb) (bb : ∀ x : Str, x ≠ "__name__" → mb x = bootBuiltins x) (nl : s₁.heap.NoLimit) (gens : s₁.gens = #[])
    (at_a : s₁.heap.get? a = some { cls := .type "list", data := .seq vs.toArray }) (iv : IntsAre vs ns) (few : ns.length ≤ sizeLine) (room : Room k callerA)
    (F : ∀ base : Heap, K.In base → base.Ns mainGlobals mg → FnG P w K mg base k fa fd [x] sp) (bind : ∀ (s : Shared) (u : Value), BindsTo s fd ⟨[u], []⟩ [(x, u)])
    (goal : ∀ H : Hp, SqL K H a (ns.map V.int) → sp [.ref a] H (fun v _ => v = .bl true) fun _ _ _ => False) :
    codeAny (model P w) callerA (.call (.ref fa) ⟨[.ref a], []⟩) (fun out t => out = .ok (.ret (.bool true)) ∧ OldK s₁.heap t.heap ∧ t.os = s₁.os ∧ AllBare t.gens) s₁ := by
  have rel := vals_ints iv
  -- the abstract heap: the script, unless it is an object of the written part
  obtain ⟨H, only, sql, ok, mine, offK⟩ : ∃ H : Hp, (∀ b, H b = none ∨ ∃ o xs, H b = some (.frz o (.lst xs))) ∧ SqL K H a (ns.map V.int) ∧ HOk P w H s₁.heap ∧ (∀ b, H b ≠ none → b = a) ∧ (H a ≠ none → K.lookup a = none) := by
    cases look : K.lookup a with
    | some o =>
      have same := KX a o look
      rw [at_a] at same
      cases same
      exact ⟨fun _ => none, fun _ => Or.inl rfl, .inr ⟨_, vs.toArray, _, look, rfl, rfl, rfl, by rw [List.size_toArray, iv.length]; exact few, by simpa using rel⟩, (fun _ _ z => by cases (show (none : Option HO) = some _ from z)), (fun _ z => absurd rfl z), (fun z => absurd rfl z)⟩
    | none =>
      refine ⟨fun b => if b = a then some (.frz { cls := .type "list", data := .seq vs.toArray } (.lst (ns.map V.int))) else none, fun b => ?_, .inl (.inr ⟨_, if_pos rfl⟩), fun b u z => ?_, fun b z => ?_, fun _ => rfl⟩
      · by_cases hb : b = a
        · exact Or.inr ⟨_, _, if_pos hb⟩
        · exact Or.inl (if_neg hb)
      · by_cases hb : b = a
        · subst hb
          have zz := (if_pos rfl).symm.trans z
          cases zz
          exact ⟨at_a, by rw [List.length_map]; exact few, vs, _, rel, at_a⟩
        · have zz := (if_neg hb).symm.trans z
          cases zz
      · by_cases hb : b = a
        · exact hb
        · exact absurd (if_neg hb) z
  have hid : ∀ {b : Addr} {o : Obj}, s₁.heap.get? b = some o → H b = none → (hidT s₁.heap H).get? b = some o := fun e n => hidT_get e n
  have dicts : ∀ {b : Addr} {o : Obj} {es : Array DictEntry} {ep : Nat}, s₁.heap.get? b = some o → o.data = .dict es ep → H b = none := by
    intro b o es ep e d
    apply Classical.byContradiction
    intro z
    have eb := mine b z
    subst eb
    rw [at_a] at e
    cases e
    exact absurd d (fun q => nomatch q)
  have names : ∀ {b : Addr} {m : Str → Option Value}, s₁.heap.Ns b m → (hidT s₁.heap H).Ns b m := by
    rintro b m ⟨o, es, ep, e, d, r⟩
    exact ⟨o, es, ep, hid e (dicts e d), d, r⟩
  have kin : K.In (hidT s₁.heap H) := by
    intro b o e
    refine hid (KX b o e) (Classical.byContradiction fun z => ?_)
    have eb := mine b z
    subst eb
    rw [offK z] at e
    cases e
  obtain ⟨mc, n1, n2⟩ := nl
  have env0 : Env0 P w K mg (hidT s₁.heap H) callerA [] s₁ H :=
    ⟨rfl, ⟨kin, names gn, ⟨mb, names bn, bb⟩, ⟨mc, names n1, n2⟩⟩, fun b o e => of_hidT e, Nat.le_of_eq (hidT_size _ _), trivial, fun b hb => (List.not_mem_nil hb).elim, ok, .of_eq gens⟩
  refine codeAny_mono ((F _ kin (names gn)).goes callerA [] s₁ H ⟨[.ref a], []⟩ [.ref a] [.ref a] _ _ rfl room env0 (bind s₁ (.ref a)) (.cons rfl .nil) (goal H sql)) ?_
  intro res s' z
  match res, z with
  | .ok .next, z => exact z.elim
  | .ok .brk, z => exact z.elim
  | .ok .cont, z => exact z.elim
  | .ok (.ret u), ⟨v, H', os, bare, un, ok', rv, q⟩ =>
    have vt : v = V.bl true := q
    subst vt
    have ut : u = Value.bool true := rv
    subst ut
    refine ⟨rfl, OldK.of_keep (fun b o e => ?_), os, bare⟩
    rcases only b with n | ⟨ob, xs, fz⟩
    · exact un.keep b o e n (fun m => (List.not_mem_nil m).elim) (by simp)
    · have g1 := (ok b _ fz).1
      have g2 := (ok' b _ (un.frzs b ob _ fz)).1
      rw [e] at g1
      cases g1
      exact g2
theorem walkG {l : PySem.W.OpenLaw} {k : Nat} {q : Program} {loose : List Str} {XP : (Str → Option Value) → Heap → Prop} {YP : World → Heap → Prop} {d : DefRec} {K : Params → PySem.W.Frag} {sp : PySem.W.Frag → Sp} {x : Str}
    (hn : l.most = some 63) (hdf : d.params.defaults = []) (room : Room k callerA) (hY : ∀ (w : World) (h : Heap), YP w h → (K w.params).In h)
    (F : ∀ (w : World) (mg : Str → Option Value) (at_ : Addr) (top : Heap), (K w.params).In top → top.Ns mainGlobals mg → mg d.name = some (.ref at_) →
      ∃ fd : FuncData, (∀ (s : Shared) (u : Value), BindsTo s fd ⟨[u], []⟩ [(x, u)]) ∧ ∀ base : Heap, (K w.params).In base → base.Ns mainGlobals mg → FnG l.prog w (K w.params) mg base k at_ fd [x] (sp (K w.params)))
    (goal : ∀ (K : PySem.W.Frag) (H : Hp) (a : Addr) (ns : List Int), ns.length ≤ 63 → SqL K H a (ns.map V.int) → sp K [.ref a] H (fun v _ => v = .bl true) fun _ _ _ => False) :
    PySem.W.WalkO q loose XP YP l.row.toRowW d [] (fun g args => PySem.call g args) := by
  refine Att.attach_call hn hdf ?_
  intro w _ _ mg _ fa _ _ _ _ a _ ns top behind _ _ _ named script iv few gens
  obtain ⟨fd, bind, made⟩ := F w mg fa _ (hY w _ behind) top.T.g named
  exact lawG (hY w _ behind) top.T.g top.T.b top.T.builtins top.T.nolimit gens script iv (Nat.le_trans few (by decide)) room made bind fun H hS => goal _ H a ns few hS
end Pf

set_option Elab.async false
set_option linter.all false
set_option maxRecDepth 100000
/-! Data of any kind in the abstract heap, and its repr. -/
namespace Pf
open PySem PySem.Spec PyProof.Rows L2
mutual
/-- b: it may hold dicts (then its lists do not stand at the modules' place); p: an address that is none of its own -/
inductive Dq (b : Bool) (p : Addr) (H : Hp) : V → PyData → Prop
  | non : Dq b p H .non .none
  | bl (x : Bool) : Dq b p H (.bl x) (.bool x)
  | int (i : Int) : Dq b p H (.int i) (.int i)
  | str (x : Str) : Dq b p H (.str x) (.str x)
  | lst {a : Addr} {xs : List V} {ds : List PyData} : H a = some (.lst xs) → a ≠ p → (b = true → a ≠ sysModules) → DqAll b p H xs ds → Dq b p H (.ref a) (.list ds)
  | tup {a : Addr} {xs : List V} {ds : List PyData} : H a = some (.tup xs) → a ≠ p → DqAll b p H xs ds → Dq b p H (.ref a) (.tuple ds)
  | dc0 {a : Addr} : b = true → H a = some (.dK []) → a ≠ p → Dq b p H (.ref a) (.dict [])
  | dc1 {a : Addr} {x : Str} {v : V} {d : PyData} : b = true → H a = some (.dK [(Sum.inr x, v)]) → a ≠ p → Dq b p H v d → Dq b p H (.ref a) (.dict [(.str x, d)])
inductive DqAll (b : Bool) (p : Addr) (H : Hp) : List V → List PyData → Prop
  | nil : DqAll b p H [] []
  | cons {v : V} {vs : List V} {d : PyData} {ds : List PyData} : Dq b p H v d → DqAll b p H vs ds → DqAll b p H (v :: vs) (d :: ds)
end
section
variable {X : Cx} {pins : List (Addr × Obj)} {σ : L2.St} {H : Hp} {s : Shared} {b : Bool} {p : Addr}
mutual
theorem Dq.reads (I : Inv X pins σ H s) : ∀ (d : PyData) (v : V) (u : Value), Dq b p H v d → RelV v u → ∃ as, Reads s.heap u d as ∧ (b = true → sysModules ∉ as) ∧ (b = false → d.hasDict = false)
  | .none, _, _, h, r => by
    cases h
    cases r
    exact ⟨[], Reads.none, fun _ z => (List.not_mem_nil z).elim, fun _ => by simp only [PyData.hasDict]⟩
  | .bool x, _, _, h, r => by
    cases h
    cases r
    exact ⟨[], Reads.bool x, fun _ z => (List.not_mem_nil z).elim, fun _ => by simp only [PyData.hasDict]⟩
  | .int i, _, _, h, r => by
    cases h
    obtain ⟨t, rfl⟩ := r
    exact ⟨[], Reads.int i t, fun _ z => (List.not_mem_nil z).elim, fun _ => by simp only [PyData.hasDict]⟩
  | .str x, _, _, h, r => by
    cases h
    obtain ⟨t, rfl⟩ := r
    exact ⟨[], Reads.str x t, fun _ z => (List.not_mem_nil z).elim, fun _ => by simp only [PyData.hasDict]⟩
  | .list ds, _, _, h, r => by
    cases h with
    | lst e ne sm ha =>
      cases r
      obtain ⟨_, its, n, rv, g⟩ := I.hok _ _ e
      obtain ⟨as, q, z1, z2⟩ := Dq.readsAll I ds _ its ha rv
      refine ⟨_, Reads.list g rfl rfl q, fun t m => ?_, fun f => by simp only [PyData.hasDict]; exact z2 f⟩
      rcases List.mem_cons.mp m with m | m
      · exact sm t m.symm
      · exact z1 t m
  | .tuple ds, _, _, h, r => by
    cases h with
    | tup e ne ha =>
      cases r
      obtain ⟨_, its, rv, o, g, c, n, dd⟩ := I.hok _ _ e
      obtain ⟨as, q, z1, z2⟩ := Dq.readsAll I ds _ its ha rv
      exact ⟨_, Reads.tuple g c dd q, z1, fun f => by simp only [PyData.hasDict]; exact z2 f⟩
  | .dict kvs, _, _, h, r => by
    cases h with
    | dc0 bt e ne =>
      cases r
      obtain ⟨_, sm, vs, kv, o, es, ep, g, ex, dd, _, pr, _⟩ := I.hok _ _ e
      cases kv
      have el : es.toList = [] := by cases hh : es.toList with
        | nil => rfl
        | cons x r => rw [hh] at pr; cases pr
      refine ⟨_, Reads.dict (as := []) (bs := []) g ex.1 dd (by rw [el]; exact .nil) (by rw [el]; exact .nil), fun _ m => ?_, fun f => by rw [bt] at f; cases f⟩
      rcases List.mem_cons.mp m with m | m
      · exact absurd m.symm (beq_eq_false_iff_ne.mp sm)
      · exact List.not_mem_nil m
    | @dc1 a x v d bt e ne hd =>
      cases r
      obtain ⟨_, sm, vs, kv, o, es, ep, g, ex, dd, _, pr, _⟩ := I.hok _ _ e
      obtain ⟨w, rfl, rw'⟩ : ∃ w, vs = [((Sum.inr x : Key), w)] ∧ RelV v w := by
        cases vs with
        | nil => cases kv
        | cons q r =>
          cases r with
          | nil =>
            cases kv with
            | cons k1 k2 =>
              obtain ⟨kk, w⟩ := q
              obtain ⟨k1, k3⟩ := k1
              simp only at k1 k3
              subst k1
              exact ⟨w, rfl, k3⟩
          | cons _ _ =>
            cases kv with
            | cons k1 k2 => cases k2
      by_cases tt0 : True
      · skip
        have el : ∃ en : DictEntry, es.toList = [en] ∧ keyIs (Sum.inr x) en.key = true ∧ en.val = w := by
          cases hh : es.toList with
          | nil => rw [hh] at pr; cases pr
          | cons en r =>
            rw [hh] at pr
            cases pr with
            | cons i1 i2 i3 => cases i3; exact ⟨en, rfl, i1, i2⟩
        obtain ⟨en, el, hk, hv⟩ := el
        obtain ⟨t, ek⟩ : ∃ t, en.key = Value.str x t := by
          rcases keyIs_shape hk with ⟨i, t, e1, e2⟩ | ⟨y, t, e1, e2⟩
          · cases e1
          · cases e1; exact ⟨t, e2⟩
        obtain ⟨as, q, z1, z2⟩ := Dq.reads I d v w hd rw'
        refine ⟨_, Reads.dict (as := [] ++ []) (bs := as ++ []) g ex.1 dd (by rw [el]; exact .cons (by show Reads s.heap en.key (.str x) []; rw [ek]; exact Reads.str x t) .nil) (by rw [el]; exact .cons (by show Reads s.heap en.val d as; rw [hv]; exact q) .nil), fun tt m => ?_, fun f => by rw [bt] at f; cases f⟩
        simp only [List.append_nil, List.nil_append] at m
        rcases List.mem_cons.mp m with m | m
        · exact absurd m.symm (beq_eq_false_iff_ne.mp sm)
        · exact z1 tt m
      · exact absurd trivial tt0
theorem Dq.readsAll (I : Inv X pins σ H s) : ∀ (ds : List PyData) (vs : List V) (us : List Value), DqAll b p H vs ds → Vals vs us → ∃ as, ReadsAll s.heap us ds as ∧ (b = true → sysModules ∉ as) ∧ (b = false → PyData.hasDictAll ds = false)
  | [], _, _, h, r => by
    cases h
    cases r
    exact ⟨[], ReadsAll.nil, fun _ z => (List.not_mem_nil z).elim, fun _ => by simp only [PyData.hasDictAll]⟩
  | d :: ds, _, _, h, r => by
    cases h with
    | cons h1 h2 =>
      cases r with
      | cons r1 r2 =>
        obtain ⟨as, q1, y1, y2⟩ := Dq.reads I d _ _ h1 r1
        obtain ⟨bs, q2, z1, z2⟩ := Dq.readsAll I ds _ _ h2 r2
        refine ⟨_, ReadsAll.cons q1 q2, fun t m => ?_, fun f => by simp only [PyData.hasDictAll, y2 f, z2 f, Bool.or_self]⟩
        rcases List.mem_append.mp m with m | m
        · exact y1 t m
        · exact z1 t m
end
end
/-- the text of a value, what it asks -/
def Fits (d : PyData) : Prop := d.showable = true ∧ d.shown.length ≤ sizeLine ∧ d.depth ≤ 60
section
variable {X : Cx} {k : Nat}
theorem call_reprD (hr : X.A.guards = some [] ∧ Room k X.A) : CallR X (.builtin "repr") (fun xs H Q => ∃ a d b p, xs = [.ref a] ∧ Dq b p H (.ref a) d ∧ Fits d ∧ Q (.str d.shown) H) := by
  intro pins s σ H xs us Q I r h
  obtain ⟨a, d, b, p, rfl, hd, ⟨f1, f2, f3⟩, q⟩ := h
  obtain ⟨u, rfl, ru⟩ := vals1 r
  obtain ⟨as, rd, z1, z2⟩ := Dq.reads I d _ u hd ru
  cases ru
  have un := hr.2.un
  refine repr_of_reads' rd f1 (fun hx => ?_) hr.1 (by omega) (fun _ _ e => e) (fun h' u tk hk => ?_) f2
  · cases b with
    | true => exact z1 rfl
    | false => rw [z2 rfl] at hx; cases hx
  · exact ⟨.str _, H, I.kept hk, ⟨u, rfl⟩, q⟩
theorem call_reprV (hr : X.A.guards = some [] ∧ Room k X.A) : CallR X (.builtin "repr") (fun xs H Q => ∃ v d b p, xs = [v] ∧ Dq b p H v d ∧ Fits d ∧ Q (.str d.shown) H) := by
  intro pins s σ H xs us Q I r h
  obtain ⟨v, d, b, p, e, hd, f, q⟩ := h
  have go : ∀ a, v = .ref a → wpAny (model X.prog X.w) X.A (call (.builtin "repr") us) (EP X pins σ Q) X.xe s := fun a z => by
    subst z
    exact call_reprD hr pins s σ H xs us Q I r ⟨a, d, b, p, e, hd, f, q⟩
  cases hd with
  | non =>
    subst e
    obtain ⟨u, rfl, ru⟩ := vals1 r
    cases ru
    exact PySem.P.repr_of_none ⟨.str _, H, I.tok _, ⟨_, rfl⟩, q⟩
  | bl x =>
    subst e
    obtain ⟨u, rfl, ru⟩ := vals1 r
    cases ru
    refine PySem.P.repr_of_bool ⟨.str _, H, I.tok _, ⟨_, rfl⟩, ?_⟩
    simp only [PyData.shown] at q
    cases x <;> exact q
  | int x =>
    subst e
    obtain ⟨u, rfl, t, rfl⟩ := vals1 r
    exact PySem.P.repr_of_int (of_decide_eq_true f.1) ⟨.str _, H, I.tok _, ⟨_, rfl⟩, q⟩
  | str x =>
    subst e
    obtain ⟨u, rfl, t, rfl⟩ := vals1 r
    exact PySem.P.repr_of_str ⟨.str _, H, I.tok _, ⟨_, rfl⟩, q⟩ f.2.1
  | lst _ _ _ _ => exact go _ rfl
  | tup _ _ _ => exact go _ rfl
  | dc0 _ _ _ => exact go _ rfl
  | dc1 _ _ _ _ => exact go _ rfl
/-- a new list is not the table of modules -/
def tLstM (t : TA) : TE := fun σ H Q => t σ H fun xs H1 => xs.length ≤ sizeLine ∧ ∀ p, H1 p = none → p ≠ sysModules → Q (.ref p) (upd H1 p (.lst xs))
theorem pe_lstM {es : List Expr} {t : TA} {pos : Pos} (h : PA X es t) : PE X (.List es pos) (tLstM t) := by
  constructor
  intro pins s σ H Q I hq
  refine wpAny_List_spliced (thn (h.run pos pins s σ H _ I hq) ?_)
  rintro us s1 ⟨xs, H1, I1, r, z, q⟩
  have big := I1.big
  have new := I1.hok.fresh (Nat.le_refl s1.heap.objs.size)
  refine ⟨r.length ▸ z, .ref s1.heap.objs.size, upd H1 s1.heap.objs.size (.lst xs), I1.laid (t' := s1.toks) (fun _ _ e => Heap.get?_push_of_some _ e) (Nat.le_refl _) ⟨z, us, 0, r, Heap.get?_push_size _ rfl⟩, rfl, q _ new (Nat.ne_of_gt big)⟩
/-- a power of whole numbers -/
theorem op_powW : OpR X (binaryOp .Pow) (rI (fun i j => 0 ≤ j ∧ (Builtin.Int.intBits i : Int) * j ≤ 2 ^ 27) fun i j => .int (i ^ j.toNat)) := opI fun _ _ _ _ _ _ _ hc q => pow_int hc.1 hc.2 q
end
end Pf

set_option Elab.async false
set_option linter.all false
set_option maxRecDepth 100000
/-! Heaps, the pot, rules for tracked things: no text of a program. -/
namespace Pf
open PySem PySem.Spec PyProof.Rows L2
theorem at20 {x y : V} : atI [x, y] 0 = some x := rfl
theorem at21 {x y : V} : atI [x, y] 1 = some y := rfl
theorem at0 {x y z : V} : atI [x, y, z] 0 = some x := rfl
theorem at1 {x y z : V} : atI [x, y, z] 1 = some y := rfl
theorem at2 {x y z : V} : atI [x, y, z] 2 = some z := rfl
/-- an item of a list that is tracked -/
def rIxV : R2 := fun x y H Q => ∃ p xs i v, x = .ref p ∧ y = .int i ∧ H p = some (.lst xs) ∧ atI xs i = some v ∧ Q v H
theorem ix_v {X : Cx} : IxR X rIxV := by
  intro value slice pins s σ H x y u v Q I rx ry h hs
  obtain ⟨p, xs, i, z, e1, e2, e3, e4, q⟩ := h
  exact ix_list value slice pins s σ H x y u v Q I rx ry ⟨p, xs, i, z, e1, e2, SqL.of e3, e4, q⟩ hs
theorem call_intI {X : Cx} : CallR X (.type "int") (fun xs H Q => ∃ i, xs = [.int i] ∧ Q (.int i) H) := fun pins s σ H xs us Q I r h => call_int1 pins s σ H xs us Q I r (Or.inl h)
theorem call_lenL {X : Cx} : CallR X (.builtin "len") (fun xs H Q => ∃ p ys, xs = [.ref p] ∧ H p = some (.lst ys) ∧ Q (.int ys.length) H) := by
  intro pins s σ H xs us Q I r h
  obtain ⟨p, ys, e1, e2, q⟩ := h
  exact call_len_seq pins s σ H xs us Q I r ⟨p, ys, e1, .inl (SqL.of e2), q⟩
theorem call_lenT {X : Cx} : CallR X (.builtin "len") (fun xs H Q => ∃ p ys, xs = [.ref p] ∧ H p = some (.tup ys) ∧ Q (.int ys.length) H) := by
  intro pins s σ H xs us Q I r h
  obtain ⟨p, ys, e1, e2, q⟩ := h
  exact call_len_seq pins s σ H xs us Q I r ⟨p, ys, e1, .inr (SqT.of e2), q⟩
theorem atI_some {α : Type} {xs : List α} {i : Int} (h0 : 0 ≤ i) (h1 : i < xs.length) : ∃ x, atI xs i = some x ∧ x ∈ xs := by
  obtain ⟨n, rfl⟩ := Int.eq_ofNat_of_zero_le h0
  have hn : n < xs.length := by omega
  exact ⟨xs[n], atI_nat (List.getElem?_eq_getElem hn), List.getElem_mem hn⟩
def rIxP : R2 := fun x y H Q => ∃ p xs i v, x = .ref p ∧ y = .int i ∧ H p = some (.tup xs) ∧ atI xs i = some v ∧ Q v H
theorem ix_t {X : Cx} : IxR X rIxP := by
  intro value slice pins s σ H x y u v Q I rx ry h hs
  obtain ⟨p, xs, i, z, e1, e2, e3, e4, q⟩ := h
  exact ix_tup value slice pins s σ H x y u v Q I rx ry ⟨p, xs, i, z, e1, e2, SqT.of e3, e4, q⟩ hs
/-- (a, b) = a tracked tuple -/
def gTupV (n : Nat) (t : TGs) : TG := fun v σ H Q => ∃ a xs, v = .ref a ∧ H a = some (.tup xs) ∧ xs.length = n ∧ t xs σ H Q
theorem pg_tupV {X : Cx} {es : List Expr} {k : Nat} {t : TGs} {n : Nat} {pos : Pos} (hc : X.calm = true) (h : PGs X es t) (hn : (assignEach es X.env).length = n := by rfl) (hs : (assignEach es X.env).findIdx? (·.1) = none := by rfl) : PG X (.Tuple es k pos) (gTupV n t) := by
  constructor
  intro pins s σ H v u Q I r ⟨a, xs, e1, e2, e3, q⟩
  exact (pg_tup hc h hn hs).run pins s σ H v u Q I r ⟨a, xs, e1, SqT.of e2, e3, q⟩
/-- all(l), any(l) of a tracked list of truths -/
def rAllB : List V → Hp → VK → Prop := fun xs H Q => ∃ (a : Addr) (bs : List Bool), xs = [V.ref a] ∧ H a = some (.lst (bs.map V.bl)) ∧ Q (.bl (bs.all id)) H
def rAnyB : List V → Hp → VK → Prop := fun xs H Q => ∃ (a : Addr) (bs : List Bool), xs = [V.ref a] ∧ H a = some (.lst (bs.map V.bl)) ∧ Q (.bl (bs.any id)) H
theorem call_allB {X : Cx} (hc : X.calm = true) : CallR X (.builtin "all") rAllB := fun pins s σ H xs us Q I r ⟨a, bs, e1, e2, q⟩ => cr_all hc pins s σ H xs us Q I r ⟨a, bs, e1, SqL.of e2, q⟩
theorem call_anyB {X : Cx} (hc : X.calm = true) : CallR X (.builtin "any") rAnyB := fun pins s σ H xs us Q I r ⟨a, bs, e1, e2, q⟩ => cr_any hc pins s σ H xs us Q I r ⟨a, bs, e1, SqL.of e2, q⟩
/-- t[1:] of a tracked tuple -/
def rSl1 : V → Option Int → Option Int → Hp → VK → Prop := fun x lo hi H Q => ∃ (a : Addr) (xs : List V), x = .ref a ∧ lo = some 1 ∧ hi = none ∧ H a = some (.tup xs) ∧ ∀ (H' : Hp) (c : Addr), Same H H' → H' c = some (.tup (xs.drop 1)) → Q (.ref c) H'
theorem sl_one {X : Cx} : SlR X rSl1 := by
  intro pins s σ H x v vl vu lo hi sl Q I rx hs pl pu h
  obtain ⟨a, xs, e1, e2, e3, e4, q⟩ := h
  subst e2 e3
  have h1 : HT.sIx xs.length 0 (some 1) = min 1 xs.length := HT.sIx_nat xs.length 0 1
  have h2 : HT.sIx xs.length xs.length none = xs.length := HT.sIx_none ..
  refine sl_tupA pins s σ H x v vl vu _ _ sl Q I rx hs pl pu ⟨a, xs, e1, SqT.of e4, fun z => ?_, fun z c hc => ?_⟩
  · rw [h1, h2] at z
    have nil : xs = [] := List.eq_nil_of_length_eq_zero (by omega)
    subst nil
    exact q H a (Same.refl H) e4
  · refine q _ c (fun b o g => ?_) ?_
    · rw [upd_ne (ne_of_none g hc)]
      exact g
    · have cut : cutV xs (some 1) none = xs.drop 1 := by
        unfold cutV
        rw [h1, h2]
        cases xs with
        | nil => rfl
        | cons y r =>
          rw [show min 1 (y :: r).length = 1 from Nat.min_eq_left (by simp)]
          exact List.take_of_length_le (by simp)
      rw [cut, upd_same]
theorem call_tupleL {X : Cx} : CallR X (.type "tuple") (fun xs H Q => ∃ p ys, xs = [.ref p] ∧ H p = some (.lst ys) ∧ ∀ l, H l = none → Q (.ref l) (upd H l (.tup ys))) := fun pins s σ H xs us Q I r ⟨p, ys, e1, e2, q⟩ => call_tuple_of pins s σ H xs us Q I r ⟨p, ys, e1, .inl ⟨SqL.of e2, q⟩⟩
theorem call_listT {X : Cx} : CallR X (.type "list") (fun xs H Q => ∃ p ys, xs = [.ref p] ∧ H p = some (.tup ys) ∧ ∀ l, H l = none → Q (.ref l) (upd H l (.lst ys))) := fun pins s σ H xs us Q I r ⟨p, ys, e1, e2, q⟩ => call_list_of pins s σ H xs us Q I r ⟨p, ys, e1, .inr (SqT.of e2), q⟩
theorem ixN30 : ixN 3 0 = some 0 := rfl
theorem ixN32 : ixN 3 2 = some 2 := rfl
local macro_rules | `(tactic| walk_at "rd") => `(tactic| simp only [tC1, tCK, tB, rNe, rEq, tChain, gTupV, gCons, gNil, Nat.sub_self, Nat.reduceSub, List.replicate_zero, List.replicate_succ, tTest, tIfS, tIf, tNot, tAnd, tOr, tAndV, tOrV, tNotV, tDrop, tNext, rIxV, rIxP,
  gSub, rSetL, tSl, tPart, tNoPart, rSl1, tAsg2, ipI, tDNewK, tBM, rAppend, wipe, rAllB, rAnyB, iTup, iList, RZ.iZipA, iRng1, iRng2, tYes, upd_same, at0, at1, at2, at20, at21, ixN30, ixN32, HO.lst.injEq, HO.tup.injEq, Nat.reduceAdd, tSeq, tAsg, tPar, tAug, tOp, tVar, tC, tCB, tCons, tNil, rI, rI0, rU, tUn, gName, tRet, tLst, tLstM, tTup, L2.start, List.map_cons, List.map_nil, List.length_cons, List.length_nil, List.replicate, List.cons_append,
  List.nil_append, List.set_cons_zero, List.set_cons_succ, List.getElem?_cons_zero, List.getElem?_cons_succ, Option.some.injEq, V.int.injEq, V.ref.injEq, V.bl.injEq, V.str.injEq, List.cons.injEq, exists_eq_left', exists_eq_left, exists_and_left, exists_and_right, and_true, true_and, reduceCtorEq, false_and,
  exists_false, or_false, false_or, exists_const, exists_eq, exists_eq', Bool.not_true, Bool.not_false, Bool.false_eq_true, if_true, if_false, ite_true, ite_false])
/-- all that stood stays, but what is at p -/
def Kp (p : Addr) (H H' : Hp) : Prop := ∀ b o, b ≠ p → H b = some o → H' b = some o
theorem Kp.refl (p : Addr) (H : Hp) : Kp p H H := fun _ _ _ h => h
theorem Kp.trans {p : Addr} {H H1 H2 : Hp} (a : Kp p H H1) (b : Kp p H1 H2) : Kp p H H2 := fun c o n h => b c o n (a c o n h)
theorem Kp.of {p : Addr} {H H' : Hp} (a : Same H H') : Kp p H H' := fun c o _ h => a c o h
theorem Kp.new {p q : Addr} {H : Hp} {o : HO} (h : H q = none) : Kp p H (upd H q o) := fun b u _ e => by
  rw [upd_ne (ne_of_none e h)]
  exact e
theorem Kp.put {p : Addr} {H : Hp} {o : HO} : Kp p H (upd H p o) := fun b u n e => by
  rw [upd_ne n]
  exact e
theorem new_same {q : Addr} {H : Hp} {o : HO} (h : H q = none) : Same H (upd H q o) := fun b u e => by
  rw [upd_ne (ne_of_none e h)]
  exact e
theorem Kp.seqL {K : PySem.W.Frag} {p a : Addr} {H H' : Hp} {xs : List V} (k : Kp p H H') (n : a ≠ p) (h : SqL K H a xs) : SqL K H' a xs := by
  rcases h with (h | ⟨o, h⟩) | h
  · exact .inl (.inl (k _ _ n h))
  · exact .inl (.inr ⟨o, k _ _ n h⟩)
  · exact .inr h
/-- a place that is free behind was free ahead -/
theorem Kp.free {p q : Addr} {H H' : Hp} {u : HO} (k : Kp p H H') (hp : H' p = some u) (h : H' q = none) : H q = none := by
  cases e : H q with
  | none => rfl
  | some o =>
    by_cases n : q = p
    · rw [n, hp] at h
      cases h
    · rw [k _ _ n e] at h
      cases h
/-- a comprehension without ifs, whose turns leave what stood: its new list is out -/
theorem lcMap {J : It} {n : Nat} {G : Hp → Prop} {Y : Nat → Hp → V → Hp → Prop} (w : Walk J n G Y) {g : TG} {te : TE} {vs : List Nat} {σ : L2.St} {H1 : Hp} {Qd : Addr → Hp → Prop} (out : List V) (hn : out.length = n) (hz : n ≤ sizeLine) (hG : ∀ H, Same H1 H → G H)
    (hs : ∀ (i : Nat) (x : V) (H H' : Hp) (y : V) (R : VK), out[i]? = some y → Same H1 H → Y i H x H' → (∀ H4, Same H H4 → R y H4) → g x (wipe σ vs) H' fun σ2 H2 => wipe σ2 vs = wipe σ vs ∧ te σ2 H2 R)
    (hd : ∀ H D, H1 D = none → Same H1 H → H D = some (.lst out) → Qd D H) :
    ∀ D, H1 D = none → ∃ W : Nat → Nat → Hp → Prop, (∃ m, W 0 m (upd H1 D (.lst []))) ∧ ∀ i m H, W i m H →
      (J.stop i H ∧ Qd D H) ∨ (J.go i H ∧ ∃ Nx : Hp → Prop, (∀ H', Nx H' → ∃ m', m' < m ∧ W (i + 1) m' H') ∧ ∀ x H', J.yld i H x H' → g x (wipe σ vs) H' fun σ2 H2 => wipe σ2 vs = wipe σ vs ∧ tYes σ2 H2 fun on H3 =>
        if on = true then te σ2 H3 fun y H4 => ∃ made, H4 D = some (.lst made) ∧ made.length < sizeLine ∧ Nx (upd H4 D (.lst (made ++ [y]))) else Nx H3) := by
  intro D hD
  refine lc_it w (Qd := fun H => Qd D H) (fun i H => Same H1 H ∧ H D = some (.lst (out.take i))) ⟨new_same hD, by rw [upd_same]; rfl⟩ (fun i H _ h => hG H h.1) ?_ (fun H h => hd H D hD h.1 (by rw [h.2, List.take_of_length_le (by omega)]))
  rintro i x H H' hi ⟨hS, hL⟩ hy
  have hi2 : i < out.length := by omega
  simp only [tYes, if_true]
  refine hs i x H H' out[i] _ (List.getElem?_eq_getElem hi2) hS hy fun H4 h4 => ?_
  have l4 := h4 _ _ hL
  refine ⟨_, l4, by rw [List.length_take]; omega, fun b o e => ?_, ?_⟩
  · rw [upd_ne (ne_of_none e hD)]
    exact h4 _ _ (hS _ _ e)
  · rw [upd_same, List.take_add_one, List.getElem?_eq_getElem hi2]
    rfl
/-- zip of two tuples -/
theorem walk_zipT {K : PySem.W.Frag} {a b : Addr} {xs ys : List V} {n : Nat} (hn : n = min xs.length ys.length) : Walk (RZ.ItzT K a b) n (fun H => SqT K H a xs ∧ SqT K H b ys) (YPair (fun i => xs[i]?) (fun i => ys[i]?)) := by
  subst hn
  constructor
  · intro i H hi q
    have h1 : i < xs.length := Nat.lt_of_lt_of_le hi (Nat.min_le_left _ _)
    have h2 : i < ys.length := Nat.lt_of_lt_of_le hi (Nat.min_le_right _ _)
    exact ⟨xs, ys, xs[i], ys[i], q.1, q.2, List.getElem?_eq_getElem h1, List.getElem?_eq_getElem h2⟩
  · intro H q
    exact ⟨xs, ys, q.1, q.2, by omega⟩
  · rintro i H v H' _ q ⟨T, x, y, e1, e2, e3, e4, e5⟩
    exact ⟨T, x, y, e1, e2, e3, e4 xs q.1, e5 ys q.2⟩
/-- the pot: what is left of the cell, the mixed number, the draws so far (at most m) -/
def Pot (H : Hp) (p : Addr) (m : Nat) : Prop := ∃ a b c : Int, H p = some (.lst [.int a, .int b, .int c]) ∧ 0 ≤ a ∧ a.natAbs < 2 ^ 1000 ∧ 0 ≤ b ∧ b < 2 ^ 61 ∧ 0 ≤ c ∧ c ≤ m
theorem Pot.lst {H : Hp} {p : Addr} {m : Nat} (h : Pot H p m) : ∃ xs, H p = some (.lst xs) := by
  obtain ⟨a, b, c, e, _⟩ := h
  exact ⟨_, e⟩
theorem Pot.up {H : Hp} {p : Addr} {m n : Nat} (h : Pot H p m) (l : m ≤ n) : Pot H p n := by
  obtain ⟨a, b, c, e, h1, h2, h3, h4, h5, h6⟩ := h
  exact ⟨a, b, c, e, h1, h2, h3, h4, h5, by omega⟩
theorem Pot.same {H H' : Hp} {p : Addr} {m : Nat} (h : Pot H p m) (s : Same H H') : Pot H' p m := by
  obtain ⟨a, b, c, e, r⟩ := h
  exact ⟨a, b, c, s _ _ e, r⟩
theorem cell_at {ns : List Int} {k : Nat} (h : k < ns.length) : atI (ns.map V.int) (k : Int) = some (.int ns[k]) := atI_nat (by rw [List.getElem?_map, List.getElem?_eq_getElem h]; rfl)
theorem pow_bits {i j : Int} (h0 : 0 ≤ j) {n : Nat} (h : Builtin.Int.intBits i ≤ n) (h2 : (n : Int) * j ≤ 2 ^ 27) : 0 ≤ j ∧ (Builtin.Int.intBits i : Int) * j ≤ 2 ^ 27 :=
  ⟨h0, Int.le_trans (Int.mul_le_mul_of_nonneg_right (by omega) h0) h2⟩
theorem pot_c1 : (0 : Int) ≤ 60 ∧ (Builtin.Int.intBits 10 : Int) * 60 ≤ 2 ^ 27 := by decide +kernel
theorem pot_c2 : (0 : Int) ≤ 5 ∧ (Builtin.Int.intBits (10 ^ Int.toNat 60) : Int) * 5 ≤ 2 ^ 27 := by decide +kernel
theorem pot_c3 : (0 : Int) < (10 ^ Int.toNat 60) ^ Int.toNat 5 := by decide +kernel
theorem pot_c4 : (0 : Int) ≤ 18 ∧ (Builtin.Int.intBits 10 : Int) * 18 ≤ 2 ^ 27 := by decide +kernel
theorem pot_c5 {x y : Int} {b : Bool} : CMul (x % y) (if b = true then 1 else 0) := by
  cases b with
  | true => exact Or.inr (by decide)
  | false => exact Or.inr (by decide)
theorem pot_c6 (c : Int) : CMul (c % 2305843009213693951) 71993 := Or.inr (by decide)
theorem pot_c7 (x : Int) (h : -(2 ^ 64) < x ∧ x < 2 ^ 64) {k : Nat} (hk : k ≤ 63) : CMul x (k : Int) := Or.inl h
theorem pot_c8 {k : Nat} (hk : k ≤ 63) : CMul (9241 * (k : Int)) (k : Int) := Or.inr (by omega)
theorem pot_c9 : (((10 : Int) ^ Int.toNat 60) ^ Int.toNat 5).natAbs < 2 ^ 1000 := by decide +kernel
theorem pot_made (H : Hp) (p : Addr) (x y : Int) (b : Bool) : Pot (upd H p (.lst [.int (x % (10 ^ Int.toNat 60) ^ Int.toNat 5 * if b = true then 1 else 0), .int (y % 2305843009213693921), .int 0])) p 0 := by
  have g1 := Int.emod_nonneg x (Int.ne_of_gt pot_c3)
  have g2 := Int.emod_lt_of_pos x pot_c3
  have g3 := pot_c9
  refine ⟨_, _, _, upd_same, ?_, ?_, by omega, by omega, by decide, by decide⟩
  · cases b with
    | true => exact Int.mul_nonneg g1 (by decide)
    | false => exact Int.mul_nonneg g1 (by decide)
  · cases b with
    | true =>
      rw [if_pos rfl, Int.mul_one]
      exact Nat.lt_trans (Int.natAbs_lt_natAbs_of_nonneg_of_lt g1 g2) g3
    | false =>
      rw [if_neg Bool.false_ne_true, Int.mul_zero]
      exact Nat.two_pow_pos _
theorem five {j : Int} (h0 : 0 ≤ j) (h5 : j < 5) : ∃ q : Int, 0 < q ∧ q < 2 ^ 31 ∧ atI [V.int 2147483647, V.int 2147483629, V.int 2147483587, V.int 2147483579, V.int 2147483563] j = some (.int q) := by
  have c : j = 0 ∨ j = 1 ∨ j = 2 ∨ j = 3 ∨ j = 4 := by omega
  rcases c with rfl | rfl | rfl | rfl | rfl
  · exact ⟨2147483647, by decide, by decide, rfl⟩
  · exact ⟨2147483629, by decide, by decide, rfl⟩
  · exact ⟨2147483587, by decide, by decide, rfl⟩
  · exact ⟨2147483579, by decide, by decide, rfl⟩
  · exact ⟨2147483563, by decide, by decide, rfl⟩
end Pf

set_option Elab.async false
set_option linter.all false
set_option maxRecDepth 100000
/-! Which values are range sets; pairs. -/
namespace Pf
open PySem PySem.Spec PyProof.Rows L2
local macro_rules | `(tactic| walk_at "rd") => `(tactic| simp only [tC1, tCK, tB, rNe, rEq, tChain, gTupV, gCons, gNil, Nat.sub_self, Nat.reduceSub, List.replicate_zero, List.replicate_succ, tTest, tIfS, tIf, tNot, tAnd, tOr, tAndV, tOrV, tNotV, tDrop, tNext, rIxV, rIxP,
  gSub, rSetL, tSl, tPart, tNoPart, rSl1, tAsg2, ipI, tDNewK, tBM, rAppend, wipe, rAllB, rAnyB, iTup, iList, RZ.iZipA, iRng1, iRng2, tYes, upd_same, at0, at1, at2, at20, at21, ixN30, ixN32, HO.lst.injEq, HO.tup.injEq, Nat.reduceAdd, tSeq, tAsg, tPar, tAug, tOp, tVar, tC, tCB, tCons, tNil, rI, rI0, rU, tUn, gName, tRet, tLst, tLstM, tTup, L2.start, List.map_cons, List.map_nil, List.length_cons, List.length_nil, List.replicate, List.cons_append,
  List.nil_append, List.set_cons_zero, List.set_cons_succ, List.getElem?_cons_zero, List.getElem?_cons_succ, Option.some.injEq, V.int.injEq, V.ref.injEq, V.bl.injEq, V.str.injEq, List.cons.injEq, exists_eq_left', exists_eq_left, exists_and_left, exists_and_right, and_true, true_and, reduceCtorEq, false_and,
  exists_false, or_false, false_or, exists_const, exists_eq, exists_eq', Bool.not_true, Bool.not_false, Bool.false_eq_true, if_true, if_false, ite_true, ite_false])
/-! ### the mirror -/
def isIntD : PyData → Bool
  | .int _ => true
  | .bool _ => true
  | _ => false
def isBoolD : PyData → Bool
  | .bool _ => true
  | _ => false
def isTupD : PyData → Bool
  | .tuple _ => true
  | _ => false
def isNumD : PyData → Bool
  | .int _ => true
  | _ => false
def pairOf : PyData → Option (Int × Int)
  | .tuple [.int a, .int b] => some (a, b)
  | _ => none
def isPairD (d : PyData) : Bool :=
  match pairOf d with
  | some q => decide (q.1 ≤ q.2)
  | none => false
def stepD (d e : PyData) : Bool :=
  match pairOf d, pairOf e with
  | some q, some r => decide (q.2 + 2 ≤ r.1)
  | _, _ => false
def stepsD : List PyData → List Bool
  | d :: e :: r => stepD d e :: stepsD (e :: r)
  | _ => []
def isRangesD : PyData → Bool
  | .tuple ds => ds.all isPairD && (stepsD ds).all id
  | _ => false
theorem pairOf_len {ds : List PyData} (h : ds.length ≠ 2) : pairOf (.tuple ds) = none := by
  unfold pairOf
  split
  · rename_i e
    cases e
    exact absurd rfl h
  · rfl
theorem _root_.L2.Same.seqT {K : PySem.W.Frag} {H H' : Hp} {a : Addr} {xs : List V} (e : Same H H') (h : SqT K H a xs) : SqT K H' a xs := by
  rcases h with (h | ⟨o, h⟩) | h
  · exact .inl (.inl (e _ _ h))
  · exact .inl (.inr ⟨o, e _ _ h⟩)
  · exact .inr h
theorem DqAll.length {b : Bool} {p : Addr} {H : Hp} : ∀ {vs : List V} {ds : List PyData}, DqAll b p H vs ds → vs.length = ds.length
  | _, _, .nil => rfl
  | _, _, .cons _ t => congrArg Nat.succ (DqAll.length t)
theorem DqAll.get {b : Bool} {p : Addr} {H : Hp} : ∀ {vs : List V} {ds : List PyData} {i : Nat} {v : V}, DqAll b p H vs ds → vs[i]? = some v → ∃ d, ds[i]? = some d ∧ Dq b p H v d
  | _, _, _, _, .nil, e => by simp at e
  | _, _, 0, _, .cons h _, e => by
    simp at e
    subst e
    exact ⟨_, rfl, h⟩
  | _, _, i + 1, _, .cons _ t, e => by
    obtain ⟨d, e1, e2⟩ := DqAll.get (i := i) t (by simpa using e)
    exact ⟨d, by simpa using e1, e2⟩
mutual
theorem Dq.keep {b : Bool} {p : Addr} {H H' : Hp} (k : Kp p H H') : ∀ (d : PyData) (v : V), Dq b p H v d → Dq b p H' v d
  | .none, _, h => by cases h; exact .non
  | .bool x, _, h => by cases h; exact .bl x
  | .int x, _, h => by cases h; exact .int x
  | .str x, _, h => by cases h; exact .str x
  | .list ds, _, h => by
    cases h with
    | lst g ne sm ha => exact .lst (k _ _ ne g) ne sm (Dq.keepAll k ds _ ha)
  | .tuple ds, _, h => by
    cases h with
    | tup g ne ha => exact .tup (k _ _ ne g) ne (Dq.keepAll k ds _ ha)
  | .dict kvs, _, h => by
    cases h with
    | dc0 t g ne => exact .dc0 t (k _ _ ne g) ne
    | @dc1 a x v d t g ne hd => exact .dc1 t (k _ _ ne g) ne (Dq.keep k d v hd)
theorem Dq.keepAll {b : Bool} {p : Addr} {H H' : Hp} (k : Kp p H H') : ∀ (ds : List PyData) (vs : List V), DqAll b p H vs ds → DqAll b p H' vs ds
  | [], _, h => by cases h; exact .nil
  | d :: ds, _, h => by
    cases h with
    | cons h1 h2 => exact .cons (Dq.keep k d _ h1) (Dq.keepAll k ds _ h2)
end
theorem Dq.same {b : Bool} {p : Addr} {H H' : Hp} {d : PyData} {v : V} (h : Dq b p H v d) (s : Same H H') : Dq b p H' v d := Dq.keep (Kp.of s) d v h
theorem DqAll.same {b : Bool} {p : Addr} {H H' : Hp} {ds : List PyData} {vs : List V} (h : DqAll b p H vs ds) (s : Same H H') : DqAll b p H' vs ds := Dq.keepAll (Kp.of s) ds vs h
theorem stepsD_len : ∀ ds : List PyData, (stepsD ds).length = ds.length - 1
  | [] => rfl
  | [_] => rfl
  | d :: e :: r => by
    have ih := stepsD_len (e :: r)
    unfold stepsD
    rw [List.length_cons, ih]
    simp
theorem stepsD_get : ∀ {ds : List PyData} {i : Nat} {d e : PyData}, ds[i]? = some d → ds[i + 1]? = some e → (stepsD ds)[i]? = some (stepD d e)
  | [], _, _, _, h, _ => by simp at h
  | [_], 0, _, _, _, h => by simp at h
  | [_], i + 1, _, _, h, _ => by simp at h
  | a :: b :: r, 0, d, e, h, h2 => by
    simp at h h2
    subst h h2
    rfl
  | a :: b :: r, i + 1, d, e, h, h2 => by
    unfold stepsD
    simpa using stepsD_get (ds := b :: r) (i := i) (by simpa using h) (by simpa using h2)
theorem pair_of {ds : List PyData} {i : Nat} {d : PyData} (al : ds.all isPairD = true) (h : ds[i]? = some d) : ∃ l r, pairOf d = some (l, r) := by
  have q := List.all_eq_true.mp al d (List.mem_of_getElem? h)
  unfold isPairD at q
  split at q
  · rename_i z e
    exact ⟨z.1, z.2, e⟩
  · cases q
theorem Dq.pair {b : Bool} {p : Addr} {H : Hp} {v : V} {d : PyData} {l r : Int} (h : Dq b p H v d) (e : pairOf d = some (l, r)) : ∃ t, v = .ref t ∧ H t = some (.tup [.int l, .int r]) := by
  unfold pairOf at e
  split at e
  · cases e
    cases h with
    | tup g ne ha =>
      cases ha with
      | cons h1 t1 =>
        cases t1 with
        | cons h2 t2 =>
          cases h1
          cases h2
          cases t2
          exact ⟨_, rfl, g⟩
  · cases e
def loD (d : PyData) : Int :=
  match pairOf d with
  | some q => q.1
  | none => 0
def hiD (d : PyData) : Int :=
  match pairOf d with
  | some q => q.2
  | none => 0
def inOne (n : Int) (d : PyData) : Bool :=
  match pairOf d with
  | some q => decide (q.1 ≤ n) && decide (n ≤ q.2)
  | none => false
def inD (ds : List PyData) (n : Int) : Bool := ds.any (inOne n)
theorem pair_lohi {d : PyData} {l h : Int} (e : pairOf d = some (l, h)) : loD d = l ∧ hiD d = h ∧ ∀ n, inOne n d = (decide (l ≤ n) && decide (n ≤ h)) := by
  unfold loD hiD inOne
  rw [e]
  exact ⟨rfl, rfl, fun _ => rfl⟩
structure Rgs (ds : List PyData) : Prop where
  pr : ∀ i, i < ds.length → pairOf (ds.getD i .none) = some (loD (ds.getD i .none), hiD (ds.getD i .none))
  le : ∀ i, i < ds.length → loD (ds.getD i .none) ≤ hiD (ds.getD i .none)
  st : ∀ i, i + 1 < ds.length → hiD (ds.getD i .none) + 2 ≤ loD (ds.getD (i + 1) .none)
theorem getD_at {ds : List PyData} {i : Nat} (h : i < ds.length) : ds[i]? = some (ds.getD i .none) := by
  rw [List.getD_eq_getElem?_getD, List.getElem?_eq_getElem h]
  rfl
theorem rgs_of {ds : List PyData} (h : isRangesD (.tuple ds) = true) : Rgs ds := by
  have h' : (ds.all isPairD && (stepsD ds).all id) = true := h
  obtain ⟨h1, h2⟩ := Bool.and_eq_true_iff.mp h'
  have pr : ∀ i, i < ds.length → pairOf (ds.getD i .none) = some (loD (ds.getD i .none), hiD (ds.getD i .none)) := fun i hi => by
    obtain ⟨l, r, e⟩ := pair_of h1 (getD_at hi)
    obtain ⟨e1, e2, _⟩ := pair_lohi e
    rw [e1, e2]
    exact e
  refine ⟨pr, fun i hi => ?_, fun i hi => ?_⟩
  · have q := List.all_eq_true.mp h1 _ (List.mem_of_getElem? (getD_at hi))
    unfold isPairD at q
    rw [pr i hi] at q
    exact of_decide_eq_true q
  · have g := stepsD_get (getD_at (show i < ds.length by omega)) (getD_at hi)
    have q := List.all_eq_true.mp h2 _ (List.mem_of_getElem? g)
    unfold stepD at q
    rw [pr i (by omega), pr (i + 1) hi] at q
    exact of_decide_eq_true q
theorem Rgs.up {ds : List PyData} (r : Rgs ds) : ∀ (j i : Nat), i ≤ j → j < ds.length → loD (ds.getD i .none) ≤ loD (ds.getD j .none) ∧ hiD (ds.getD i .none) ≤ hiD (ds.getD j .none)
  | 0, i, h, _ => by
    have e : i = 0 := by omega
    rw [e]
    exact ⟨Int.le_refl _, Int.le_refl _⟩
  | j + 1, i, h, hj => by
    by_cases e : i = j + 1
    · rw [e]
      exact ⟨Int.le_refl _, Int.le_refl _⟩
    · have ih := r.up j i (by omega) (by omega)
      have s1 := r.st j hj
      have s2 := r.le j (by omega)
      have s3 := r.le (j + 1) hj
      omega
theorem Rgs.find {ds : List PyData} (r : Rgs ds) {n : Int} {f : Nat} (hf : f ≤ ds.length) (h1 : ∀ i, i < f → hiD (ds.getD i .none) < n) (h2 : ∀ i, f ≤ i → i < ds.length → n ≤ hiD (ds.getD i .none)) :
    inD ds n = (decide (f < ds.length) && decide (loD (ds.getD f .none) ≤ n)) := by
  have one : ∀ i, i < ds.length → inOne n (ds.getD i .none) = (decide (loD (ds.getD i .none) ≤ n) && decide (n ≤ hiD (ds.getD i .none))) := fun i hi => (pair_lohi (r.pr i hi)).2.2 n
  by_cases hl : f < ds.length ∧ loD (ds.getD f .none) ≤ n
  · rw [decide_eq_true hl.1, decide_eq_true hl.2]
    refine List.any_eq_true.mpr ⟨ds.getD f .none, List.mem_of_getElem? (getD_at hl.1), ?_⟩
    rw [one f hl.1, decide_eq_true hl.2, decide_eq_true (h2 f (Nat.le_refl _) hl.1)]
    rfl
  · have e : (decide (f < ds.length) && decide (loD (ds.getD f .none) ≤ n)) = false := by
      rw [← Bool.decide_and]
      exact decide_eq_false hl
    rw [e]
    refine List.any_eq_false.mpr fun d hd => ?_
    obtain ⟨i, hi, e⟩ := List.getElem_of_mem hd
    have ed : d = ds.getD i .none := by
      have := getD_at hi
      rw [List.getElem?_eq_getElem hi, e] at this
      exact Option.some.inj this
    rw [ed, one i hi]
    by_cases lt : i < f
    · rw [decide_eq_false (show ¬ n ≤ hiD (ds.getD i .none) by have := h1 i lt; omega), Bool.and_false]
      exact Bool.false_ne_true
    · have u := (r.up i f (by omega) hi).1
      have nl : ¬ loD (ds.getD i .none) ≤ n := fun z => hl ⟨by omega, by omega⟩
      rw [decide_eq_false nl, Bool.false_and]
      exact Bool.false_ne_true
def gap : L2.St → Nat
  | [_, _, some (.int x), some (.int y), _] => (y - x).toNat
  | _ => 0
/-! ### rules -/
theorem isiD {X : Cx} {b : Bool} {p : Addr} {H : Hp} {v : V} {d : PyData} (h : Dq b p H v d) {T : String} {r : Bool} (e : ∀ t, TyX X.K H v (.type t) → t ∈ ["NoneType", "bool", "int", "str", "list", "tuple", "dict"] → kitB t T = some r) : ∃ t, TyX X.K H v t ∧ PySem.W.kitOne X.K t (.type T) = some r := by
  cases h with
  | non => exact ⟨_, .base .non, kit_ty (e _ (.base .non) (by decide))⟩
  | bl x => exact ⟨_, .base (.bl x), kit_ty (e _ (.base (.bl x)) (by decide))⟩
  | int x => exact ⟨_, .base (.int x), kit_ty (e _ (.base (.int x)) (by decide))⟩
  | str x => exact ⟨_, .base (.str x), kit_ty (e _ (.base (.str x)) (by decide))⟩
  | lst g _ _ _ => exact ⟨_, .base (.lst g), kit_ty (e _ (.base (.lst g)) (by decide))⟩
  | tup g _ _ => exact ⟨_, .base (.tup g), kit_ty (e _ (.base (.tup g)) (by decide))⟩
  | dc0 _ g _ => exact ⟨_, .base (.dK g), kit_ty (e _ (.base (.dK g)) (by decide))⟩
  | dc1 _ g _ _ => exact ⟨_, .base (.dK g), kit_ty (e _ (.base (.dK g)) (by decide))⟩
theorem tyD {K : PySem.W.Frag} {b : Bool} {p : Addr} {H : Hp} {v : V} {d : PyData} (h : Dq b p H v d) : ∃ t, TyX K H v (.type t) ∧ kitB t "int" = some (isIntD d) ∧ kitB t "bool" = some (isBoolD d) ∧ kitB t "tuple" = some (isTupD d) := by
  cases h with
  | non => exact ⟨_, .base .non, by decide +kernel, by decide +kernel, by decide +kernel⟩
  | bl x => exact ⟨_, .base (.bl x), by show kitB "bool" "int" = some true; decide +kernel, by show kitB "bool" "bool" = some true; decide +kernel, by show kitB "bool" "tuple" = some false; decide +kernel⟩
  | int x => exact ⟨_, .base (.int x), by show kitB "int" "int" = some true; decide +kernel, by show kitB "int" "bool" = some false; decide +kernel, by show kitB "int" "tuple" = some false; decide +kernel⟩
  | str x => exact ⟨_, .base (.str x), by show kitB "str" "int" = some false; decide +kernel, by show kitB "str" "bool" = some false; decide +kernel, by show kitB "str" "tuple" = some false; decide +kernel⟩
  | lst g _ _ _ => exact ⟨_, .base (.lst g), by show kitB "list" "int" = some false; decide +kernel, by show kitB "list" "bool" = some false; decide +kernel, by show kitB "list" "tuple" = some false; decide +kernel⟩
  | tup g _ _ => exact ⟨_, .base (.tup g), by show kitB "tuple" "int" = some false; decide +kernel, by show kitB "tuple" "bool" = some false; decide +kernel, by show kitB "tuple" "tuple" = some true; decide +kernel⟩
  | dc0 _ g _ => exact ⟨_, .base (.dK g), by show kitB "dict" "int" = some false; decide +kernel, by show kitB "dict" "bool" = some false; decide +kernel, by show kitB "dict" "tuple" = some false; decide +kernel⟩
  | dc1 _ g _ _ => exact ⟨_, .base (.dK g), by show kitB "dict" "int" = some false; decide +kernel, by show kitB "dict" "bool" = some false; decide +kernel, by show kitB "dict" "tuple" = some false; decide +kernel⟩
section
variable {X : Cx}
theorem call_isiInt : CallR X (.builtin "isinstance") (fun xs H Q => ∃ v d b p, xs = [v, .ty "int"] ∧ Dq b p H v d ∧ Q (.bl (isIntD d)) H) := by
  intro pins s σ H xs us Q I r h
  obtain ⟨v, d, b, p, e, hd, q⟩ := h
  obtain ⟨t, ty, k1, k2, k3⟩ := tyD (K := X.K) hd
  exact call_isi pins s σ H xs us Q I r ⟨v, _, _, _, _, e, .ty _, ty, kit_ty k1, q⟩
theorem call_isiBool : CallR X (.builtin "isinstance") (fun xs H Q => ∃ v d b p, xs = [v, .ty "bool"] ∧ Dq b p H v d ∧ Q (.bl (isBoolD d)) H) := by
  intro pins s σ H xs us Q I r h
  obtain ⟨v, d, b, p, e, hd, q⟩ := h
  obtain ⟨t, ty, k1, k2, k3⟩ := tyD (K := X.K) hd
  exact call_isi pins s σ H xs us Q I r ⟨v, _, _, _, _, e, .ty _, ty, kit_ty k2, q⟩
theorem call_isiTup : CallR X (.builtin "isinstance") (fun xs H Q => ∃ v d b p, xs = [v, .ty "tuple"] ∧ Dq b p H v d ∧ Q (.bl (isTupD d)) H) := by
  intro pins s σ H xs us Q I r h
  obtain ⟨v, d, b, p, e, hd, q⟩ := h
  obtain ⟨t, ty, k1, k2, k3⟩ := tyD (K := X.K) hd
  exact call_isi pins s σ H xs us Q I r ⟨v, _, _, _, _, e, .ty _, ty, kit_ty k3, q⟩
end
/-! ### pairs as tuples of two numbers -/
def prD (q : Int × Int) : PyData := .tuple [.int q.1, .int q.2]
theorem pairOf_pr (q : Int × Int) : pairOf (prD q) = some q := rfl
/-- v is a tuple of the two numbers q -/
def PrAt (H : Hp) (v : V) (q : Int × Int) : Prop := ∃ t, v = .ref t ∧ H t = some (.tup [.int q.1, .int q.2])
abbrev PrAll (H : Hp) : List V → List (Int × Int) → Prop := Paired (PrAt H)
/-- tuples stay -/
def TK (H H' : Hp) : Prop := ∀ b xs, H b = some (.tup xs) → H' b = some (.tup xs)
theorem TK.refl (H : Hp) : TK H H := fun _ _ h => h
theorem TK.trans {H H1 H2 : Hp} (a : TK H H1) (b : TK H1 H2) : TK H H2 := fun c xs h => b c xs (a c xs h)
theorem TK.of {H H' : Hp} (s : Same H H') : TK H H' := fun b xs h => s b _ h
theorem TK.kp {p : Addr} {H H' : Hp} (k : Kp p H H') {ys : List V} (e : H p = some (.lst ys)) : TK H H' := fun b xs h => k b _ (fun z => by rw [z, e] at h; cases h) h
theorem TK.put {l : Addr} {H : Hp} {ys : List V} {o : HO} (e : H l = some (.lst ys)) : TK H (upd H l o) := fun b xs h => by
  rw [upd_ne (fun z => by rw [z, e] at h; cases h)]
  exact h
theorem PrAll.tk {H H' : Hp} {xs : List V} {ps : List (Int × Int)} (h : PrAll H xs ps) (k : TK H H') : PrAll H' xs ps := Paired.mono (fun v q ⟨t, e1, e2⟩ => ⟨t, e1, k _ _ e2⟩) h
theorem PrAll.len {H : Hp} {xs : List V} {ps : List (Int × Int)} (h : PrAll H xs ps) : xs.length = ps.length := Paired.length h
theorem PrAll.snoc {H : Hp} {xs : List V} {ps : List (Int × Int)} {v : V} {q : Int × Int} (h : PrAll H xs ps) (k : PrAt H v q) : PrAll H (xs ++ [v]) (ps ++ [q]) := Paired.snoc h k
theorem PrAll.dq {b : Bool} {p : Addr} {H : Hp} {ys : List V} (e : H p = some (.lst ys)) : ∀ {xs : List V} {ps : List (Int × Int)}, PrAll H xs ps → DqAll b p H xs (ps.map prD)
  | _, _, .nil => .nil
  | _, _, .cons ⟨t, e1, e2⟩ r => by
    subst e1
    exact .cons (.tup e2 (fun z => by rw [z, e] at e2; cases e2) (.cons (.int _) (.cons (.int _) .nil))) (PrAll.dq e r)
theorem Kp.putNew {p l : Addr} {H H' : Hp} {o : HO} (k : Kp p H H') (hl : H l = none) : Kp p H (upd H' l o) := fun b u n e => by
  rw [upd_ne (ne_of_none e hl)]
  exact k b u n e
theorem Pot.eq {p : Addr} {H H' : Hp} {m : Nat} (h : Pot H p m) (e : H' p = H p) : Pot H' p m := by
  obtain ⟨a, b, c, g, r⟩ := h
  exact ⟨a, b, c, e.trans g, r⟩
theorem menu6 {w a b c : Int} (hw : 0 ≤ w) (ha : 0 ≤ a ∧ a ≤ 5) (hb : 0 ≤ b ∧ b ≤ 5) (hc : 0 ≤ c ∧ c ≤ 5) {x : V} (h : x ∈ [V.int 0, V.int 0, V.int a, V.int b, V.int c, V.int w]) : ∃ v, x = .int v ∧ 0 ≤ v ∧ v ≤ w + 5 := by
  simp only [List.mem_cons, List.not_mem_nil, or_false] at h
  rcases h with rfl | rfl | rfl | rfl | rfl | rfl
  · exact ⟨0, rfl, by omega, by omega⟩
  · exact ⟨0, rfl, by omega, by omega⟩
  · exact ⟨a, rfl, by omega, by omega⟩
  · exact ⟨b, rfl, by omega, by omega⟩
  · exact ⟨c, rfl, by omega, by omega⟩
  · exact ⟨w, rfl, by omega, by omega⟩
theorem menu5 {w a b : Int} (hw : 0 ≤ w) (ha : 0 ≤ a ∧ a ≤ 5) (hb : 0 ≤ b ∧ b ≤ 5) {x : V} (h : x ∈ [V.int 0, V.int 0, V.int a, V.int b, V.int w]) : ∃ v, x = .int v ∧ 0 ≤ v ∧ v ≤ w + 5 := by
  simp only [List.mem_cons, List.not_mem_nil, or_false] at h
  rcases h with rfl | rfl | rfl | rfl | rfl
  · exact ⟨0, rfl, by omega, by omega⟩
  · exact ⟨0, rfl, by omega, by omega⟩
  · exact ⟨a, rfl, by omega, by omega⟩
  · exact ⟨b, rfl, by omega, by omega⟩
  · exact ⟨w, rfl, by omega, by omega⟩
theorem pair_intro : ∀ {es : List PyData}, es.length = 2 → es.all isNumD = true → ∃ q, pairOf (.tuple es) = some q
  | [], h, _ => by cases h
  | [_], h, _ => by cases h
  | a :: b :: c :: r, h, _ => by simp at h
  | [a, b], _, h => by
    have h' : (isNumD a && (isNumD b && true)) = true := h
    cases a with
    | int x =>
      cases b with
      | int y => exact ⟨(x, y), rfl⟩
      | none => cases h'
      | bool _ => cases h'
      | str _ => cases h'
      | list _ => cases h'
      | tuple _ => cases h'
      | dict _ => cases h'
    | none => cases h'
    | bool _ => cases h'
    | str _ => cases h'
    | list _ => cases h'
    | tuple _ => cases h'
    | dict _ => cases h'
theorem pair_some {es : List PyData} {q : Int × Int} (h : pairOf (.tuple es) = some q) : es.length = 2 ∧ es.all isNumD = true := by
  unfold pairOf at h
  split at h
  · rename_i e
    cases e
    exact ⟨rfl, rfl⟩
  · cases h
theorem not_pair {d : PyData} (h : pairOf d = none) : isPairD d = false := by
  unfold isPairD
  rw [h]
theorem not_ranges {ds : List PyData} {i : Nat} {d : PyData} (e : ds[i]? = some d) (h : isPairD d = false) : isRangesD (.tuple ds) = false := by
  have n : ds.all isPairD = false := by
    cases q : ds.all isPairD with
    | false => rfl
    | true =>
      have := List.all_eq_true.mp q d (List.mem_of_getElem? e)
      rw [h] at this
      cases this
  show (ds.all isPairD && (stepsD ds).all id) = false
  rw [n]
  rfl
end Pf

set_option Elab.async false
set_option linter.all false
set_option maxRecDepth 100000
/-! Data without a heap: what stands in slots, as trees; frames; the pot. -/
namespace DL
open PySem PySem.Spec PyProof.Rows L2
/-- a value with all that hangs on it -/
inductive PD where
  | non | bl (b : Bool) | int (i : Int) | str (s : Str) | ty (n : String)
  | lst (xs : List PD) | tup (xs : List PD) | ins (C : Addr) (ns : List Str) (xs : List PD) | dic (ks : List Key) (xs : List PD)
mutual
/-- v is d in H, and nothing of it stands in Z -/
inductive Dat (Z : Addr → Prop) (H : Hp) : V → PD → Prop
  | non : Dat Z H .non .non
  | bl (b : Bool) : Dat Z H (.bl b) (.bl b)
  | int (i : Int) : Dat Z H (.int i) (.int i)
  | str (s : Str) : Dat Z H (.str s) (.str s)
  | ty (n : String) : Dat Z H (.ty n) (.ty n)
  | lst {a : Addr} {xs : List V} {ds : List PD} : H a = some (.lst xs) → ¬ Z a → xs.length ≤ sizeLine → DatAll Z H xs ds → Dat Z H (.ref a) (.lst ds)
  | tup {a : Addr} {xs : List V} {ds : List PD} : H a = some (.tup xs) → ¬ Z a → xs.length ≤ sizeLine → DatAll Z H xs ds → Dat Z H (.ref a) (.tup ds)
  | ins {a C dx : Addr} {fs : List (Str × V)} {ds : List PD} : H a = some (.ins C dx fs) → ¬ Z a → DatAll Z H (fs.map (·.2)) ds → Dat Z H (.ref a) (.ins C (fs.map (·.1)) ds)
  | dic {a : Addr} {kvs : List (Key × V)} {ds : List PD} : H a = some (.dK kvs) → ¬ Z a → kvs.length ≤ sizeLine → DatAll Z H (kvs.map (·.2)) ds → Dat Z H (.ref a) (.dic (kvs.map (·.1)) ds)
inductive DatAll (Z : Addr → Prop) (H : Hp) : List V → List PD → Prop
  | nil : DatAll Z H [] []
  | cons {v : V} {vs : List V} {d : PD} {ds : List PD} : Dat Z H v d → DatAll Z H vs ds → DatAll Z H (v :: vs) (d :: ds)
end
section
variable {Z Z' : Addr → Prop} {H H' : Hp}
mutual
theorem Dat.go (k : ∀ b o, H b = some o → ¬ Z b → H' b = some o ∧ ¬ Z' b) : ∀ {v : V} {d : PD}, Dat Z H v d → Dat Z' H' v d
  | _, _, .non => .non
  | _, _, .bl b => .bl b
  | _, _, .int b => .int b
  | _, _, .str b => .str b
  | _, _, .ty b => .ty b
  | _, _, .lst e z l r => .lst (k _ _ e z).1 (k _ _ e z).2 l (DatAll.go k r)
  | _, _, .tup e z l r => .tup (k _ _ e z).1 (k _ _ e z).2 l (DatAll.go k r)
  | _, _, .ins e z r => .ins (k _ _ e z).1 (k _ _ e z).2 (DatAll.go k r)
  | _, _, .dic e z l r => .dic (k _ _ e z).1 (k _ _ e z).2 l (DatAll.go k r)
theorem DatAll.go (k : ∀ b o, H b = some o → ¬ Z b → H' b = some o ∧ ¬ Z' b) : ∀ {vs : List V} {ds : List PD}, DatAll Z H vs ds → DatAll Z' H' vs ds
  | _, _, .nil => .nil
  | _, _, .cons h t => .cons (Dat.go k h) (DatAll.go k t)
end
theorem DatAll.len : ∀ {vs : List V} {ds : List PD}, DatAll Z H vs ds → vs.length = ds.length
  | _, _, .nil => rfl
  | _, _, .cons _ t => congrArg Nat.succ (DatAll.len t)
theorem DatAll.get : ∀ {vs : List V} {ds : List PD} {i : Nat} {v : V}, DatAll Z H vs ds → vs[i]? = some v → ∃ d, ds[i]? = some d ∧ Dat Z H v d
  | _, _, _, _, .nil, e => by simp at e
  | _, _, 0, _, .cons h _, e => by
    simp at e
    subst e
    exact ⟨_, rfl, h⟩
  | _, _, i + 1, _, .cons _ t, e => by
    obtain ⟨d, e1, e2⟩ := DatAll.get (i := i) t (by simpa using e)
    exact ⟨d, by simpa using e1, e2⟩
theorem DatAll.put : ∀ {vs : List V} {ds : List PD} {i : Nat} {d : PD}, DatAll Z H vs ds → ds[i]? = some d → ∃ v, vs[i]? = some v ∧ Dat Z H v d
  | _, _, _, _, .nil, e => by simp at e
  | _, _, 0, _, .cons h _, e => by
    simp at e
    subst e
    exact ⟨_, rfl, h⟩
  | _, _, i + 1, _, .cons _ t, e => by
    obtain ⟨d, e1, e2⟩ := DatAll.put (i := i) t (by simpa using e)
    exact ⟨d, by simpa using e1, e2⟩
theorem DatAll.app : ∀ {vs ws : List V} {ds es : List PD}, DatAll Z H vs ds → DatAll Z H ws es → DatAll Z H (vs ++ ws) (ds ++ es)
  | _, _, _, _, .nil, s => s
  | _, _, _, _, .cons r t, s => .cons r (DatAll.app t s)
theorem DatAll.snoc {vs : List V} {ds : List PD} {v : V} {d : PD} (h : DatAll Z H vs ds) (k : Dat Z H v d) : DatAll Z H (vs ++ [v]) (ds ++ [d]) := h.app (.cons k .nil)
theorem DatAll.take : ∀ {vs : List V} {ds : List PD} (n : Nat), DatAll Z H vs ds → DatAll Z H (vs.take n) (ds.take n)
  | _, _, 0, _ => .nil
  | _, _, _ + 1, .nil => .nil
  | _, _, n + 1, .cons r t => .cons r (DatAll.take n t)
theorem DatAll.drop : ∀ {vs : List V} {ds : List PD} (n : Nat), DatAll Z H vs ds → DatAll Z H (vs.drop n) (ds.drop n)
  | _, _, 0, r => r
  | _, _, _ + 1, .nil => .nil
  | _, _, n + 1, .cons _ t => DatAll.drop n t
theorem DatAll.rev : ∀ {vs : List V} {ds : List PD}, DatAll Z H vs ds → DatAll Z H vs.reverse ds.reverse
  | _, _, .nil => .nil
  | _, _, .cons h t => by
    rw [List.reverse_cons, List.reverse_cons]
    exact (DatAll.rev t).snoc h
theorem DatAll.set {v : V} {d : PD} (h : Dat Z H v d) : ∀ {vs : List V} {ds : List PD} (i : Nat), DatAll Z H vs ds → DatAll Z H (vs.set i v) (ds.set i d)
  | _, _, _, .nil => .nil
  | _, _, 0, .cons _ t => .cons h t
  | _, _, i + 1, .cons q t => .cons q (DatAll.set h i t)
theorem DatAll.erase : ∀ {vs : List V} {ds : List PD} (i : Nat), DatAll Z H vs ds → DatAll Z H (vs.eraseIdx i) (ds.eraseIdx i)
  | _, _, _, .nil => .nil
  | _, _, 0, .cons _ t => t
  | _, _, i + 1, .cons q t => .cons q (DatAll.erase i t)
theorem Dat.same (e : Same H H') {v : V} {d : PD} (h : Dat Z H v d) : Dat Z H' v d := h.go fun b o x z => ⟨e b o x, z⟩
theorem DatAll.same (e : Same H H') {v : List V} {d : List PD} (h : DatAll Z H v d) : DatAll Z H' v d := h.go fun b o x z => ⟨e b o x, z⟩
/-- a place that is free is none of d's -/
theorem Dat.add {q : Addr} (n : H q = none) {v : V} {d : PD} (h : Dat Z H v d) : Dat (fun b => Z b ∨ b = q) H v d := h.go fun b o x z => ⟨x, fun w => w.elim z fun w => by rw [w, n] at x; cases x⟩
theorem DatAll.add {q : Addr} (n : H q = none) {v : List V} {d : List PD} (h : DatAll Z H v d) : DatAll (fun b => Z b ∨ b = q) H v d := h.go fun b o x z => ⟨x, fun w => w.elim z fun w => by rw [w, n] at x; cases x⟩
theorem Dat.anti (k : ∀ b, Z' b → Z b) {v : V} {d : PD} (h : Dat Z H v d) : Dat Z' H v d := h.go fun b o x z => ⟨x, fun w => z (k b w)⟩
theorem DatAll.anti (k : ∀ b, Z' b → Z b) {v : List V} {d : List PD} (h : DatAll Z H v d) : DatAll Z' H v d := h.go fun b o x z => ⟨x, fun w => z (k b w)⟩
theorem DatAll.ints : ∀ {vs : List V} {ns : List Int}, DatAll Z H vs (ns.map .int) → vs = ns.map .int
  | _, [], .nil => rfl
  | _, n :: r, .cons h t => by
    cases h
    rw [DatAll.ints t]
    rfl
theorem DatAll.ofInts : ∀ {ns : List Int}, DatAll Z H (ns.map .int) (ns.map .int)
  | [] => .nil
  | n :: r => .cons (.int n) DatAll.ofInts
theorem DatAll.bools : ∀ {vs : List V} {ns : List Bool}, DatAll Z H vs (ns.map .bl) → vs = ns.map .bl
  | _, [], .nil => rfl
  | _, n :: r, .cons h t => by
    cases h
    rw [DatAll.bools t]
    rfl
theorem DatAll.strs : ∀ {vs : List V} {ns : List Str}, DatAll Z H vs (ns.map .str) → vs = ns.map .str
  | _, [], .nil => rfl
  | _, n :: r, .cons h t => by
    cases h
    rw [DatAll.strs t]
    rfl
end
/-! ### the pot -/
/-- what is left of the cell, the mixed number, the draws so far (at most m) -/
def Pot (H : Hp) (p : Addr) (m : Nat) : Prop := ∃ a b c : Int, H p = some (.lst [.int a, .int b, .int c]) ∧ 0 ≤ a ∧ a.natAbs < 2 ^ 1000 ∧ 0 ≤ b ∧ b < 2 ^ 61 ∧ 0 ≤ c ∧ c ≤ m
theorem Pot.up {H : Hp} {p : Addr} {m n : Nat} (h : Pot H p m) (l : m ≤ n) : Pot H p n := by
  obtain ⟨a, b, c, e, h1, h2, h3, h4, h5, h6⟩ := h
  exact ⟨a, b, c, e, h1, h2, h3, h4, h5, by omega⟩
theorem Pot.eq {p : Addr} {H H' : Hp} {m : Nat} (h : Pot H p m) (e : ∀ o, H p = some o → H' p = some o) : Pot H' p m := by
  obtain ⟨a, b, c, g, r⟩ := h
  exact ⟨a, b, c, e _ g, r⟩
/-! ### slots -/
inductive SD where
  | un | dat (d : PD) | own (ds : List PD) | pot
structure Bs where
  Z : Addr → Prop
  p : Addr
  H0 : Hp
  n0 : Nat
  M : Nat
def Bs.add (B : Bs) (q : Addr) : Bs := { B with Z := fun b => B.Z b ∨ b = q }
def Own (δ : List SD) (A : Nat → Addr) (b : Addr) : Prop := ∃ (i : Nat) (ds : List PD), δ[i]? = some (SD.own ds) ∧ A i = b
def Zs (Z : Addr → Prop) (δ : List SD) (A : Nat → Addr) (b : Addr) : Prop := Z b ∨ Own δ A b
def setA (A : Nat → Addr) (i : Nat) (q : Addr) : Nat → Addr := fun k => if k = i then q else A k
theorem setA_same {A : Nat → Addr} {i : Nat} {q : Addr} : setA A i q i = q := if_pos rfl
theorem setA_ne {A : Nat → Addr} {i k : Nat} {q : Addr} (h : i ≠ k) : setA A i q k = A k := if_neg (Ne.symm h)
/-- something stands there, and no tuple -/
def Mu (H : Hp) (b : Addr) : Prop := ∃ o, H b = some o ∧ ∀ xs, o ≠ .tup xs
theorem Mu.ne {H : Hp} {b : Addr} (h : Mu H b) : H b ≠ none := fun z => by
  obtain ⟨o, e, _⟩ := h
  rw [e] at z
  cases z
theorem Mu.same {H H' : Hp} {b : Addr} (h : Mu H b) (e : ∀ o, H b = some o → H' b = some o) : Mu H' b := let ⟨o, a, k⟩ := h; ⟨o, e o a, k⟩
structure Rep (B : Bs) (n : Nat) (σ : L2.St) (H : Hp) (δ : List SD) (A : Nat → Addr) : Prop where
  len : δ.length = σ.length
  dat : ∀ (i : Nat) (d : PD), δ[i]? = some (SD.dat d) → ∃ v, σ[i]? = some (some v) ∧ Dat (Zs B.Z δ A) H v d
  own : ∀ (i : Nat) (ds : List PD), δ[i]? = some (SD.own ds) → σ[i]? = some (some (V.ref (A i))) ∧ ¬ B.Z (A i) ∧ B.H0 (A i) = none ∧ ∃ xs, H (A i) = some (.lst xs) ∧ xs.length ≤ sizeLine ∧ DatAll (Zs B.Z δ A) H xs ds
  inj : ∀ (i j : Nat) (ds es : List PD), δ[i]? = some (SD.own ds) → δ[j]? = some (SD.own es) → A i = A j → i = j
  pot : ∀ i : Nat, δ[i]? = some SD.pot → σ[i]? = some (some (V.ref B.p))
  dom : ∀ b, B.Z b → Mu H b
  base : ∀ b o, B.H0 b = some o → (b ≠ B.p ∨ n = B.n0) → H b = some o
  bud : 0 < B.n0 → B.Z B.p ∧ ∃ m, Pot H B.p m ∧ m + n ≤ B.M
  le : n ≤ B.n0
  few : B.M < 1000000
/-- what an expression may have done -/
def Chg (p : Addr) (n n' : Nat) (H H' : Hp) : Prop := n' ≤ n ∧ ∀ b o, H b = some o → (b ≠ p ∨ n' = n) → H' b = some o
theorem Chg.refl {p : Addr} {n : Nat} {H : Hp} : Chg p n n H H := ⟨Nat.le_refl _, fun _ _ h _ => h⟩
theorem Chg.of {p : Addr} {n : Nat} {H H' : Hp} (e : Same H H') : Chg p n n H H' := ⟨Nat.le_refl _, fun b o h _ => e b o h⟩
theorem Chg.trans {p : Addr} {n n1 n2 : Nat} {H H1 H2 : Hp} (a : Chg p n n1 H H1) (b : Chg p n1 n2 H1 H2) : Chg p n n2 H H2 :=
  ⟨Nat.le_trans b.1 a.1, fun c o h w => b.2 c o (a.2 c o h (w.imp id fun w => by have := a.1; have := b.1; omega)) (w.imp id fun w => by have := a.1; have := b.1; omega)⟩
section
variable {B : Bs} {n n' : Nat} {σ : L2.St} {H H' : Hp} {δ : List SD} {A : Nat → Addr}
theorem Rep.domN (R : Rep B n σ H δ A) : ∀ b, B.Z b → H b ≠ none := fun b z => (R.dom b z).ne
theorem Rep.zmu (R : Rep B n σ H δ A) {b : Addr} (z : Zs B.Z δ A b) : Mu H b := by
  rcases z with z | ⟨i, ds, e, rfl⟩
  · exact R.dom b z
  · obtain ⟨_, _, _, xs, h, _⟩ := R.own i ds e
    exact ⟨_, h, fun _ z => by cases z⟩
theorem Rep.zdom (R : Rep B n σ H δ A) {b : Addr} (z : Zs B.Z δ A b) : H b ≠ none := by
  rcases z with z | ⟨i, ds, e, rfl⟩
  · exact R.domN b z
  · obtain ⟨_, _, _, xs, h, _⟩ := R.own i ds e
    rw [h]
    exact Option.some_ne_none _
theorem Rep.off (R : Rep B n σ H δ A) {b : Addr} (z : ¬ Zs B.Z δ A b) (l : n' ≤ n) : b ≠ B.p ∨ n' = n := by
  by_cases h : 0 < B.n0
  · exact .inl fun e => z (.inl (e ▸ (R.bud h).1))
  · have := R.le
    exact .inr (by omega)
theorem Rep.go (R : Rep B n σ H δ A) (c : Chg B.p n n' H H') : ∀ b o, H b = some o → ¬ Zs B.Z δ A b → H' b = some o ∧ ¬ Zs B.Z δ A b := fun b o h z => ⟨c.2 b o h (R.off z c.1), z⟩
theorem Rep.datGo (R : Rep B n σ H δ A) (c : Chg B.p n n' H H') {v : V} {d : PD} (h : Dat (Zs B.Z δ A) H v d) : Dat (Zs B.Z δ A) H' v d := h.go (R.go c)
theorem Rep.allGo (R : Rep B n σ H δ A) (c : Chg B.p n n' H H') {v : List V} {d : List PD} (h : DatAll (Zs B.Z δ A) H v d) : DatAll (Zs B.Z δ A) H' v d := h.go (R.go c)
theorem Rep.ext (R : Rep B n σ H δ A) (e : Same H H') : Rep B n σ H' δ A where
  len := R.len
  dat := fun i d h => let ⟨v, a, b⟩ := R.dat i d h; ⟨v, a, b.same e⟩
  own := fun i ds h => let ⟨a, b, c, xs, h1, h2, h3⟩ := R.own i ds h; ⟨a, b, c, xs, e _ _ h1, h2, h3.same e⟩
  inj := R.inj
  pot := R.pot
  dom := fun b z => (R.dom b z).same fun o => e b o
  base := fun b o h w => e _ _ (R.base b o h w)
  bud := fun h => ⟨(R.bud h).1, let ⟨m, a, b⟩ := (R.bud h).2; ⟨m, a.eq fun o x => e _ _ x, b⟩⟩
  le := R.le
  few := R.few
theorem Rep.free0 (R : Rep B n σ H δ A) {q : Addr} (h : H q = none) : B.H0 q = none ∧ ¬ B.Z q ∧ ¬ Zs B.Z δ A q := by
  refine ⟨?_, fun z => R.domN q z h, fun z => R.zdom z h⟩
  cases e : B.H0 q with
  | none => rfl
  | some o =>
    by_cases w : q ≠ B.p ∨ n = B.n0
    · rw [R.base q o e w] at h
      cases h
    · exfalso
      have w1 : q = B.p := Classical.byContradiction fun z => w (.inl z)
      have w2 : n ≠ B.n0 := fun z => w (.inr z)
      have := R.le
      exact R.domN q (w1 ▸ (R.bud (by omega)).1) h
/-- one more place that is none of the data -/
theorem Rep.more (R : Rep B n σ H δ A) {q : Addr} {o : HO} (h : H q = none) (ho : ∀ xs, o ≠ .tup xs := by intro _ z; cases z) : Rep (B.add q) n σ (upd H q o) δ A := by
  obtain ⟨f0, f1, f2⟩ := R.free0 h
  have e : Same H (upd H q o) := fun b u x => by
    rw [upd_ne (ne_of_none x h)]
    exact x
  have R' := R.ext e
  have zz : ∀ b, Zs (B.add q).Z δ A b → Zs B.Z δ A b ∨ b = q := fun b z => z.elim (fun z => z.imp .inl id) fun z => .inl (.inr z)
  have dd : ∀ {v d}, Dat (Zs B.Z δ A) H v d → Dat (Zs (B.add q).Z δ A) (upd H q o) v d := fun x => ((x.add h).same e).anti zz
  have da : ∀ {v d}, DatAll (Zs B.Z δ A) H v d → DatAll (Zs (B.add q).Z δ A) (upd H q o) v d := fun x => ((x.add h).same e).anti zz
  refine ⟨R.len, fun i d g => ?_, fun i ds g => ?_, R.inj, R.pot, fun b z => ?_, R'.base, fun g => ⟨.inl (R.bud g).1, (R'.bud g).2⟩, R.le, R.few⟩
  · obtain ⟨v, a, b⟩ := R.dat i d g
    exact ⟨v, a, dd b⟩
  · obtain ⟨a, b, c, xs, h1, h2, h3⟩ := R.own i ds g
    refine ⟨a, fun z => z.elim b fun z => ?_, c, xs, e _ _ h1, h2, da h3⟩
    rw [z, h] at h1
    cases h1
  · rcases z with z | z
    · exact R'.dom b z
    · rw [z]
      exact ⟨o, upd_same, ho⟩
theorem own_set {i : Nat} {a : SD} (h : ∀ ds, δ[i]? ≠ some (SD.own ds)) (ha : ∀ ds, a ≠ .own ds) {b : Addr} : Own (δ.set i a) A b ↔ Own δ A b := by
  constructor
  · rintro ⟨j, ds, e, r⟩
    by_cases q : i = j
    · subst q
      by_cases l : i < δ.length
      · rw [List.getElem?_set_self l] at e
        exact absurd (Option.some.inj e) (ha ds)
      · rw [List.getElem?_eq_none (by simpa using l)] at e
        cases e
    · rw [List.getElem?_set_ne q] at e
      exact ⟨j, ds, e, r⟩
  · rintro ⟨j, ds, e, r⟩
    by_cases q : i = j
    · subst q
      exact absurd e (h ds)
    · exact ⟨j, ds, by rw [List.getElem?_set_ne q]; exact e, r⟩
theorem zs_set {Z : Addr → Prop} {i : Nat} {a : SD} (h : ∀ ds, δ[i]? ≠ some (SD.own ds)) (ha : ∀ ds, a ≠ .own ds) : Zs Z (δ.set i a) A = Zs Z δ A := funext fun b => propext (or_congr_right (own_set h ha))
/-- a slot gets data -/
theorem Rep.put (R : Rep B n σ H δ A) {i : Nat} {v : V} {d : PD} (h : ∀ ds, δ[i]? ≠ some (SD.own ds)) (hd : Dat (Zs B.Z δ A) H v d) : Rep B n (σ.set i (some v)) H (δ.set i (.dat d)) A := by
  have z : Zs B.Z (δ.set i (.dat d)) A = Zs B.Z δ A := zs_set h fun _ e => by cases e
  have ow : ∀ j ds, (δ.set i (.dat d))[j]? = some (SD.own ds) → i ≠ j ∧ δ[j]? = some (SD.own ds) := fun j ds e => by
    by_cases q : i = j
    · subst q
      by_cases l : i < δ.length
      · rw [List.getElem?_set_self l] at e
        cases e
      · rw [List.getElem?_eq_none (by simpa using l)] at e
        cases e
    · rw [List.getElem?_set_ne q] at e
      exact ⟨q, e⟩
  refine ⟨by rw [List.length_set, List.length_set]; exact R.len, fun j e g => ?_, fun j ds g => ?_, fun j k ds es g1 g2 => R.inj j k ds es (ow j ds g1).2 (ow k es g2).2, fun j g => ?_, R.dom, R.base, R.bud, R.le, R.few⟩
  · rw [z]
    by_cases q : i = j
    · subst q
      by_cases l : i < δ.length
      · rw [List.getElem?_set_self l] at g
        cases g
        exact ⟨v, List.getElem?_set_self (by rw [← R.len]; exact l), hd⟩
      · rw [List.getElem?_eq_none (by simpa using l)] at g
        cases g
    · rw [List.getElem?_set_ne q] at g ⊢
      exact R.dat j e g
  · obtain ⟨q, g⟩ := ow j ds g
    rw [z, List.getElem?_set_ne q]
    exact R.own j ds g
  · by_cases q : i = j
    · subst q
      by_cases l : i < δ.length
      · rw [List.getElem?_set_self l] at g
        cases g
      · rw [List.getElem?_eq_none (by simpa using l)] at g
        cases g
    · rw [List.getElem?_set_ne q] at g ⊢
      exact R.pot j g
/-- a slot gets a list that nothing else holds -/
theorem Rep.adopt' {q : Addr} (R : Rep (B.add q) n σ H δ A) {i : Nat} {xs : List V} {ds : List PD} (hi : i < δ.length) (h : ∀ ds, δ[i]? ≠ some (SD.own ds)) (f : ¬ B.Z q) (f0 : B.H0 q = none) (hq : H q = some (.lst xs)) (hl : xs.length ≤ sizeLine)
    (hd : DatAll (Zs (B.add q).Z δ A) H xs ds) (np : 0 < B.n0 → q ≠ B.p) : Rep B n (σ.set i (some (.ref q))) H (δ.set i (.own ds)) (setA A i q) := by
  have ow : ∀ j es, (δ.set i (.own ds))[j]? = some (SD.own es) → (j = i ∧ es = ds) ∨ (i ≠ j ∧ δ[j]? = some (SD.own es)) := fun j es e => by
    by_cases w : i = j
    · subst w
      rw [List.getElem?_set_self hi] at e
      cases e
      exact .inl ⟨rfl, rfl⟩
    · rw [List.getElem?_set_ne w] at e
      exact .inr ⟨w, e⟩
  have zz : ∀ b, Zs B.Z (δ.set i (.own ds)) (setA A i q) b → Zs (B.add q).Z δ A b := by
    rintro b (z | ⟨j, es, e, r⟩)
    · exact .inl (.inl z)
    · rcases ow j es e with ⟨rfl, rfl⟩ | ⟨w, e⟩
      · rw [setA_same] at r
        exact .inl (.inr r.symm)
      · rw [setA_ne w] at r
        exact .inr ⟨j, es, e, r⟩
  refine ⟨by rw [List.length_set, List.length_set]; exact R.len, fun j e g => ?_, fun j es g => ?_, fun j k es ts g1 g2 a => ?_, fun j g => ?_, fun b z => R.dom b (.inl z), R.base, fun g => ⟨?_, (R.bud g).2⟩, R.le, R.few⟩
  · by_cases w : i = j
    · subst w
      rw [List.getElem?_set_self hi] at g
      cases g
    · rw [List.getElem?_set_ne w] at g ⊢
      obtain ⟨v, a, b⟩ := R.dat j e g
      exact ⟨v, a, b.anti zz⟩
  · rcases ow j es g with ⟨rfl, rfl⟩ | ⟨w, g⟩
    · rw [setA_same]
      exact ⟨List.getElem?_set_self (by rw [← R.len]; exact hi), f, f0, xs, hq, hl, hd.anti zz⟩
    · rw [setA_ne w, List.getElem?_set_ne w]
      obtain ⟨a, b, c, ys, h1, h2, h3⟩ := R.own j es g
      exact ⟨a, fun z => b (.inl z), c, ys, h1, h2, h3.anti zz⟩
  · rcases ow j es g1 with ⟨e1, _⟩ | ⟨w1, e1⟩
    · rcases ow k ts g2 with ⟨e2, _⟩ | ⟨w2, e2⟩
      · rw [e1, e2]
      · rw [e1, setA_same, setA_ne w2] at a
        exact absurd (.inr a.symm) (R.own k ts e2).2.1
    · rcases ow k ts g2 with ⟨e2, _⟩ | ⟨w2, e2⟩
      · rw [e2, setA_same, setA_ne w1] at a
        exact absurd (.inr a) (R.own j es e1).2.1
      · rw [setA_ne w1, setA_ne w2] at a
        exact R.inj j k es ts e1 e2 a
  · by_cases w : i = j
    · subst w
      rw [List.getElem?_set_self hi] at g
      cases g
    · rw [List.getElem?_set_ne w] at g ⊢
      exact R.pot j g
  · rcases (R.bud g).1 with z | z
    · exact z
    · exact absurd z.symm (np g)
/-- what is known may be forgotten; an own list may be looked at as data -/
def SD.le (a b : SD) : Prop := b = a ∨ b = .un ∨ ∃ ds, a = .own ds ∧ b = .dat (.lst ds)
def Wk : List SD → List SD → Prop
  | [], [] => True
  | a :: r, b :: s => SD.le a b ∧ Wk r s
  | _, _ => False
theorem Wk.refl : ∀ δ : List SD, Wk δ δ
  | [] => trivial
  | a :: r => ⟨.inl rfl, Wk.refl r⟩
theorem Wk.len : ∀ {δ ε : List SD}, Wk δ ε → δ.length = ε.length
  | [], [], _ => rfl
  | a :: r, b :: s, h => congrArg Nat.succ (Wk.len h.2)
  | [], _ :: _, h => h.elim
  | _ :: _, [], h => h.elim
theorem Wk.get : ∀ {δ ε : List SD} {i : Nat} {b : SD}, Wk δ ε → ε[i]? = some b → ∃ a, δ[i]? = some a ∧ SD.le a b
  | [], [], _, _, _, e => by simp at e
  | a :: r, b :: s, 0, _, h, e => by
    simp at e
    subst e
    exact ⟨_, rfl, h.1⟩
  | a :: r, b :: s, i + 1, _, h, e => by
    obtain ⟨x, e1, e2⟩ := Wk.get (i := i) h.2 (by simpa using e)
    exact ⟨x, by simpa using e1, e2⟩
  | [], _ :: _, _, _, h, _ => h.elim
  | _ :: _, [], _, _, h, _ => h.elim
theorem Wk.ownOf {δ ε : List SD} (w : Wk δ ε) {i : Nat} {ds : List PD} (e : ε[i]? = some (SD.own ds)) : δ[i]? = some (SD.own ds) := by
  obtain ⟨a, h, k⟩ := w.get e
  rcases k with k | k | ⟨_, _, k⟩
  · rw [h, ← k]
  · cases k
  · cases k
theorem Wk.own {δ ε : List SD} (w : Wk δ ε) {A : Nat → Addr} {b : Addr} (o : Own ε A b) : Own δ A b := by
  obtain ⟨i, ds, e, r⟩ := o
  exact ⟨i, ds, w.ownOf e, r⟩
theorem Rep.wk (R : Rep B n σ H δ A) {ε : List SD} (w : Wk δ ε) : Rep B n σ H ε A := by
  have zz : ∀ b, Zs B.Z ε A b → Zs B.Z δ A b := fun b z => z.imp id w.own
  refine ⟨w.len.symm.trans R.len, fun i d e => ?_, fun i ds e => ?_, fun i j ds es e1 e2 => R.inj i j ds es (w.ownOf e1) (w.ownOf e2), fun i e => ?_, R.dom, R.base, R.bud, R.le, R.few⟩
  · obtain ⟨a, h, k⟩ := w.get e
    rcases k with k | k | ⟨ds, rfl, k⟩
    · rw [← k] at h
      obtain ⟨v, a, b⟩ := R.dat i d h
      exact ⟨v, a, b.anti zz⟩
    · cases k
    · cases k
      obtain ⟨a, b, c, xs, h1, h2, h3⟩ := R.own i ds h
      refine ⟨_, a, .lst h1 ?_ h2 (h3.anti zz)⟩
      rintro (z | ⟨j, es, e2, r⟩)
      · exact b z
      · have ij := R.inj j i es ds (w.ownOf e2) h r
        subst ij
        rw [e] at e2
        cases e2
  · obtain ⟨a, b, c, xs, h1, h2, h3⟩ := R.own i ds (w.ownOf e)
    exact ⟨a, b, c, xs, h1, h2, h3.anti zz⟩
  · obtain ⟨a, h, k⟩ := w.get e
    rcases k with k | k | ⟨_, _, k⟩
    · rw [← k] at h
      exact R.pot i h
    · cases k
    · cases k
end
end DL

set_option Elab.async false
set_option linter.all false
set_option maxRecDepth 100000
/-! What a reading does, told by data alone. -/
namespace DL
open PySem PySem.Spec PyProof.Rows L2
/-! ### judgements -/
def DW (te : TE) (n : Nat) (δ : List SD) (K : Nat → PD → Prop) : Prop := ∀ (B : Bs) (σ : L2.St) (H : Hp) (A : Nat → Addr), Rep B n σ H δ A → ∀ Q : VK,
  (∀ v H' n' d, K n' d → Rep B n' σ H' δ A → Chg B.p n n' H H' → Dat (Zs B.Z δ A) H' v d → Q v H') → te σ H Q
def DT (tt : TT) (n : Nat) (δ : List SD) (K : Nat → Bool → Prop) : Prop := ∀ (B : Bs) (σ : L2.St) (H : Hp) (A : Nat → Addr), Rep B n σ H δ A → ∀ Q : Bool → Hp → Prop,
  (∀ b H' n', K n' b → Rep B n' σ H' δ A → Chg B.p n n' H H' → Q b H') → tt σ H Q
def DA (ta : TA) (n : Nat) (δ : List SD) (K : Nat → List PD → Prop) : Prop := ∀ (B : Bs) (σ : L2.St) (H : Hp) (A : Nat → Addr), Rep B n σ H δ A → ∀ Q : List V → Hp → Prop,
  (∀ vs H' n' ds, K n' ds → Rep B n' σ H' δ A → Chg B.p n n' H H' → DatAll (Zs B.Z δ A) H' vs ds → Q vs H') → ta σ H Q
def DPt (to : TO) (n : Nat) (δ : List SD) (K : Nat → Option Int → Prop) : Prop := ∀ (B : Bs) (σ : L2.St) (H : Hp) (A : Nat → Addr), Rep B n σ H δ A → ∀ Q : Option Int → Hp → Prop,
  (∀ o H' n', K n' o → Rep B n' σ H' δ A → Chg B.p n n' H H' → Q o H') → to σ H Q
/-- a list that nothing else holds -/
def DO (te : TE) (n : Nat) (δ : List SD) (K : Nat → List PD → Prop) : Prop := ∀ (B : Bs) (σ : L2.St) (H : Hp) (A : Nat → Addr), Rep B n σ H δ A → ∀ Q : VK,
  (∀ q xs H' n' ds, K n' ds → H q = none → Rep (B.add q) n' σ H' δ A → Chg B.p n n' H H' → H' q = some (.lst xs) → xs.length ≤ sizeLine → DatAll (Zs (B.add q).Z δ A) H' xs ds → Q (.ref q) H') → te σ H Q
/-- what may go into a slot -/
def DB (te : TE) (n : Nat) (δ : List SD) (K : Nat → SD → Prop) : Prop := DW te n δ (fun n d => K n (.dat d)) ∨ DO te n δ (fun n ds => K n (.own ds))
section
variable {te ta tb tc : TE} {tt tu : TT} {tl : TA} {n : Nat} {δ : List SD} {K : Nat → PD → Prop} {KT : Nat → Bool → Prop} {KA : Nat → List PD → Prop}
theorem DW.mono {K' : Nat → PD → Prop} (h : DW te n δ K) (m : ∀ n d, K n d → K' n d) : DW te n δ K' := fun B σ H A R Q q => h B σ H A R Q fun v H' n' d k => q v H' n' d (m _ _ k)
theorem DT.mono {K' : Nat → Bool → Prop} (h : DT tt n δ KT) (m : ∀ n d, KT n d → K' n d) : DT tt n δ K' := fun B σ H A R Q q => h B σ H A R Q fun v H' n' k => q v H' n' (m _ _ k)
theorem DO.mono {K K' : Nat → List PD → Prop} (h : DO te n δ K) (m : ∀ n d, K n d → K' n d) : DO te n δ K' := fun B σ H A R Q q => h B σ H A R Q fun v xs H' n' d k => q v xs H' n' d (m _ _ k)
theorem Rep.less {B : Bs} {q : Addr} {σ : L2.St} {H : Hp} {A : Nat → Addr} (R : Rep (B.add q) n σ H δ A) (h : B.H0 q = none) (np : q ≠ B.p) (f : ¬ B.Z q) : Rep B n σ H δ A := by
  have zz : ∀ b, Zs B.Z δ A b → Zs (B.add q).Z δ A b := fun b z => z.imp .inl id
  refine ⟨R.len, fun i d g => ?_, fun i ds g => ?_, R.inj, R.pot, fun b z => R.dom b (.inl z), R.base, fun g => ⟨((R.bud g).1).elim id fun z => absurd z.symm np, (R.bud g).2⟩, R.le, R.few⟩
  · obtain ⟨v, a, b⟩ := R.dat i d g
    exact ⟨v, a, b.anti zz⟩
  · obtain ⟨a, b, c, xs, h1, h2, h3⟩ := R.own i ds g
    exact ⟨a, fun z => b (.inl z), c, xs, h1, h2, h3.anti zz⟩
theorem Rep.less' {B : Bs} {q : Addr} {σ : L2.St} {H : Hp} {A : Nat → Addr} (R : Rep (B.add q) n σ H δ A) (h : B.H0 q = none) (np : 0 < B.n0 → q ≠ B.p) (f : ¬ B.Z q) : Rep B n σ H δ A := by
  have zz : ∀ b, Zs B.Z δ A b → Zs (B.add q).Z δ A b := fun b z => z.imp .inl id
  refine ⟨R.len, fun i d g => ?_, fun i ds g => ?_, R.inj, R.pot, fun b z => R.dom b (.inl z), R.base, fun g => ⟨((R.bud g).1).elim id fun z => absurd z.symm (np g), (R.bud g).2⟩, R.le, R.few⟩
  · obtain ⟨v, a, b⟩ := R.dat i d g
    exact ⟨v, a, b.anti zz⟩
  · obtain ⟨a, b, c, xs, h1, h2, h3⟩ := R.own i ds g
    exact ⟨a, fun z => b (.inl z), c, xs, h1, h2, h3.anti zz⟩
theorem Rep.np {B : Bs} {q : Addr} {σ : L2.St} {H : Hp} {A : Nat → Addr} (R : Rep B n σ H δ A) (h : H q = none) (g : 0 < B.n0) : q ≠ B.p := fun e => R.domN q (e ▸ (R.bud g).1) h
/-- a list that nothing else holds is data -/
theorem dw_of_do (h : DO te n δ fun n ds => K n (.lst ds)) : DW te n δ K := fun B σ H A R Q q => h B σ H A R Q fun a xs H' n' ds k f R' c e l hd => by
  obtain ⟨f0, f1, f2⟩ := R.free0 f
  have zz : ∀ b, Zs B.Z δ A b → Zs (B.add a).Z δ A b := fun b z => z.imp .inl id
  have R2 : Rep B n' σ H' δ A := by
    by_cases g : 0 < B.n0
    · exact R'.less f0 (R.np f g) f1
    · refine ⟨R'.len, fun i d g => ?_, fun i ds g => ?_, R'.inj, R'.pot, fun b z => R'.dom b (.inl z), R'.base, fun w => absurd w g, R'.le, R'.few⟩
      · obtain ⟨v, a, b⟩ := R'.dat i d g
        exact ⟨v, a, b.anti zz⟩
      · obtain ⟨a, b, c, xs, h1, h2, h3⟩ := R'.own i ds g
        exact ⟨a, fun z => b (.inl z), c, xs, h1, h2, h3.anti zz⟩
  exact q _ H' n' _ k R2 c (.lst e f2 l (hd.anti zz))
theorem dw_var {i : Nat} {d : PD} (e : δ[i]? = some (SD.dat d)) (k : K n d) : DW (tVar i) n δ K := fun B σ H A R Q q => let ⟨v, a, b⟩ := R.dat i d e; ⟨v, a, q v H n d k R .refl b⟩
theorem dw_int {i : Int} (k : K n (.int i)) : DW (tC (.int i)) n δ K := fun B σ H A R Q q => q _ H n _ k R .refl (.int i)
theorem dw_bl {i : Bool} (k : K n (.bl i)) : DW (tC (.bl i)) n δ K := fun B σ H A R Q q => q _ H n _ k R .refl (.bl i)
theorem dw_str {i : Str} (k : K n (.str i)) : DW (tC (.str i)) n δ K := fun B σ H A R Q q => q _ H n _ k R .refl (.str i)
theorem dw_ty {i : String} (k : K n (.ty i)) : DW (tC (.ty i)) n δ K := fun B σ H A R Q q => q _ H n _ k R .refl (.ty i)
theorem dw_non (k : K n .non) : DW (tC .non) n δ K := fun B σ H A R Q q => q _ H n _ k R .refl .non
/-! ### operators -/
def RD (r : R2) (S : PD → PD → (PD → Prop) → Prop) : Prop := ∀ (Z : Addr → Prop) (H : Hp) (x y : V) (dx dy : PD) (Kd : PD → Prop) (Q : VK), (∀ b, Z b → H b ≠ none) → Dat Z H x dx → Dat Z H y dy → S dx dy Kd →
  (∀ v H' d, Kd d → Same H H' → Dat Z H' v d → Q v H') → r x y H Q
theorem dw_op {r : R2} {S : PD → PD → (PD → Prop) → Prop} (hr : RD r S) (h : DW ta n δ fun n1 x => DW tb n1 δ fun n2 y => S x y (K n2)) : DW (tOp r ta tb) n δ K := fun B σ H A R Q q =>
  h B σ H A R _ fun v H1 n1 x kx R1 c1 d1 => kx B σ H1 A R1 _ fun w H2 n2 y ky R2 c2 d2 =>
    hr _ H2 v w x y (K n2) Q (fun _ => R2.zdom) (R1.datGo c2 d1) d2 ky fun z H3 d kd e3 d3 => q z H3 n2 d kd (R2.ext e3) ((c1.trans c2).trans (.of e3)) d3
def RU1 (r : V → Hp → VK → Prop) (S : PD → (PD → Prop) → Prop) : Prop := ∀ (Z : Addr → Prop) (H : Hp) (x : V) (dx : PD) (Kd : PD → Prop) (Q : VK), (∀ b, Z b → H b ≠ none) → Dat Z H x dx → S dx Kd →
  (∀ v H' d, Kd d → Same H H' → Dat Z H' v d → Q v H') → r x H Q
theorem dw_un {r : V → Hp → VK → Prop} {S : PD → (PD → Prop) → Prop} (hr : RU1 r S) (h : DW ta n δ fun n1 x => S x (K n1)) : DW (tUn r ta) n δ K := fun B σ H A R Q q =>
  h B σ H A R _ fun v H1 n1 x kx R1 c1 d1 => hr _ H1 v x (K n1) Q (fun _ => R1.zdom) d1 kx fun z H3 d kd e3 d3 => q z H3 n1 d kd (R1.ext e3) (c1.trans (.of e3)) d3
def RB (r : List V → Hp → VK → Prop) (S : List PD → (PD → Prop) → Prop) : Prop := ∀ (Z : Addr → Prop) (H : Hp) (xs : List V) (ds : List PD) (Kd : PD → Prop) (Q : VK), (∀ b, Z b → H b ≠ none) → DatAll Z H xs ds → S ds Kd →
  (∀ v H' d, Kd d → Same H H' → Dat Z H' v d → Q v H') → r xs H Q
theorem dw_cb {r : List V → Hp → VK → Prop} {S : List PD → (PD → Prop) → Prop} (hr : RB r S) (h : DA tl n δ fun n1 ds => S ds (K n1)) : DW (tCB r tl) n δ K := fun B σ H A R Q q =>
  h B σ H A R _ fun vs H1 n1 x kx R1 c1 d1 => hr _ H1 vs x (K n1) Q (fun _ => R1.zdom) d1 kx fun z H3 d kd e3 d3 => q z H3 n1 d kd (R1.ext e3) (c1.trans (.of e3)) d3
/-- .. that makes a new list -/
def RBO (r : List V → Hp → VK → Prop) (S : List PD → (List PD → Prop) → Prop) : Prop := ∀ (Z : Addr → Prop) (H : Hp) (xs : List V) (ds : List PD) (Kd : List PD → Prop) (Q : VK), (∀ b, Z b → H b ≠ none) → DatAll Z H xs ds → S ds Kd →
  (∀ q ys H' ds, Kd ds → H q = none → Same H H' → (∀ b, H' b = none → H b = none) → H' q = some (.lst ys) → ys.length ≤ sizeLine → DatAll (fun b => Z b ∨ b = q) H' ys ds → Q (.ref q) H') → r xs H Q
theorem Rep.addS {B : Bs} {q : Addr} {σ : L2.St} {H H' : Hp} {A : Nat → Addr} {o : HO} (R : Rep B n σ H δ A) (f : H q = none) (e : Same H H') (g : H' q = some o) (ho : ∀ xs, o ≠ .tup xs := by intro _ z; cases z) : Rep (B.add q) n σ H' δ A := by
  refine (R.more (o := o) f ho).ext fun b u x => ?_
  by_cases w : b = q
  · subst w
    rw [upd_same] at x
    cases x
    exact g
  · rw [upd_ne w] at x
    exact e b u x
theorem do_cb {r : List V → Hp → VK → Prop} {S : List PD → (List PD → Prop) → Prop} {K : Nat → List PD → Prop} (hr : RBO r S) (h : DA tl n δ fun n1 ds => S ds (K n1)) : DO (tCB r tl) n δ K := fun B σ H A R Q q =>
  h B σ H A R _ fun vs H1 n1 x kx R1 c1 d1 => hr _ H1 vs x (K n1) Q (fun _ => R1.zdom) d1 kx fun p ys H3 ds kd f e3 _ g3 l3 d3 => q p ys H3 n1 ds kd (by
      cases h0 : H p with
      | none => rfl
      | some o =>
        by_cases w : p ≠ B.p ∨ n1 = n
        · rw [c1.2 p o h0 w] at f
          cases f
        · exfalso
          have w1 : p = B.p := Classical.byContradiction fun z => w (.inl z)
          have w2 : n1 ≠ n := fun z => w (.inr z)
          have l1 := c1.1
          have l2 := R.le
          exact R1.domN p (w1 ▸ (R1.bud (by omega)).1) f)
    (R1.addS f e3 g3) (c1.trans (.of e3)) g3 l3 (d3.anti fun b z => by
      rcases z with z | z
      · rcases z with z | z
        · exact .inl (.inl z)
        · exact .inr z
      · exact .inl (.inr z))
/-! ### calls of defs -/
/-- a pure def: arguments, what they must be, what it gives -/
def SpT {α : Type} (args : α → List PD) (pre : α → Prop) (res : α → PD) : Sp := fun vs H Q _ => ∃ (Z : Addr → Prop) (x : α), (∀ b, Z b → Mu H b) ∧ DatAll Z H vs (args x) ∧ pre x ∧ ∀ v H', Same H H' → Dat Z H' v (res x) → Q v H'
theorem dw_call {α : Type} {args : α → List PD} {pre : α → Prop} {res : α → PD} (h : DA tl n δ fun n1 ds => ∃ x, ds = args x ∧ pre x ∧ K n1 (res x)) : DW (Pf.tC1 (SpT args pre res) tl) n δ K := fun B σ H A R Q q =>
  h B σ H A R _ fun vs H1 n1 ds ⟨x, e, p, k⟩ R1 c1 d1 => ⟨_, x, fun _ => R1.zmu, e ▸ d1, p, fun v H' s hd => q v H' n1 _ k (R1.ext s) (c1.trans (.of s)) hd⟩
/-- .. that draws: the pot stands first -/
def SpN {α : Type} (cost : Nat) (args : α → List PD) (pre : α → Prop) (post : α → PD → Prop) : Sp := fun vs H Q _ => ∃ (Z : Addr → Prop) (p : Addr) (us : List V) (m : Nat) (x : α), vs = .ref p :: us ∧ Z p ∧ (∀ b, Z b → Mu H b) ∧ Pot H p m ∧ m + cost < 1000000 ∧ DatAll Z H us (args x) ∧ pre x ∧
  ∀ v H' d, post x d → (∀ b o, b ≠ p → H b = some o → H' b = some o) → Pot H' p (m + cost) → Dat Z H' v d → Q v H'
end
end DL

set_option Elab.async false
set_option linter.all false
set_option maxRecDepth 100000
/-! What a reading does, told by data alone: tests, displays, targets, walks, statements. -/
namespace DL
open PySem PySem.Spec PyProof.Rows L2
section
variable {te ta tb tc : TE} {tt tu : TT} {tl : TA} {n : Nat} {δ : List SD} {K : Nat → PD → Prop} {KT : Nat → Bool → Prop} {KA : Nat → List PD → Prop}
/-! ### tests -/
theorem dt_test (h : DW te n δ fun n1 d => ∃ k, d = .bl k ∧ KT n1 k) : DT (tTest te) n δ KT := fun B σ H A R Q q => h B σ H A R _ fun v H1 n1 d ⟨k, e, kk⟩ R1 c1 d1 => by
  subst e
  cases d1
  exact ⟨k, rfl, q k H1 n1 kk R1 c1⟩
theorem dt_B (h : DW te n δ fun n1 d => ∃ k, d = .bl k ∧ KT n1 k) : DT (tB te) n δ KT := fun B σ H A R Q q => h B σ H A R _ fun v H1 n1 d ⟨k, e, kk⟩ R1 c1 d1 => by
  subst e
  cases d1
  exact ⟨k, rfl, q k H1 n1 kk R1 c1⟩
theorem dt_and (h : DT tt n δ fun n1 k => if k = true then DT tu n1 δ KT else KT n1 false) : DT (tAnd tt tu) n δ KT := fun B σ H A R Q q => h B σ H A R _ fun k H1 n1 kk R1 c1 => by
  cases k with
  | true => exact kk B σ H1 A R1 _ fun j H2 n2 kj R2 c2 => q j H2 n2 kj R2 (c1.trans c2)
  | false => exact q false H1 n1 kk R1 c1
theorem dt_or (h : DT tt n δ fun n1 k => if k = true then KT n1 true else DT tu n1 δ KT) : DT (tOr tt tu) n δ KT := fun B σ H A R Q q => h B σ H A R _ fun k H1 n1 kk R1 c1 => by
  cases k with
  | false => exact kk B σ H1 A R1 _ fun j H2 n2 kj R2 c2 => q j H2 n2 kj R2 (c1.trans c2)
  | true => exact q true H1 n1 kk R1 c1
theorem dt_not (h : DT tt n δ fun n1 k => KT n1 (!k)) : DT (tNot tt) n δ KT := fun B σ H A R Q q => h B σ H A R _ fun k H1 n1 kk R1 c1 => q (!k) H1 n1 kk R1 c1
theorem dt_yes (h : KT n true) : DT tYes n δ KT := fun B σ H A R Q q => q true H n h R .refl
theorem dw_andV (h : DW ta n δ fun n1 d => ∃ k, d = .bl k ∧ if k = true then DW tb n1 δ K else K n1 (.bl false)) : DW (tAndV ta tb) n δ K := fun B σ H A R Q q => h B σ H A R _ fun v H1 n1 d ⟨k, e, kk⟩ R1 c1 d1 => by
  subst e
  cases d1
  refine ⟨k, rfl, ?_⟩
  cases k with
  | true => exact kk B σ H1 A R1 _ fun v H2 n2 d kj R2 c2 d2 => q v H2 n2 d kj R2 (c1.trans c2) d2
  | false => exact q _ H1 n1 _ kk R1 c1 (.bl false)
theorem dw_orV (h : DW ta n δ fun n1 d => ∃ k, d = .bl k ∧ if k = true then K n1 (.bl true) else DW tb n1 δ K) : DW (tOrV ta tb) n δ K := fun B σ H A R Q q => h B σ H A R _ fun v H1 n1 d ⟨k, e, kk⟩ R1 c1 d1 => by
  subst e
  cases d1
  refine ⟨k, rfl, ?_⟩
  cases k with
  | false => exact kk B σ H1 A R1 _ fun v H2 n2 d kj R2 c2 d2 => q v H2 n2 d kj R2 (c1.trans c2) d2
  | true => exact q _ H1 n1 _ kk R1 c1 (.bl true)
theorem dw_notV (h : DW ta n δ fun n1 d => ∃ k, d = .bl k ∧ K n1 (.bl (!k))) : DW (tNotV ta) n δ K := fun B σ H A R Q q => h B σ H A R _ fun v H1 n1 d ⟨k, e, kk⟩ R1 c1 d1 => by
  subst e
  cases d1
  exact ⟨k, rfl, q _ H1 n1 _ kk R1 c1 (.bl _)⟩
theorem dw_if (h : DT tt n δ fun n1 k => if k = true then DW ta n1 δ K else DW tb n1 δ K) : DW (tIf tt ta tb) n δ K := fun B σ H A R Q q => h B σ H A R _ fun k H1 n1 kk R1 c1 => by
  cases k with
  | true => exact kk B σ H1 A R1 _ fun v H2 n2 d kj R2 c2 d2 => q v H2 n2 d kj R2 (c1.trans c2) d2
  | false => exact kk B σ H1 A R1 _ fun v H2 n2 d kj R2 c2 d2 => q v H2 n2 d kj R2 (c1.trans c2) d2
def PD.isN : PD → Bool
  | .non => true
  | _ => false
theorem Dat.isN {Z : Addr → Prop} {H : Hp} {v : V} {d : PD} (h : Dat Z H v d) : decide (v = .non) = d.isN := by cases h <;> rfl
theorem dw_isN (h : DW ta n δ fun n1 d => K n1 (.bl d.isN)) : DW (tIsN ta) n δ K := fun B σ H A R Q q => h B σ H A R _ fun v H1 n1 d kk R1 c1 d1 => by
  rw [d1.isN]
  exact q _ H1 n1 _ kk R1 c1 (.bl _)
theorem dw_notN (h : DW ta n δ fun n1 d => K n1 (.bl (!d.isN))) : DW (tNotN ta) n δ K := fun B σ H A R Q q => h B σ H A R _ fun v H1 n1 d kk R1 c1 d1 => by
  rw [d1.isN]
  exact q _ H1 n1 _ kk R1 c1 (.bl _)
/-! ### arguments, displays -/
theorem da_nil (k : KA n []) : DA tNil n δ KA := fun B σ H A R Q q => q [] H n [] k R .refl .nil
theorem da_cons (h : DW te n δ fun n1 d => DA tl n1 δ fun n2 ds => KA n2 (d :: ds)) : DA (tCons te tl) n δ KA := fun B σ H A R Q q => h B σ H A R _ fun v H1 n1 d kk R1 c1 d1 =>
  kk B σ H1 A R1 _ fun vs H2 n2 ds k2 R2 c2 d2 => q (v :: vs) H2 n2 (d :: ds) k2 R2 (c1.trans c2) (.cons (R1.datGo c2 d1) d2)
theorem free_back {B : Bs} {σ : L2.St} {H H1 : Hp} {A : Nat → Addr} {n1 : Nat} (R : Rep B n σ H δ A) (R1 : Rep B n1 σ H1 δ A) (c : Chg B.p n n1 H H1) {p : Addr} (f : H1 p = none) : H p = none := by
  cases h0 : H p with
  | none => rfl
  | some o =>
    by_cases w : p ≠ B.p ∨ n1 = n
    · rw [c.2 p o h0 w] at f
      cases f
    · exfalso
      have w1 : p = B.p := Classical.byContradiction fun z => w (.inl z)
      have w2 : n1 ≠ n := fun z => w (.inr z)
      have l1 := c.1
      have l2 := R.le
      exact R1.domN p (w1 ▸ (R1.bud (by omega)).1) f
theorem new_same {H : Hp} {p : Addr} {o : HO} (f : H p = none) : Same H (upd H p o) := fun b u x => by
  rw [upd_ne (ne_of_none x f)]
  exact x
theorem dw_tup (h : DA tl n δ fun n1 ds => ds.length ≤ sizeLine ∧ K n1 (.tup ds)) : DW (tTup tl) n δ K := fun B σ H A R Q q => h B σ H A R _ fun vs H1 n1 ds ⟨l, k⟩ R1 c1 d1 =>
  ⟨by rw [d1.len]; exact l, fun p f => q _ _ n1 _ k (R1.ext (new_same f)) (c1.trans (.of (new_same f))) (.tup upd_same (R1.free0 f).2.2 (by rw [d1.len]; exact l) (d1.same (new_same f)))⟩
theorem do_lst {K : Nat → List PD → Prop} (h : DA tl n δ fun n1 ds => ds.length ≤ sizeLine ∧ K n1 ds) : DO (tLst tl) n δ K := fun B σ H A R Q q => h B σ H A R _ fun vs H1 n1 ds ⟨l, k⟩ R1 c1 d1 =>
  ⟨by rw [d1.len]; exact l, fun p f => q p vs _ n1 ds k (free_back R R1 c1 f) (R1.more f) (c1.trans (.of (new_same f))) upd_same (by rw [d1.len]; exact l) (((d1.add f).same (new_same f)).anti fun b z => by
    rcases z with z | z
    · rcases z with z | z
      · exact .inl (.inl z)
      · exact .inr z
    · exact .inl (.inr z))⟩
/-! ### parts of slices -/
theorem dp_no {K : Nat → Option Int → Prop} (k : K n none) : DPt tNoPart n δ K := fun B σ H A R Q q => q none H n k R .refl
theorem dp_part {K : Nat → Option Int → Prop} (h : DW te n δ fun n1 d => ∃ i, d = .int i ∧ K n1 (some i)) : DPt (tPart te) n δ K := fun B σ H A R Q q => h B σ H A R _ fun v H1 n1 d ⟨i, e, kk⟩ R1 c1 d1 => by
  subst e
  cases d1
  exact ⟨i, rfl, q _ H1 n1 kk R1 c1⟩
def RSl (r : V → Option Int → Option Int → Hp → VK → Prop) (S : PD → Option Int → Option Int → (PD → Prop) → Prop) : Prop := ∀ (Z : Addr → Prop) (H : Hp) (x : V) (lo hi : Option Int) (dx : PD) (Kd : PD → Prop) (Q : VK), (∀ b, Z b → H b ≠ none) → Dat Z H x dx → S dx lo hi Kd →
  (∀ v H' d, Kd d → Same H H' → Dat Z H' v d → Q v H') → r x lo hi H Q
theorem dw_sl {r : V → Option Int → Option Int → Hp → VK → Prop} {S : PD → Option Int → Option Int → (PD → Prop) → Prop} {to tp : TO} (hr : RSl r S) (h : DW te n δ fun n1 x => DPt to n1 δ fun n2 lo => DPt tp n2 δ fun n3 hi => S x lo hi (K n3)) : DW (tSl r te to tp) n δ K := fun B σ H A R Q q =>
  h B σ H A R _ fun v H1 n1 x kx R1 c1 d1 => kx B σ H1 A R1 _ fun lo H2 n2 k2 R2 c2 => k2 B σ H2 A R2 _ fun hi H3 n3 k3 R3 c3 =>
    hr _ H3 v lo hi x (K n3) Q (fun _ => R3.zdom) (R2.datGo c3 (R1.datGo c2 d1)) k3 fun z H4 d kd e4 d4 => q z H4 n3 d kd (R3.ext e4) (((c1.trans c2).trans c3).trans (.of e4)) d4
/-! ### targets -/
def notOwn : Option SD → Bool
  | some (.own _) => false
  | _ => true
theorem notOwn_ne {o : Option SD} (h : notOwn o = true) : ∀ ds, o ≠ some (.own ds) := fun ds e => by
  subst e
  cases h
def DG (g : TG) (ts : List Nat) (x : PD) (n : Nat) (δ : List SD) (K : Nat → List SD → Prop) : Prop := ∀ (B : Bs) (σ : L2.St) (H : Hp) (A : Nat → Addr) (v : V), Rep B n σ H δ A → Dat (Zs B.Z δ A) H v x → ∀ Q : L2.St → Hp → Prop,
  (∀ σ' H' n' δ', K n' δ' → Rep B n' σ' H' δ' A → Chg B.p n n' H H' → (∀ b, Own δ' A b ↔ Own δ A b) → (∀ vs, (∀ t ∈ ts, t ∈ vs) → wipe σ' vs = wipe σ vs) → Q σ' H') → g v σ H Q
def DGs (g : TGs) (ts : List Nat) (xs : List PD) (n : Nat) (δ : List SD) (K : Nat → List SD → Prop) : Prop := ∀ (B : Bs) (σ : L2.St) (H : Hp) (A : Nat → Addr) (vs : List V), Rep B n σ H δ A → DatAll (Zs B.Z δ A) H vs xs → ∀ Q : L2.St → Hp → Prop,
  (∀ σ' H' n' δ', K n' δ' → Rep B n' σ' H' δ' A → Chg B.p n n' H H' → (∀ b, Own δ' A b ↔ Own δ A b) → (∀ vs, (∀ t ∈ ts, t ∈ vs) → wipe σ' vs = wipe σ vs) → Q σ' H') → g vs σ H Q
theorem wipe_set {σ : L2.St} {i : Nat} {x : Option V} : ∀ {vs : List Nat}, i ∈ vs → wipe (σ.set i x) vs = wipe σ vs
  | [], h => absurd h List.not_mem_nil
  | v :: vs, h => by
    unfold wipe
    by_cases e : i = v
    · subst e
      by_cases m : i ∈ vs
      · rw [wipe_set m]
      · have go : ∀ {τ : L2.St} {ws : List Nat}, i ∉ ws → wipe (τ.set i x) ws = (wipe τ ws).set i x := by
          intro τ ws
          induction ws with
          | nil => intro _; rfl
          | cons w r ih =>
            intro hm
            unfold wipe
            rw [ih fun z => hm (List.mem_cons_of_mem _ z), List.set_comm _ _ (fun z => hm (by rw [z]; exact List.mem_cons_self))]
        rw [go m, List.set_set]
    · rw [wipe_set ((List.mem_cons.mp h).resolve_left e)]
theorem dg_name {i : Nat} {x : PD} {K : Nat → List SD → Prop} (k : K n (δ.set i (.dat x))) (h : notOwn δ[i]? = true := by rfl) : DG (gName i) [i] x n δ K := fun B σ H A v R hd Q q =>
  q _ H n _ k (R.put (notOwn_ne h) hd) .refl (fun b => own_set (notOwn_ne h) fun _ e => by cases e) fun vs m => wipe_set (m i List.mem_cons_self)
theorem dgs_nil {K : Nat → List SD → Prop} {xs : List PD} (e : xs = []) (k : K n δ) : DGs gNil [] xs n δ K := fun B σ H A vs R hd Q q => by
  subst e
  cases hd
  exact ⟨rfl, q σ H n δ k R .refl (fun _ => Iff.rfl) fun _ _ => rfl⟩
theorem dgs_cons {g : TG} {gs : TGs} {ts us : List Nat} {K : Nat → List SD → Prop} {xs : List PD} (h : ∃ x r, xs = x :: r ∧ DG g ts x n δ fun n1 δ1 => DGs gs us r n1 δ1 K) : DGs (gCons g gs) (ts ++ us) xs n δ K := fun B σ H A vs R hd Q q => by
  obtain ⟨x, r, e, h⟩ := h
  subst e
  cases hd with
  | @cons v vs' _ _ h1 h2 =>
    refine ⟨v, vs', rfl, h B σ H A v R h1 _ fun σ1 H1 n1 δ1 k1 R1 c1 o1 w1 => ?_⟩
    have zz : ∀ b, Zs B.Z δ1 A b → Zs B.Z δ A b := fun b z => z.imp id (o1 b).mp
    refine k1 B σ1 H1 A vs' R1 ((R.allGo c1 h2).anti zz) Q fun σ2 H2 n2 δ2 k2 R2 c2 o2 w2 => q σ2 H2 n2 δ2 k2 R2 (c1.trans c2) (fun b => (o2 b).trans (o1 b)) fun ws m => ?_
    rw [w2 ws fun t ht => m t (List.mem_append_right _ ht), w1 ws fun t ht => m t (List.mem_append_left _ ht)]
theorem dg_tup {Kf : PySem.W.Frag} {k : Nat} {gs : TGs} {ts : List Nat} {x : PD} {K : Nat → List SD → Prop} (h : ∃ ds, x = .tup ds ∧ ds.length = k ∧ DGs gs ts ds n δ K) : DG (gTup Kf k gs) ts x n δ K := fun B σ H A v R hd Q q => by
  obtain ⟨ds, e, l, h⟩ := h
  subst e
  cases hd with
  | @tup a xs _ h1 h2 h3 h4 => exact ⟨a, xs, rfl, .inl (.inl h1), by rw [h4.len]; exact l, h B σ H A xs R h4 Q q⟩
/-! ### what is walked -/
structure Src (Z : Addr → Prop) (H : Hp) (J : It) (xs : List PD) : Prop where
  is : ∃ (G : Hp → Prop) (Y : Nat → Hp → V → Hp → Prop), Walk J xs.length G Y ∧ (∀ H2, (∀ b o, H b = some o → ¬ Z b → H2 b = some o) → G H2) ∧
    (∀ i H2 x H3, i < xs.length → (∀ b o, H b = some o → ¬ Z b → H2 b = some o) → Y i H2 x H3 → Same H2 H3 ∧ ∃ d, xs[i]? = some d ∧ ∀ Z' : Addr → Prop, (∀ b, Z' b → Z b ∨ H b = none) → (∀ b, Z' b → H2 b ≠ none) → Dat Z' H3 x d)
def DI (wi : TI) (n : Nat) (δ : List SD) (K : Nat → List PD → Prop) : Prop := ∀ (B : Bs) (σ : L2.St) (H : Hp) (A : Nat → Addr), Rep B n σ H δ A → ∀ R : It → Hp → Prop,
  (∀ J H' n' xs, K n' xs → Rep B n' σ H' δ A → Chg B.p n n' H H' → Src (Zs B.Z δ A) H' J xs → R J H') → wi σ H R
theorem Src.ofAll {Z : Addr → Prop} {H : Hp} {J : It} {G : Hp → Prop} {vs : List V} {xs : List PD} (hd : DatAll Z H vs xs) (w : Walk J vs.length G (YAt vs)) (g : ∀ H2, (∀ b o, H b = some o → ¬ Z b → H2 b = some o) → G H2) : Src Z H J xs := by
  refine ⟨G, YAt vs, hd.len ▸ w, g, ?_⟩
  rintro i H2 x H3 hi k ⟨rfl, e⟩
  obtain ⟨d, e1, e2⟩ := hd.get e
  exact ⟨fun _ _ z => z, d, e1, fun Z' w _ => e2.go fun b o y z => ⟨k b o y z, fun u => (w b u).elim z fun u => by rw [u] at y; cases y⟩⟩
theorem di_list {Kf : PySem.W.Frag} {K : Nat → List PD → Prop} (h : DW te n δ fun n1 d => ∃ xs, d = .lst xs ∧ K n1 xs) : DI (iList Kf te) n δ K := fun B σ H A R Q q => h B σ H A R _ fun v H1 n1 d ⟨xs, e, k⟩ R1 c1 d1 => by
  subst e
  cases d1 with
  | @lst a vs _ h1 h2 h3 h4 => exact ⟨a, rfl, ⟨vs, .inl (.inl h1)⟩, q _ H1 n1 xs k R1 c1 (.ofAll h4 (walk_list (K := Kf) (a := a)) fun H2 k => .inl (.inl (k a _ h1 h2)))⟩
theorem di_tup {Kf : PySem.W.Frag} {K : Nat → List PD → Prop} (h : DW te n δ fun n1 d => ∃ xs, d = .tup xs ∧ K n1 xs) : DI (iTup Kf te) n δ K := fun B σ H A R Q q => h B σ H A R _ fun v H1 n1 d ⟨xs, e, k⟩ R1 c1 d1 => by
  subst e
  cases d1 with
  | @tup a vs _ h1 h2 h3 h4 => exact ⟨a, rfl, ⟨vs, .inl (.inl h1)⟩, q _ H1 n1 xs k R1 c1 (.ofAll h4 (walk_tup (K := Kf) (a := a)) fun H2 k => .inl (.inl (k a _ h1 h2)))⟩
/-- lo, lo + 1, .. m of them -/
def rngL (lo : Int) (m : Nat) : List PD := (List.range m).map fun k => .int (lo + (k : Nat))
theorem rngL_len {lo : Int} {m : Nat} : (rngL lo m).length = m := by simp [rngL]
theorem rngL_get {lo : Int} {m i : Nat} (h : i < m) : (rngL lo m)[i]? = some (.int (lo + (i : Nat))) := by simp [rngL, h]
theorem Src.range {Z : Addr → Prop} {H : Hp} {lo : Int} {m : Nat} : Src Z H (Itr lo m) (rngL lo m) := by
  refine ⟨fun _ => True, YFn fun i => .int (lo + (i : Nat)), by rw [rngL_len]; exact walk_range, fun _ _ => trivial, ?_⟩
  rintro i H2 x H3 hi _ ⟨rfl, rfl⟩
  rw [rngL_len] at hi
  exact ⟨fun _ _ z => z, _, rngL_get hi, fun _ _ _ => .int _⟩
theorem di_rng1 {K : Nat → List PD → Prop} (h : DA tl n δ fun n1 ds => ∃ j : Int, ds = [.int j] ∧ -(2 ^ 62) ≤ j ∧ j < 2 ^ 62 ∧ K n1 (rngL 0 j.toNat)) : DI (iRng1 tl) n δ K := fun B σ H A R Q q => h B σ H A R _ fun v H1 n1 d ⟨j, e, l1, l2, k⟩ R1 c1 d1 => by
  subst e
  cases d1 with
  | cons h1 h2 =>
    cases h1
    cases h2
    exact ⟨j, rfl, l1, l2, q _ H1 n1 _ k R1 c1 .range⟩
theorem di_rng2 {K : Nat → List PD → Prop} (h : DA tl n δ fun n1 ds => ∃ i j : Int, ds = [.int i, .int j] ∧ (-(2 ^ 62) ≤ i ∧ i < 2 ^ 62 ∧ -(2 ^ 62) ≤ j ∧ j < 2 ^ 62) ∧ K n1 (rngL i (j - i).toNat)) : DI (iRng2 tl) n δ K := fun B σ H A R Q q => h B σ H A R _ fun v H1 n1 d ⟨i, j, e, l1, k⟩ R1 c1 d1 => by
  subst e
  cases d1 with
  | cons h1 h2 =>
    cases h1
    cases h2 with
    | cons h3 h4 =>
      cases h3
      cases h4
      exact ⟨i, j, rfl, l1, q _ H1 n1 _ k R1 c1 .range⟩
/-! ### comprehensions -/
def dwipe (δ : List SD) : List Nat → List SD
  | [] => δ
  | v :: vs => (dwipe δ vs).set v .un
def noneOwn (δ : List SD) (vs : List Nat) : Bool := vs.all fun v => notOwn δ[v]?
theorem dwipe_get {δ : List SD} {i : Nat} {a : SD} : ∀ {vs : List Nat}, (dwipe δ vs)[i]? = some a → a ≠ .un → δ[i]? = some a ∧ i ∉ vs
  | [], h, _ => ⟨h, by simp⟩
  | v :: vs, h, ha => by
    unfold dwipe at h
    by_cases hi : v = i
    · subst hi
      by_cases hv : v < (dwipe δ vs).length
      · rw [List.getElem?_set_self hv] at h
        exact absurd (Option.some.inj h).symm ha
      · rw [List.getElem?_eq_none (by simpa using hv)] at h
        cases h
    · rw [List.getElem?_set_ne hi] at h
      obtain ⟨h1, h2⟩ := dwipe_get h ha
      exact ⟨h1, by simp only [List.mem_cons, not_or]; exact ⟨fun e => hi e.symm, h2⟩⟩
theorem dwipe_len {δ : List SD} : ∀ {vs : List Nat}, (dwipe δ vs).length = δ.length
  | [] => rfl
  | v :: vs => by
    unfold dwipe
    rw [List.length_set]
    exact dwipe_len
theorem wipe_get {σ : L2.St} {i : Nat} : ∀ {vs : List Nat}, i ∉ vs → (wipe σ vs)[i]? = σ[i]?
  | [], _ => rfl
  | v :: vs, h => by
    unfold wipe
    rw [List.getElem?_set_ne (fun e => h (by rw [e]; exact List.mem_cons_self))]
    exact wipe_get fun m => h (List.mem_cons_of_mem _ m)
theorem Rep.wiped {B : Bs} {σ : L2.St} {H : Hp} {A : Nat → Addr} (R : Rep B n σ H δ A) (vs : List Nat) : Rep B n (wipe σ vs) H (dwipe δ vs) A := by
  have zz : ∀ b, Zs B.Z (dwipe δ vs) A b → Zs B.Z δ A b := fun b z => z.imp id fun ⟨i, ds, e, r⟩ => ⟨i, ds, (dwipe_get e fun z => by cases z).1, r⟩
  refine ⟨by rw [dwipe_len, wipe_length]; exact R.len, fun i d g => ?_, fun i ds g => ?_, fun i j ds es g1 g2 => R.inj i j ds es (dwipe_get g1 fun z => by cases z).1 (dwipe_get g2 fun z => by cases z).1, fun i g => ?_, R.dom, R.base, R.bud, R.le, R.few⟩
  · obtain ⟨g1, g2⟩ := dwipe_get g fun z => by cases z
    obtain ⟨v, a, b⟩ := R.dat i d g1
    exact ⟨v, by rw [wipe_get g2]; exact a, b.anti zz⟩
  · obtain ⟨g1, g2⟩ := dwipe_get g fun z => by cases z
    obtain ⟨a, b, c, xs, h1, h2, h3⟩ := R.own i ds g1
    exact ⟨by rw [wipe_get g2]; exact a, b, c, xs, h1, h2, h3.anti zz⟩
  · obtain ⟨g1, g2⟩ := dwipe_get g fun z => by cases z
    rw [wipe_get g2]
    exact R.pot i g1
theorem dwipe_own {vs : List Nat} (h : noneOwn δ vs = true) {A : Nat → Addr} (b : Addr) : Own (dwipe δ vs) A b ↔ Own δ A b := by
  constructor
  · rintro ⟨i, ds, e, r⟩
    exact ⟨i, ds, (dwipe_get e fun z => by cases z).1, r⟩
  · rintro ⟨i, ds, e, r⟩
    refine ⟨i, ds, ?_, r⟩
    have ni : i ∉ vs := fun m => by
      have := List.all_eq_true.mp h i m
      rw [e] at this
      cases this
    have go : ∀ {ws : List Nat}, i ∉ ws → (dwipe δ ws)[i]? = δ[i]? := by
      intro ws
      induction ws with
      | nil => intro _; rfl
      | cons w r ih =>
        intro hm
        unfold dwipe
        rw [List.getElem?_set_ne (fun z => hm (by rw [z]; exact List.mem_cons_self))]
        exact ih fun m => hm (List.mem_cons_of_mem _ m)
    rw [go ni]
    exact e
theorem wipe_wipe {σ : L2.St} : ∀ {vs ws : List Nat}, (∀ v ∈ vs, v ∈ ws) → wipe (wipe σ vs) ws = wipe σ ws
  | [], _, _ => rfl
  | v :: vs, ws, h => by
    show wipe ((wipe σ vs).set v none) ws = wipe σ ws
    rw [wipe_set (h v List.mem_cons_self)]
    exact wipe_wipe fun w m => h w (List.mem_cons_of_mem _ m)
end
end DL

set_option Elab.async false
set_option linter.all false
set_option maxRecDepth 100000
/-! What a reading does, told by data alone: comprehensions, statements. -/
namespace DL
open PySem PySem.Spec PyProof.Rows L2
section
variable {B : Bs} {te ta tb tc : TE} {tt tu : TT} {tl : TA} {n n' n'' : Nat} {δ δ' δ'' : List SD} {K : Nat → PD → Prop} {KT : Nat → Bool → Prop} {KA : Nat → List PD → Prop} {σ σ' : L2.St} {H H' H'' : Hp} {A A' A'' : Nat → Addr}
theorem Rep.chg (R : Rep B n σ H δ A) (c : Chg B.p n n' H H') (R' : Rep B n' σ' H' δ' A') : Rep B n' σ H' δ A :=
  ⟨R.len, fun i d g => let ⟨v, a, b⟩ := R.dat i d g; ⟨v, a, R.datGo c b⟩, fun i ds g => let ⟨a, b, d, xs, h1, h2, h3⟩ := R.own i ds g; ⟨a, b, d, xs, c.2 _ _ h1 (by
      by_cases w : 0 < B.n0
      · exact .inl fun e => b (e ▸ (R.bud w).1)
      · have := R.le
        have := R'.le
        exact .inr (by omega)), h2, R.allGo c h3⟩, R.inj, R.pot, R'.dom, R'.base, R'.bud, R'.le, R'.few⟩
theorem Rep.newOff (R : Rep B n σ H δ A) {q : Addr} (h : H q = none) {k l : Nat} (hk : k ≤ B.n0) (hl : l ≤ B.n0) : q ≠ B.p ∨ k = l := by
  by_cases g : 0 < B.n0
  · exact .inl (R.np h g)
  · exact .inr (by omega)
/-- what stands at a place that is none of the data may change -/
theorem Rep.poke {q : Addr} {o : HO} (R : Rep B n σ H δ A) (hq : B.Z q) (h0 : B.H0 q = none) (np : 0 < B.n0 → q ≠ B.p) (ho : ∀ xs, o ≠ .tup xs := by intro _ z; cases z) : Rep B n σ (upd H q o) δ A := by
  have k : ∀ b u, H b = some u → ¬ Zs B.Z δ A b → upd H q o b = some u ∧ ¬ Zs B.Z δ A b := fun b u e z => ⟨by
    rw [upd_ne (fun w => z (.inl (by rw [w]; exact hq)))]
    exact e, z⟩
  refine ⟨R.len, fun i d g => let ⟨v, a, b⟩ := R.dat i d g; ⟨v, a, b.go k⟩, fun i ds g => ?_, R.inj, R.pot, fun b z => ?_, fun b u e w => ?_, fun g => ⟨(R.bud g).1, ?_⟩, R.le, R.few⟩
  · obtain ⟨a, b, c, xs, h1, h2, h3⟩ := R.own i ds g
    refine ⟨a, b, c, xs, ?_, h2, h3.go k⟩
    rw [upd_ne (fun w => b (by rw [w]; exact hq))]
    exact h1
  · by_cases w : b = q
    · rw [w]
      exact ⟨o, upd_same, ho⟩
    · exact (R.dom b z).same fun u e => by rw [upd_ne w]; exact e
  · rw [upd_ne (ne_of_none e h0)]
    exact R.base b u e w
  · obtain ⟨m, p1, p2⟩ := (R.bud g).2
    exact ⟨m, p1.eq fun u e => by rw [upd_ne (Ne.symm (np g))]; exact e, p2⟩
theorem zs_dwipe {Z : Addr → Prop} {vs : List Nat} (h : noneOwn δ vs = true) : Zs Z (dwipe δ vs) A = Zs Z δ A := funext fun b => propext (or_congr_right (dwipe_own h b))
/-- a comprehension, by a word of the turn, of what is left of the draws and of what is made -/
theorem do_lc {wi : TI} {g : TG} {ts vs : List Nat} {K : Nat → List PD → Prop}
    (h : DI wi n δ fun n1 xs => ∃ I : Nat → Nat → List PD → Prop, I 0 n1 [] ∧ (∀ i x nb acc, xs[i]? = some x → I i nb acc → DG g ts x nb (dwipe δ vs) fun n2 δ2 => DT tt n2 δ2 fun n3 c => if c = true then DW te n3 δ2 fun n4 y => acc.length < sizeLine ∧ I (i + 1) n4 (acc ++ [y]) else I (i + 1) n3 acc) ∧ ∀ nb acc, I xs.length nb acc → K nb acc)
    (hv : noneOwn δ vs = true := by rfl) (hts : ∀ t ∈ ts, t ∈ vs := by decide) : DO (tLc wi g tt te vs) n δ K := by
  intro B σ H A R Q q
  refine h B σ H A R _ fun J H1 n1 xs ⟨I, i0, turn, fin⟩ R1 c1 src D hD => ?_
  obtain ⟨G, Y, w, hG, hY⟩ := src.is
  obtain ⟨f0, f1, f2⟩ := R1.free0 hD
  have base0 : ∀ {b o}, B.H0 b = some o → b ≠ D := fun e z => by rw [z, f0] at e; cases e
  refine lc_it w (D := D) (Qd := fun H => Q (.ref D) H) (fun i H2 => ∃ nb acc ys, I i nb acc ∧ Rep (B.add D) nb σ H2 δ A ∧ Chg B.p n1 nb H1 H2 ∧ H2 D = some (.lst ys) ∧ ys.length ≤ sizeLine ∧ DatAll (Zs (B.add D).Z δ A) H2 ys acc)
    ⟨n1, [], [], i0, R1.more hD, .of (new_same hD), upd_same, Nat.zero_le _, .nil⟩ ?_ ?_ ?_
  · rintro i H2 _ ⟨nb, acc, ys, _, _, cb, _⟩
    exact hG H2 fun b o e z => cb.2 b o e (R1.off z cb.1)
  · rintro i x H2 H3 hi ⟨nb, acc, ys, ii, Rb, cb, eD, lD, dD⟩ y
    obtain ⟨sm, d, e1, e2⟩ := hY i H2 x H3 hi (fun b o e z => cb.2 b o e (R1.off z cb.1)) y
    have hd : Dat (Zs (B.add D).Z (dwipe δ vs) A) H3 x d := by
      rw [zs_dwipe hv]
      refine e2 _ (fun b z => ?_) fun b z => Rb.zdom z
      rcases z with z | z
      · rcases z with z | z
        · exact .inl (.inl z)
        · exact .inr (by rw [z]; exact hD)
      · exact .inl (.inr z)
    have R3 := Rb.ext sm
    refine turn i d nb acc e1 ii (B.add D) (wipe σ vs) H3 A x (R3.wiped vs) hd _ fun σ2 H4 n2 δ2 k2 R4 c4 o4 w4 => ?_
    refine ⟨by rw [w4 vs hts, wipe_wipe fun _ m => m], k2 (B.add D) σ2 H4 A R4 _ fun b H5 n3 k3 R5 c5 => ?_⟩
    cases b with
    | true =>
      refine k3 (B.add D) σ2 H5 A R5 _ fun yv H6 n4 dy ⟨la, i4⟩ R6 c6 d6 => ?_
      have cc : Chg B.p nb n4 H3 H6 := (c4.trans c5).trans c6
      have R7 : Rep (B.add D) n4 σ H6 δ A := R3.chg cc R6
      have eD6 : H6 D = some (.lst ys) := cc.2 D _ (sm D _ eD) (R1.newOff hD (Nat.le_trans cc.1 Rb.le) Rb.le)
      have zo : ∀ b, Zs (B.add D).Z δ2 A b ↔ Zs (B.add D).Z δ A b := fun b => by
        rw [← zs_dwipe hv]
        exact or_congr_right (o4 b)
      refine ⟨ys, eD6, by rw [dD.len]; exact la, n4, acc ++ [dy], ys ++ [yv], i4, R7.poke (.inr rfl) f0 (fun g => R1.np hD g), ?_, upd_same, by rw [List.length_append, dD.len]; exact la, ?_⟩
      · refine ⟨Nat.le_trans cc.1 cb.1, fun b o e z => ?_⟩
        have c8 : Chg B.p n1 n4 H1 H6 := (cb.trans (.of sm)).trans cc
        rw [upd_ne (ne_of_none e hD)]
        exact c8.2 b o e z
      · have k : ∀ b u, H6 b = some u → ¬ Zs (B.add D).Z δ A b → upd H6 D (.lst (ys ++ [yv])) b = some u ∧ ¬ Zs (B.add D).Z δ A b := fun b u e z => ⟨by
          rw [upd_ne (fun w => z (.inl (.inr w)))]
          exact e, z⟩
        exact ((R3.allGo cc (dD.same sm)).snoc (d6.anti fun b => (zo b).mpr)).go k
    | false =>
      have cc : Chg B.p nb n3 H3 H5 := c4.trans c5
      exact ⟨n3, acc, ys, k3, R3.chg cc R5, (cb.trans (.of sm)).trans cc, cc.2 D _ (sm D _ eD) (R1.newOff hD (Nat.le_trans cc.1 Rb.le) Rb.le), lD, R3.allGo cc (dD.same sm)⟩
  · rintro H2 ⟨nb, acc, ys, ii, Rb, cb, eD, lD, dD⟩
    exact q D ys H2 nb acc (fin nb acc ii) (free_back R R1 c1 hD) Rb (c1.trans cb) eD lD dD
/-! ### statements -/
structure DE where
  nx : Nat → List SD → Prop
  rt : Nat → PD → Prop
  bk : Nat → List SD → Prop := fun _ _ => False
  ct : Nat → List SD → Prop := fun _ _ => False
/-- what a statement may have done -/
structure Mv (B : Bs) (n n' : Nat) (δ : List SD) (A : Nat → Addr) (H : Hp) (δ' : List SD) (A' : Nat → Addr) (H' : Hp) : Prop where
  le : n' ≤ n
  stay : ∀ b o, H b = some o → ¬ Own δ A b → (b ≠ B.p ∨ n' = n) → H' b = some o
  own : ∀ b, Own δ' A' b → Own δ A b ∨ H b = none
  live : ∀ b, H b ≠ none → H' b ≠ none
theorem Mv.refl : Mv B n n δ A H δ A H := ⟨Nat.le_refl _, fun _ _ e _ _ => e, fun _ => .inl, fun _ => id⟩
theorem Mv.trans (a : Mv B n n' δ A H δ' A' H') (b : Mv B n' n'' δ' A' H' δ'' A'' H'') : Mv B n n'' δ A H δ'' A'' H'' := by
  refine ⟨Nat.le_trans b.le a.le, fun c o e z w => ?_, fun c z => ?_, fun c => b.live c ∘ a.live c⟩
  · have l1 := a.le
    have l2 := b.le
    refine b.stay c o (a.stay c o e z (w.imp id fun w => by omega)) (fun y => ?_) (w.imp id fun w => by omega)
    rcases a.own c y with y | y
    · exact z y
    · rw [y] at e
      cases e
  · rcases b.own c z with z | z
    · exact a.own c z
    · cases e : H c with
      | none => exact .inr rfl
      | some o => exact absurd z (a.live c (by rw [e]; exact Option.some_ne_none _))
theorem Mv.of (R' : Rep B n' σ' H' δ' A') (c : Chg B.p n n' H H') (l : n ≤ B.n0) (o : ∀ b, Own δ' A b → Own δ A b) : Mv B n n' δ A H δ' A H' := by
  refine ⟨c.1, fun b u e _ w => c.2 b u e w, fun b z => .inl (o b z), fun b z => ?_⟩
  cases e : H b with
  | none => exact absurd e z
  | some u =>
    by_cases w : b ≠ B.p ∨ n' = n
    · rw [c.2 b u e w]
      exact Option.some_ne_none _
    · have w1 : b = B.p := Classical.byContradiction fun z => w (.inl z)
      have w2 : n' ≠ n := fun z => w (.inr z)
      have := c.1
      rw [w1]
      exact R'.domN B.p (R'.bud (by omega)).1
structure Ret (B : Bs) (n : Nat) (H : Hp) (v : V) (d : PD) : Prop where
  dat : Dat B.Z H v d
  base : ∀ b o, B.H0 b = some o → (b ≠ B.p ∨ n = B.n0) → H b = some o
  bud : 0 < B.n0 → ∃ m, Pot H B.p m ∧ m + n ≤ B.M
  le : n ≤ B.n0
def DS (ts : TS) (n : Nat) (δ : List SD) (E : DE) : Prop := ∀ (B : Bs) (σ : L2.St) (H : Hp) (A : Nat → Addr), Rep B n σ H δ A → ∀ D : Ends,
  (∀ σ' H' A' n' δ', E.nx n' δ' → Rep B n' σ' H' δ' A' → Mv B n n' δ A H δ' A' H' → D.nx σ' H') →
  (∀ v H' n' d, E.rt n' d → Ret B n' H' v d → D.rt v H') →
  (∀ σ' H' A' n' δ', E.bk n' δ' → Rep B n' σ' H' δ' A' → Mv B n n' δ A H δ' A' H' → D.bk σ' H') →
  (∀ σ' H' A' n' δ', E.ct n' δ' → Rep B n' σ' H' δ' A' → Mv B n n' δ A H δ' A' H' → D.ct σ' H') → ts D σ H
variable {t u : TS} {E : DE}
theorem ds_seq (h : DS t n δ { E with nx := fun n1 δ1 => DS u n1 δ1 E }) : DS (tSeq t u) n δ E := fun B σ H A R D k1 k2 k3 k4 => h B σ H A R _
  (fun σ1 H1 A1 n1 δ1 hu R1 m1 => hu B σ1 H1 A1 R1 D (fun σ2 H2 A2 n2 δ2 e R2 m2 => k1 σ2 H2 A2 n2 δ2 e R2 (m1.trans m2)) k2 (fun σ2 H2 A2 n2 δ2 e R2 m2 => k3 σ2 H2 A2 n2 δ2 e R2 (m1.trans m2)) fun σ2 H2 A2 n2 δ2 e R2 m2 => k4 σ2 H2 A2 n2 δ2 e R2 (m1.trans m2)) k2 k3 k4
theorem ds_next (h : E.nx n δ) : DS tNext n δ E := fun B σ H A R D k1 k2 k3 k4 => k1 σ H A n δ h R .refl
theorem ds_brk (h : E.bk n δ) : DS tBreak n δ E := fun B σ H A R D k1 k2 k3 k4 => k3 σ H A n δ h R .refl
theorem ds_cont (h : E.ct n δ) : DS tCont n δ E := fun B σ H A R D k1 k2 k3 k4 => k4 σ H A n δ h R .refl
theorem Rep.ret (R : Rep B n σ H δ A) {v : V} {d : PD} (h : Dat (Zs B.Z δ A) H v d) : Ret B n H v d := ⟨h.anti fun _ => .inl, R.base, fun g => (R.bud g).2, R.le⟩
theorem ds_ret (h : DW te n δ E.rt) : DS (tRet te) n δ E := fun B σ H A R D k1 k2 k3 k4 => h B σ H A R _ fun v H1 n1 d kd R1 c1 d1 => k2 v H1 n1 d kd (R1.ret d1)
theorem ds_retN (h : E.rt n .non) : DS tRetN n δ E := fun B σ H A R D k1 k2 k3 k4 => k2 _ H n _ h (R.ret .non)
theorem ds_drop (h : DW te n δ fun n1 _ => E.nx n1 δ) : DS (tDrop te) n δ E := fun B σ H A R D k1 k2 k3 k4 => h B σ H A R _ fun v H1 n1 d kd R1 c1 d1 => k1 σ H1 A n1 δ kd R1 (.of R1 c1 R.le fun _ => id)
theorem ds_asg {g : TG} {ts : List Nat} (h : DW te n δ fun n1 x => DG g ts x n1 δ E.nx) : DS (tAsg te g) n δ E := fun B σ H A R D k1 k2 k3 k4 => h B σ H A R _ fun v H1 n1 d kd R1 c1 d1 =>
  kd B σ H1 A v R1 d1 _ fun σ2 H2 n2 δ2 e R2 c2 o2 _ => k1 σ2 H2 A n2 δ2 e R2 (.of R2 (c1.trans c2) R.le fun b => (o2 b).mp)
theorem own_adopt {i : Nat} {q : Addr} {ds : List PD} (hi : notOwn δ[i]? = true) {b : Addr} (z : Own (δ.set i (.own ds)) (setA A i q) b) : Own δ A b ∨ b = q := by
  obtain ⟨j, es, e, r⟩ := z
  by_cases w : i = j
  · subst w
    rw [setA_same] at r
    exact .inr r.symm
  · rw [List.getElem?_set_ne w] at e
    rw [setA_ne w] at r
    exact .inl ⟨j, es, e, r⟩
theorem Rep.npq (R : Rep B n σ H δ A) {q : Addr} (h : H q = none) : (0 < B.n0 → q ≠ B.p) := R.np h
theorem ds_own {i : Nat} (h : DO te n δ fun n1 ds => E.nx n1 (δ.set i (.own ds))) (hi : i < δ.length := by decide) (ho : notOwn δ[i]? = true := by rfl) : DS (tAsg te (gName i)) n δ E := fun B σ H A R D k1 k2 k3 k4 =>
  h B σ H A R _ fun q xs H1 n1 ds kd f R1 c1 e1 l1 d1 => by
    obtain ⟨f0, f1, f2⟩ := R.free0 f
    have R2 := R1.adopt' (i := i) (ds := ds) hi (notOwn_ne ho) f1 f0 e1 l1 d1 (R.np f)
    refine k1 _ H1 _ n1 _ kd R2 ?_
    have m : Mv B n n1 δ A H δ A H1 := .of (R1.less' f0 (R.np f) f1) c1 R.le fun _ => id
    exact ⟨m.le, m.stay, fun b z => (own_adopt ho z).imp id fun z => by rw [z]; exact f, m.live⟩
theorem ds_if (h : DT tt n δ fun n1 c => if c = true then DS t n1 δ E else DS u n1 δ E) : DS (tIfS tt t u) n δ E := fun B σ H A R D k1 k2 k3 k4 => h B σ H A R _ fun c H1 n1 kc R1 c1 => by
  have m : Mv B n n1 δ A H δ A H1 := .of R1 c1 R.le fun _ => id
  cases c with
  | true => exact kc B σ H1 A R1 D (fun σ2 H2 A2 n2 δ2 e R2 m2 => k1 σ2 H2 A2 n2 δ2 e R2 (m.trans m2)) k2 (fun σ2 H2 A2 n2 δ2 e R2 m2 => k3 σ2 H2 A2 n2 δ2 e R2 (m.trans m2)) fun σ2 H2 A2 n2 δ2 e R2 m2 => k4 σ2 H2 A2 n2 δ2 e R2 (m.trans m2)
  | false => exact kc B σ H1 A R1 D (fun σ2 H2 A2 n2 δ2 e R2 m2 => k1 σ2 H2 A2 n2 δ2 e R2 (m.trans m2)) k2 (fun σ2 H2 A2 n2 δ2 e R2 m2 => k3 σ2 H2 A2 n2 δ2 e R2 (m.trans m2)) fun σ2 H2 A2 n2 δ2 e R2 m2 => k4 σ2 H2 A2 n2 δ2 e R2 (m.trans m2)
theorem Mv.wk (w : Wk δ δ'') (m : Mv B n n' δ'' A H δ' A' H') : Mv B n n' δ A H δ' A' H' := ⟨m.le, fun b o e z => m.stay b o e fun y => z (w.own y), fun b z => (m.own b z).imp w.own id, m.live⟩
theorem Mv.wkR (w : Wk δ' δ'') (m : Mv B n n' δ A H δ' A' H') : Mv B n n' δ A H δ'' A' H' := ⟨m.le, m.stay, fun b z => m.own b (w.own z), m.live⟩
theorem ds_wk (δ'' : List SD) (h : DS t n δ'' E) (w : Wk δ δ'') : DS t n δ E := fun B σ H A R D k1 k2 k3 k4 => h B σ H A (R.wk w) D
  (fun σ2 H2 A2 n2 δ2 e R2 m2 => k1 σ2 H2 A2 n2 δ2 e R2 (m2.wk w)) k2 (fun σ2 H2 A2 n2 δ2 e R2 m2 => k3 σ2 H2 A2 n2 δ2 e R2 (m2.wk w)) fun σ2 H2 A2 n2 δ2 e R2 m2 => k4 σ2 H2 A2 n2 δ2 e R2 (m2.wk w)
/-- a for: a word of the turn, of what is left of the draws, of the slots -/
theorem ds_for {wi : TI} {g : TG} {ts : List Nat} (h : DI wi n δ fun n1 xs => ∃ I : Nat → Nat → List SD → Prop, I 0 n1 δ ∧ (∀ i x nb δ1, xs[i]? = some x → I i nb δ1 → DG g ts x nb δ1 fun n2 δ2 =>
      DS t n2 δ2 { E with nx := fun n δ => ∃ ε, Wk δ ε ∧ I (i + 1) n ε, ct := fun n δ => ∃ ε, Wk δ ε ∧ I (i + 1) n ε, bk := E.nx }) ∧ ∀ nb δ1, I xs.length nb δ1 → E.nx nb δ1) : DS (tFor wi g t) n δ E := by
  intro B σ H A R D k1 k2 k3 k4
  refine h B σ H A R _ fun J H1 n1 xs ⟨I, i0, turn, fin⟩ R1 c1 src => ?_
  obtain ⟨G, Y, w, hG, hY⟩ := src.is
  have m1 : Mv B n n1 δ A H δ A H1 := .of R1 c1 R.le fun _ => id
  have gg : ∀ {nb δ1 A1 H2}, Mv B n1 nb δ A H1 δ1 A1 H2 → ∀ b o, H1 b = some o → ¬ Zs B.Z δ A b → H2 b = some o := fun m b o e z => m.stay b o e (fun y => z (.inr y)) (R1.off z m.le)
  refine for_it w (fun i σ2 H2 => ∃ nb δ1 A1, I i nb δ1 ∧ Rep B nb σ2 H2 δ1 A1 ∧ Mv B n1 nb δ A H1 δ1 A1 H2) ⟨n1, δ, A, i0, R1, .refl⟩ ?_ ?_ ?_
  · rintro i σ2 H2 _ ⟨nb, δ1, A1, _, _, m⟩
    exact hG H2 (gg m)
  · rintro i x σ2 H2 H3 hi ⟨nb, δ1, A1, ii, Rb, m⟩ y
    obtain ⟨sm, d, e1, e2⟩ := hY i H2 x H3 hi (gg m) y
    have hd : Dat (Zs B.Z δ1 A1) H3 x d := e2 _ (fun b z => z.elim (fun z => .inl (.inl z)) fun z => (m.own b z).imp .inr id) fun b z => Rb.zdom z
    have R3 := Rb.ext sm
    have m3 : Mv B n1 nb δ A H1 δ1 A1 H3 := m.trans (.of R3 (.of sm) Rb.le fun _ => id)
    refine turn i d nb δ1 e1 ii B σ2 H3 A1 x R3 hd _ fun σ4 H4 n4 δ4 k4' R4 c4 o4 _ => ?_
    have m4 : Mv B n1 n4 δ A H1 δ4 A1 H4 := m3.trans (.of R4 c4 Rb.le fun b => (o4 b).mp)
    refine k4' B σ4 H4 A1 R4 _ ?_ k2 ?_ ?_
    · rintro σ5 H5 A5 n5 δ5 ⟨ε, we, i5⟩ R5 m5
      exact ⟨n5, ε, A5, i5, R5.wk we, (m4.trans m5).wkR we⟩
    · exact fun σ5 H5 A5 n5 δ5 e5 R5 m5 => k1 σ5 H5 A5 n5 δ5 e5 R5 (m1.trans (m4.trans m5))
    · rintro σ5 H5 A5 n5 δ5 ⟨ε, we, i5⟩ R5 m5
      exact ⟨n5, ε, A5, i5, R5.wk we, (m4.trans m5).wkR we⟩
  · rintro σ2 H2 ⟨nb, δ1, A1, ii, Rb, m⟩
    exact k1 σ2 H2 A1 nb δ1 (fin nb δ1 ii) Rb (m1.trans m)
/-- a while: a word of a measure, of what is left of the draws, of the slots -/
theorem ds_while (I : Nat → Nat → List SD → Prop) (m0 : Nat) (i0 : I m0 n δ) (turn : ∀ m nb δ1, I m nb δ1 → DT tt nb δ1 fun n2 c =>
      if c = true then DS t n2 δ1 { E with nx := fun n δ => ∃ m' ε, m' < m ∧ Wk δ ε ∧ I m' n ε, ct := fun n δ => ∃ m' ε, m' < m ∧ Wk δ ε ∧ I m' n ε, bk := E.nx } else E.nx n2 δ1) : DS (tWhile tt t) n δ E := by
  intro B σ H A R D k1 k2 k3 k4
  refine ⟨fun m σ2 H2 => ∃ nb δ1 A1, I m nb δ1 ∧ Rep B nb σ2 H2 δ1 A1 ∧ Mv B n nb δ A H δ1 A1 H2, ⟨m0, n, δ, A, i0, R, .refl⟩, ?_⟩
  rintro m σ2 H2 ⟨nb, δ1, A1, ii, Rb, mv⟩
  refine turn m nb δ1 ii B σ2 H2 A1 Rb _ fun c H3 n3 kc R3 c3 => ?_
  have m3 : Mv B n n3 δ A H δ1 A1 H3 := mv.trans (.of R3 c3 Rb.le fun _ => id)
  cases c with
  | true =>
    refine ⟨fun σ4 H4 => ∃ m', m' < m ∧ ∃ nb δ1 A1, I m' nb δ1 ∧ Rep B nb σ4 H4 δ1 A1 ∧ Mv B n nb δ A H δ1 A1 H4, fun σ4 H4 z => z, kc B σ2 H3 A1 R3 _ ?_ k2 ?_ ?_⟩
    · rintro σ5 H5 A5 n5 δ5 ⟨m', ε, lt, we, i5⟩ R5 m5
      exact ⟨m', lt, n5, ε, A5, i5, R5.wk we, (m3.trans m5).wkR we⟩
    · exact fun σ5 H5 A5 n5 δ5 e5 R5 m5 => k1 σ5 H5 A5 n5 δ5 e5 R5 (m3.trans m5)
    · rintro σ5 H5 A5 n5 δ5 ⟨m', ε, lt, we, i5⟩ R5 m5
      exact ⟨m', lt, n5, ε, A5, i5, R5.wk we, (m3.trans m5).wkR we⟩
  | false => exact k1 σ2 H3 A1 n3 δ1 kc R3 m3
end
end DL

set_option Elab.async false
set_option linter.all false
set_option maxRecDepth 100000
/-! What a reading does, told by data alone: lists that a slot alone holds; defs. -/
namespace DL
open PySem PySem.Spec PyProof.Rows L2
section
variable {B : Bs} {te ta tb tc : TE} {tt tu : TT} {tl : TA} {n n' n'' : Nat} {δ δ' δ'' : List SD} {K : Nat → PD → Prop} {KT : Nat → Bool → Prop} {KA : Nat → List PD → Prop} {σ σ' : L2.St} {H H' H'' : Hp} {A A' A'' : Nat → Addr} {E : DE}
theorem own_own {i : Nat} {ds es : List PD} (hi : δ[i]? = some (SD.own ds)) {b : Addr} : Own (δ.set i (.own es)) A b ↔ Own δ A b := by
  have l : i < δ.length := (List.getElem?_eq_some_iff.mp hi).1
  constructor
  · rintro ⟨j, fs, e, r⟩
    by_cases w : i = j
    · subst w
      exact ⟨i, ds, hi, r⟩
    · rw [List.getElem?_set_ne w] at e
      exact ⟨j, fs, e, r⟩
  · rintro ⟨j, fs, e, r⟩
    by_cases w : i = j
    · subst w
      exact ⟨i, es, List.getElem?_set_self l, r⟩
    · exact ⟨j, fs, by rw [List.getElem?_set_ne w]; exact e, r⟩
/-- the list that a slot alone holds is written -/
theorem Rep.ownSet (R : Rep B n σ H δ A) {i : Nat} {ds es : List PD} {ys : List V} (hi : δ[i]? = some (SD.own ds)) (l : ys.length ≤ sizeLine) (hd : DatAll (Zs B.Z δ A) H ys es) : Rep B n σ (upd H (A i) (.lst ys)) (δ.set i (.own es)) A := by
  have li : i < δ.length := (List.getElem?_eq_some_iff.mp hi).1
  have zz : Zs B.Z (δ.set i (.own es)) A = Zs B.Z δ A := funext fun b => propext (or_congr_right (own_own hi))
  obtain ⟨s0, z0, f0, xs0, e0, l0, d0⟩ := R.own i ds hi
  have k : ∀ b u, H b = some u → ¬ Zs B.Z δ A b → upd H (A i) (.lst ys) b = some u ∧ ¬ Zs B.Z δ A b := fun b u e z => ⟨by
    rw [upd_ne (fun w => z (.inr ⟨i, ds, hi, w.symm⟩))]
    exact e, z⟩
  refine ⟨by rw [List.length_set]; exact R.len, fun j d g => ?_, fun j fs g => ?_, fun j j2 fs gs g1 g2 a => ?_, fun j g => ?_, fun b z => ?_, fun b u e w => ?_, fun g => ⟨(R.bud g).1, ?_⟩, R.le, R.few⟩
  · rw [zz]
    by_cases w : i = j
    · subst w
      rw [List.getElem?_set_self li] at g
      cases g
    · rw [List.getElem?_set_ne w] at g
      obtain ⟨v, a, b⟩ := R.dat j d g
      exact ⟨v, a, b.go k⟩
  · rw [zz]
    by_cases w : i = j
    · subst w
      rw [List.getElem?_set_self li] at g
      cases g
      exact ⟨s0, z0, f0, ys, upd_same, l, hd.go k⟩
    · rw [List.getElem?_set_ne w] at g
      obtain ⟨a, b, c, xs, h1, h2, h3⟩ := R.own j fs g
      refine ⟨a, b, c, xs, ?_, h2, h3.go k⟩
      rw [upd_ne (fun e => w (R.inj i j ds fs hi g e.symm))]
      exact h1
  · have q1 : ∃ hs, δ[j]? = some (SD.own hs) := by
      by_cases w : i = j
      · exact ⟨ds, w ▸ hi⟩
      · rw [List.getElem?_set_ne w] at g1
        exact ⟨fs, g1⟩
    have q2 : ∃ hs, δ[j2]? = some (SD.own hs) := by
      by_cases w : i = j2
      · exact ⟨ds, w ▸ hi⟩
      · rw [List.getElem?_set_ne w] at g2
        exact ⟨gs, g2⟩
    obtain ⟨h1, q1⟩ := q1
    obtain ⟨h2, q2⟩ := q2
    exact R.inj j j2 h1 h2 q1 q2 a
  · by_cases w : i = j
    · subst w
      rw [List.getElem?_set_self li] at g
      cases g
    · rw [List.getElem?_set_ne w] at g
      exact R.pot j g
  · by_cases w : b = A i
    · rw [w]
      exact ⟨_, upd_same, fun _ z => by cases z⟩
    · exact (R.dom b z).same fun u e => by rw [upd_ne w]; exact e
  · rw [upd_ne (ne_of_none e f0)]
    exact R.base b u e w
  · obtain ⟨m, p1, p2⟩ := (R.bud g).2
    exact ⟨m, p1.eq fun u e => by rw [upd_ne (fun w => z0 (by rw [← w]; exact (R.bud g).1))]; exact e, p2⟩
theorem Mv.ownSet {i : Nat} {ds es : List PD} {o : HO} (hi : δ[i]? = some (SD.own ds)) : Mv B n n δ A H (δ.set i (.own es)) A (upd H (A i) o) := by
  refine ⟨Nat.le_refl _, fun b u e z _ => ?_, fun b z => .inl ((own_own hi).mp z), fun b z => ?_⟩
  · rw [upd_ne (fun w => z ⟨i, ds, hi, w.symm⟩)]
    exact e
  · by_cases w : b = A i
    · rw [w, upd_same]
      exact Option.some_ne_none _
    · rw [upd_ne w]
      exact z
theorem ds_append {Kf : PySem.W.Frag} {i : Nat} {ds : List PD} (hi : δ[i]? = some (SD.own ds)) (h : DW te n δ fun n1 d => ds.length < sizeLine ∧ E.nx n1 (δ.set i (.own (ds ++ [d])))) : DS (tDrop (tBM Kf "list" rAppend (tVar i) (tCons te tNil))) n δ E := fun B σ H A R D k1 k2 k3 k4 => by
  obtain ⟨s0, z0, f0, xs0, e0, l0, d0⟩ := R.own i ds hi
  refine ⟨.ref (A i), s0, Or.inl ⟨rfl, _, Or.inl (Or.inl e0)⟩, h B σ H A R _ fun v H1 n1 d ⟨l, k⟩ R1 c1 d1 => ?_⟩
  obtain ⟨s1, z1, f1, xs1, e1, l1, dd1⟩ := R1.own i ds hi
  have le : (xs1 ++ [v]).length ≤ sizeLine := by
    rw [List.length_append, dd1.len]
    exact l
  exact ⟨A i, xs1, v, rfl, rfl, e1, by rw [dd1.len]; exact l, k1 σ _ A n1 _ k (R1.ownSet hi le (dd1.snoc d1)) (.trans (.of R1 c1 R.le fun _ => id) (.ownSet hi))⟩
theorem ds_extend {Kf : PySem.W.Frag} {i : Nat} {ds : List PD} (hi : δ[i]? = some (SD.own ds)) (h : DW te n δ fun n1 d => ∃ es, d = .lst es ∧ ds.length + es.length ≤ sizeLine ∧ E.nx n1 (δ.set i (.own (ds ++ es)))) : DS (tDrop (tBM Kf "list" rExtend (tVar i) (tCons te tNil))) n δ E := fun B σ H A R D k1 k2 k3 k4 => by
  obtain ⟨s0, z0, f0, xs0, e0, l0, d0⟩ := R.own i ds hi
  refine ⟨.ref (A i), s0, Or.inl ⟨rfl, _, Or.inl (Or.inl e0)⟩, h B σ H A R _ fun v H1 n1 d ⟨es, e, l, k⟩ R1 c1 d1 => ?_⟩
  subst e
  obtain ⟨s1, z1, f1, xs1, e1, l1, dd1⟩ := R1.own i ds hi
  cases d1 with
  | @lst b zs _ h1 h2 h3 h4 =>
    have le : (xs1 ++ zs).length ≤ sizeLine := by
      rw [List.length_append, dd1.len, h4.len]
      exact l
    exact ⟨A i, b, xs1, zs, rfl, rfl, e1, h1, by rw [dd1.len, h4.len]; exact l, k1 σ _ A n1 _ k (R1.ownSet hi le (dd1.app h4)) (.trans (.of R1 c1 R.le fun _ => id) (.ownSet hi))⟩
theorem seqIx {k m : Nat} (h : k < m) : seqIndex? (k : Int) m = some k := by
  unfold seqIndex?
  have h1 : ¬ ((k : Int) < 0) := by omega
  simp only [if_neg h1]
  have h2 : (decide ((0 : Int) ≤ (k : Int)) && decide ((k : Int) < (m : Int))) = true := by
    rw [decide_eq_true (show (0 : Int) ≤ k by omega), decide_eq_true (show (k : Int) < m by omega)]
    rfl
  rw [if_pos h2]
  simp
/-- xs.append(ys.pop(e)) -/
theorem ds_appendPop {Kf Kg : PySem.W.Frag} {i j : Nat} {ds es : List PD} (hi : δ[i]? = some (SD.own ds)) (hj : δ[j]? = some (SD.own es)) (ij : j ≠ i) (hz : es.length < 2 ^ 62)
    (h : DW te n δ fun n1 d => ∃ (k : Nat) (x : PD), d = .int (k : Int) ∧ es[k]? = some x ∧ ds.length < sizeLine ∧ E.nx n1 ((δ.set j (.own (es.eraseIdx k))).set i (.own (ds ++ [x])))) :
    DS (tDrop (tBM Kf "list" rAppend (tVar i) (tCons (tBM Kg "list" rPopAt (tVar j) (tCons te tNil)) tNil))) n δ E := fun B σ H A R D k1 k2 k3 k4 => by
  obtain ⟨s0, z0, f0, xs0, e0, l0, d0⟩ := R.own i ds hi
  obtain ⟨s2, z2, f2, xs2, e2, l2, d2⟩ := R.own j es hj
  refine ⟨.ref (A i), s0, Or.inl ⟨rfl, _, Or.inl (Or.inl e0)⟩, .ref (A j), s2, Or.inl ⟨rfl, _, Or.inl (Or.inl e2)⟩, h B σ H A R _ fun v H1 n1 d ⟨k, x, e, ex, l, kk⟩ R1 c1 d1 => ?_⟩
  subst e
  cases d1
  obtain ⟨s1, z1, f1, xs1, e1, l1, dd1⟩ := R1.own i ds hi
  obtain ⟨s3, z3, f3, xs3, e3, l3, dd3⟩ := R1.own j es hj
  obtain ⟨xv, hxv, dxv⟩ := dd3.put ex
  have kl : k < xs3.length := (List.getElem?_eq_some_iff.mp hxv).1
  have kb : k < es.length := dd3.len ▸ kl
  have R2 := R1.ownSet (es := es.eraseIdx k) (ys := xs3.eraseIdx k) hj (Nat.le_trans (List.length_eraseIdx_le _ _) l3) (dd3.erase k)
  have hi2 : (δ.set j (.own (es.eraseIdx k)))[i]? = some (SD.own ds) := by
    rw [List.getElem?_set_ne ij]
    exact hi
  obtain ⟨s4, z4, f4, xs4, e4, l4, dd4⟩ := R2.own i ds hi2
  have nij : A i ≠ A j := fun e => ij (R1.inj i j ds es hi hj e).symm
  have same : xs4 = xs1 := by
    rw [upd_ne nij, e1] at e4
    cases e4
    rfl
  subst same
  have zz : Zs B.Z (δ.set j (.own (es.eraseIdx k))) A = Zs B.Z δ A := funext fun b => propext (or_congr_right (own_own hj))
  have dxv2 : Dat (Zs B.Z (δ.set j (.own (es.eraseIdx k))) A) (upd H1 (A j) (.lst (xs3.eraseIdx k))) xv x := by
    rw [zz]
    exact dxv.go fun b u e z => ⟨by
      rw [upd_ne (fun w => z (.inr ⟨j, es, hj, w.symm⟩))]
      exact e, z⟩
  have le : (xs4 ++ [xv]).length ≤ sizeLine := by
    rw [List.length_append, dd4.len]
    exact l
  have R3 := R2.ownSet (es := ds ++ [x]) (ys := xs4 ++ [xv]) hi2 le (dd4.snoc dxv2)
  refine ⟨A j, xs3, (k : Int), k, xv, rfl, rfl, e3, by omega, by have := dd3.len; omega, seqIx kl, hxv, A i, xs4, xv, rfl, rfl, e4, by rw [dd4.len]; exact l, ?_⟩
  exact k1 σ _ A n1 _ kk R3 (.trans (.of R1 c1 R.le fun _ => id) (.trans (.ownSet hj) (.ownSet hi2)))
/-! ### looks at a list that a slot alone holds -/
def PD.scalar : PD → Bool
  | .non | .bl _ | .int _ | .str _ | .ty _ => true
  | _ => false
theorem Dat.scalar {Z Z' : Addr → Prop} {v : V} {d : PD} (h : Dat Z H v d) (s : d.scalar = true) : Dat Z' H v d := by
  cases h with
  | non => exact .non
  | bl b => exact .bl b
  | int b => exact .int b
  | str b => exact .str b
  | ty b => exact .ty b
  | lst => cases s
  | tup => cases s
  | ins => cases s
  | dic => cases s
/-- .. for a while as data -/
theorem dw_look (δ' : List SD) (w : Wk δ δ') (h : DW te n δ' fun n1 d => d.scalar = true ∧ K n1 d) : DW te n δ K := fun B σ H A R Q q => h B σ H A (R.wk w) Q fun v H1 n1 d ⟨s, k⟩ R1 c1 d1 => q v H1 n1 d k (R.chg c1 R1) c1 (d1.scalar s)
theorem dt_look (δ' : List SD) (w : Wk δ δ') (h : DT tt n δ' KT) : DT tt n δ KT := fun B σ H A R Q q => h B σ H A (R.wk w) Q fun v H1 n1 k R1 c1 => q v H1 n1 k (R.chg c1 R1) c1
/-- .. its items -/
theorem dw_ixOwn {Kf : PySem.W.Frag} {i : Nat} {ds : List PD} (hi : δ[i]? = some (SD.own ds)) (h : DW te n δ fun n1 d => ∃ (k : Int) (x : PD), d = .int k ∧ atI ds k = some x ∧ K n1 x) : DW (tOp (rIx Kf) (tVar i) te) n δ K := fun B σ H A R Q q => by
  obtain ⟨s0, z0, f0, xs0, e0, l0, d0⟩ := R.own i ds hi
  refine ⟨.ref (A i), s0, h B σ H A R _ fun v H1 n1 d ⟨k, x, e, ex, kk⟩ R1 c1 d1 => ?_⟩
  subst e
  cases d1
  obtain ⟨s1, z1, f1, xs1, e1, l1, dd1⟩ := R1.own i ds hi
  obtain ⟨xv, hxv, dxv⟩ : ∃ xv, atI xs1 k = some xv ∧ Dat (Zs B.Z δ A) H1 xv x := by
    unfold atI at ex ⊢
    rw [dd1.len]
    cases ee : ixN ds.length k with
    | none => rw [ee] at ex; cases ex
    | some j =>
      rw [ee] at ex
      exact dd1.put ex
  exact .inl ⟨A i, xs1, k, xv, rfl, rfl, .inl (.inl e1), hxv, q xv H1 n1 x kk R1 c1 dxv⟩
/-! ### two targets at once -/
theorem Rep.congrZ {Z' : Addr → Prop} (R : Rep B n σ H δ A) (e : ∀ b, Z' b ↔ B.Z b) : Rep { B with Z := Z' } n σ H δ A := by
  have : Z' = B.Z := funext fun b => propext (e b)
  rw [this]
  exact R
theorem notOwn_set {i j : Nat} {a : SD} (hj : notOwn δ[j]? = true) (ij : i ≠ j) : notOwn (δ.set i a)[j]? = true := by
  rw [List.getElem?_set_ne ij]
  exact hj
theorem ds_par_dd {i j : Nat} (h : DW ta n δ fun n1 x => DW tb n1 δ fun n2 y => E.nx n2 ((δ.set i (.dat x)).set j (.dat y))) (hi : notOwn δ[i]? = true := by rfl) (hj : notOwn δ[j]? = true := by rfl) (ij : i ≠ j := by decide) : DS (tPar i j (tCons ta (tCons tb tNil))) n δ E := fun B σ H A R D k1 k2 k3 k4 =>
  h B σ H A R _ fun v H1 n1 x hx R1 c1 d1 => hx B σ H1 A R1 _ fun w H2 n2 y hy R2 c2 d2 => ⟨v, w, rfl, by
    have R3 := R2.put (notOwn_ne hi) (R1.datGo c2 d1)
    have zz : Zs B.Z (δ.set i (.dat x)) A = Zs B.Z δ A := zs_set (notOwn_ne hi) fun _ e => by cases e
    have R4 := R3.put (d := y) (v := w) (notOwn_ne (notOwn_set hj ij)) (by rw [zz]; exact d2)
    refine k1 _ H2 A n2 _ hy R4 (.of R4 (c1.trans c2) R.le fun b z => ?_)
    exact (own_set (notOwn_ne hi) fun _ e => by cases e).mp ((own_set (notOwn_ne (notOwn_set hj ij)) fun _ e => by cases e).mp z)⟩
/-- what a display gives to its targets: data, lists that nothing else holds -/
def Got (Z : Addr → Prop) (H : Hp) (L : List Addr) : List V → List SD → Prop
  | [], [] => L = []
  | v :: vs, .dat d :: as => Dat Z H v d ∧ Got Z H L vs as
  | v :: vs, .own ds :: as => ∃ q L' xs, L = q :: L' ∧ v = .ref q ∧ H q = some (.lst xs) ∧ xs.length ≤ sizeLine ∧ DatAll Z H xs ds ∧ q ∉ L' ∧ Got Z H L' vs as
  | _, _ => False
def Bs.adds (B : Bs) (L : List Addr) : Bs := { B with Z := fun b => B.Z b ∨ b ∈ L }
theorem Got.go {Z Z' : Addr → Prop} {H H' : Hp} (k : ∀ b o, H b = some o → ¬ Z b → H' b = some o ∧ ¬ Z' b) : ∀ {vs : List V} {as : List SD} {L : List Addr}, (∀ b o, b ∈ L → H b = some o → H' b = some o) → Got Z H L vs as → Got Z' H' L vs as
  | [], [], _, _, h => h
  | v :: vs, .dat d :: as, _, m, ⟨h1, h2⟩ => ⟨h1.go k, Got.go k m h2⟩
  | v :: vs, .own ds :: as, _, m, ⟨q, L', xs, e, e1, e2, e3, e4, e5, e6⟩ => ⟨q, L', xs, e, e1, m q _ (by rw [e]; exact List.mem_cons_self) e2, e3, e4.go k, e5, Got.go k (fun b o mb => m b o (by rw [e]; exact List.mem_cons_of_mem _ mb)) e6⟩
  | [], _ :: _, _, _, h => h.elim
  | _ :: _, [], _, _, h => h.elim
  | _ :: _, .un :: _, _, _, h => h.elim
  | _ :: _, .pot :: _, _, _, h => h.elim
def DM (ta : TA) (n : Nat) (δ : List SD) (K : Nat → List SD → Prop) : Prop := ∀ (B : Bs) (σ : L2.St) (H : Hp) (A : Nat → Addr), Rep B n σ H δ A → ∀ Q : List V → Hp → Prop,
  (∀ vs H' n' as L, K n' as → (∀ q ∈ L, H q = none) → Rep (B.adds L) n' σ H' δ A → Chg B.p n n' H H' → Got (Zs (B.adds L).Z δ A) H' L vs as → Q vs H') → ta σ H Q
theorem dm_nil {K : Nat → List SD → Prop} (k : K n []) : DM tNil n δ K := fun B σ H A R Q q => q [] H n [] [] k (fun _ m => absurd m List.not_mem_nil) (R.congrZ (B := B) fun b => by simp) .refl rfl
theorem dm_dat {K : Nat → List SD → Prop} (h : DW te n δ fun n1 d => DM tl n1 δ fun n2 as => K n2 (.dat d :: as)) : DM (tCons te tl) n δ K := fun B σ H A R Q q => h B σ H A R _ fun v H1 n1 d hd R1 c1 d1 =>
  hd B σ H1 A R1 _ fun vs H2 n2 as L ha f R2 c2 g => q (v :: vs) H2 n2 _ L ha (fun b m => free_back R R1 c1 (f b m)) R2 (c1.trans c2) ⟨d1.go fun b o e z => ⟨c2.2 b o e (R1.off z c2.1), fun y => by
    rcases y with y | y
    · rcases y with y | y
      · exact z (.inl y)
      · rw [f b y] at e
        cases e
    · exact z (.inr y)⟩, g⟩
theorem dm_own {K : Nat → List SD → Prop} (h : DO te n δ fun n1 ds => DM tl n1 δ fun n2 as => K n2 (.own ds :: as)) : DM (tCons te tl) n δ K := fun B σ H A R Q q => h B σ H A R _ fun p xs H1 n1 ds hd fp R1 c1 e1 l1 d1 =>
  hd (B.add p) σ H1 A R1 _ fun vs H2 n2 as L ha f R2 c2 g => by
    have pH1 : H1 p ≠ none := by rw [e1]; exact Option.some_ne_none _
    have zc : ∀ b, (B.adds (p :: L)).Z b ↔ ((B.add p).adds L).Z b := fun b => by
      show B.Z b ∨ b ∈ p :: L ↔ (B.Z b ∨ b = p) ∨ b ∈ L
      rw [List.mem_cons, or_assoc]
    have zf : (B.adds (p :: L)).Z = ((B.add p).adds L).Z := funext fun b => propext (zc b)
    obtain ⟨p0, p1, p2⟩ := R.free0 fp
    have e2 : H2 p = some (.lst xs) := c2.2 p _ e1 (R.newOff fp (Nat.le_trans c2.1 R1.le) R1.le)
    refine q (.ref p :: vs) H2 n2 _ (p :: L) ha (fun b m => ?_) (R2.congrZ zc) (c1.trans c2) ⟨p, L, xs, rfl, rfl, e2, l1, ?_, fun m => pH1 (f p m), ?_⟩
    · rcases List.mem_cons.mp m with m | m
      · rw [m]
        exact fp
      · exact free_back R (R1.less' p0 (R.np fp) p1) c1 (f b m)
    · rw [zf]
      exact d1.go fun b o e z => ⟨c2.2 b o e (R1.off z c2.1), fun y => by
        rcases y with y | y
        · rcases y with y | y
          · exact z (.inl y)
          · rw [f b y] at e
            cases e
        · exact z (.inr y)⟩
    · rw [zf]
      exact g
def setsV (σ : L2.St) : List Nat → List V → L2.St
  | i :: is, v :: vs => setsV (σ.set i (some v)) is vs
  | _, _ => σ
def setsD (δ : List SD) : List Nat → List SD → List SD
  | i :: is, a :: as => setsD (δ.set i a) is as
  | _, _ => δ
def okTs : List SD → List Nat → Bool
  | _, [] => true
  | δ, i :: is => notOwn δ[i]? && decide (i < δ.length) && !is.contains i && okTs δ is
theorem okTs_set {i : Nat} {a : SD} : ∀ {is : List Nat}, okTs δ is = true → i ∉ is → okTs (δ.set i a) is = true
  | [], _, _ => rfl
  | j :: is, h, m => by
    simp only [okTs, Bool.and_eq_true] at h ⊢
    obtain ⟨⟨⟨h1, h2⟩, h3⟩, h4⟩ := h
    refine ⟨⟨⟨notOwn_set h1 fun e => m (by rw [e]; exact List.mem_cons_self), by simpa using h2⟩, h3⟩, okTs_set h4 fun x => m (List.mem_cons_of_mem _ x)⟩
theorem Rep.adopts : ∀ {is : List Nat} {vs : List V} {as : List SD} {L : List Addr} {σ : L2.St} {δ : List SD} {A : Nat → Addr}, Rep (B.adds L) n σ H δ A → okTs δ is = true → is.length = vs.length → (∀ q ∈ L, ¬ B.Z q ∧ B.H0 q = none ∧ (0 < B.n0 → q ≠ B.p)) → Got (Zs (B.adds L).Z δ A) H L vs as →
    ∃ A', Rep B n (setsV σ is vs) H (setsD δ is as) A' ∧ ∀ b, Own (setsD δ is as) A' b → Own δ A b ∨ b ∈ L
  | [], [], [], _, σ, δ, A, R, _, _, _, g => by
    have gl : _ = [] := g
    subst gl
    exact ⟨A, R.congrZ (B := B.adds []) (fun b => by show B.Z b ↔ B.Z b ∨ b ∈ []; simp), fun b z => .inl z⟩
  | i :: is, v :: vs, .dat d :: as, L, σ, δ, A, R, o, l, f, ⟨g1, g2⟩ => by
    simp only [okTs, Bool.and_eq_true] at o
    obtain ⟨⟨⟨o1, o2⟩, o3⟩, o4⟩ := o
    have m : i ∉ is := by simpa using o3
    have R' := R.put (notOwn_ne o1) g1
    have zz : Zs (B.adds L).Z (δ.set i (.dat d)) A = Zs (B.adds L).Z δ A := zs_set (notOwn_ne o1) fun _ e => by cases e
    obtain ⟨A', Ra, ow⟩ := Rep.adopts (is := is) (vs := vs) (as := as) R' (okTs_set o4 m) (by simpa using l) f (by rw [zz]; exact g2)
    exact ⟨A', Ra, fun b z => (ow b z).imp (own_set (notOwn_ne o1) fun _ e => by cases e).mp id⟩
  | i :: is, v :: vs, .own ds :: as, L, σ, δ, A, R, o, l, f, ⟨q, L', xs, e, e1, e2, e3, e4, e5, e6⟩ => by
    simp only [okTs, Bool.and_eq_true] at o
    obtain ⟨⟨⟨o1, o2⟩, o3⟩, o4⟩ := o
    have m : i ∉ is := by simpa using o3
    have li : i < δ.length := of_decide_eq_true o2
    subst e e1
    have zc : ∀ b, ((B.adds L').add q).Z b ↔ (B.adds (q :: L')).Z b := fun b => by
      show (B.Z b ∨ b ∈ L') ∨ b = q ↔ B.Z b ∨ b ∈ q :: L'
      rw [List.mem_cons, or_assoc, @or_comm (b = q)]
    have zf : ((B.adds L').add q).Z = (B.adds (q :: L')).Z := funext fun b => propext (zc b)
    obtain ⟨f1, f2, f3⟩ := f q List.mem_cons_self
    have R' := (R.congrZ zc).adopt' (B := B.adds L') li (notOwn_ne o1) (fun z => z.elim f1 e5) f2 e2 e3 (by rw [zf]; exact e4) f3
    have zz : ∀ b, Zs (B.adds L').Z (δ.set i (.own ds)) (setA A i q) b → Zs (B.adds (q :: L')).Z δ A b := by
      rintro b (z | z)
      · exact .inl ((zc b).mp (.inl z))
      · rcases own_adopt o1 z with z | z
        · exact .inr z
        · exact .inl (.inr (by rw [z]; exact List.mem_cons_self))
    obtain ⟨A', Ra, ow⟩ := Rep.adopts (is := is) (vs := vs) (as := as) R' (okTs_set o4 m) (by simpa using l) (fun b mb => f b (List.mem_cons_of_mem _ mb)) (Got.go (fun b o e z => ⟨e, fun y => z (zz b y)⟩) (fun _ _ _ e => e) e6)
    refine ⟨A', Ra, fun b z => ?_⟩
    rcases ow b z with z | z
    · rcases own_adopt o1 z with z | z
      · exact .inl z
      · exact .inr (by rw [z]; exact List.mem_cons_self)
    · exact .inr (List.mem_cons_of_mem _ z)
  | [], _ :: _, _, _, _, _, _, _, _, l, _, _ => by cases l
  | _ :: _, [], _, _, _, _, _, _, _, l, _, _ => by cases l
  | _, [], _ :: _, _, _, _, _, _, _, _, _, g => g.elim
  | _, _ :: _, [], _, _, _, _, _, _, _, _, g => g.elim
  | _, _ :: _, .un :: _, _, _, _, _, _, _, _, _, g => g.elim
  | _, _ :: _, .pot :: _, _, _, _, _, _, _, _, _, g => g.elim
theorem Mv.adds {L : List Addr} {as : List SD} {is : List Nat} (R : Rep B n σ H δ A) (R2 : Rep B n' σ' H' δ' A') (c : Chg B.p n n' H H') (f : ∀ q ∈ L, H q = none) (o : ∀ b, Own δ' A' b → Own δ A b ∨ b ∈ L) : Mv B n n' δ A H δ' A' H' := by
  have m : Mv B n n' δ A H δ A H' := .of (R.chg c R2) c R.le fun _ => id
  exact ⟨m.le, m.stay, fun b z => (o b z).imp id (f b), m.live⟩
theorem Got.len : ∀ {vs : List V} {as : List SD} {L : List Addr} {Z : Addr → Prop}, Got Z H L vs as → vs.length = as.length
  | [], [], _, _, _ => rfl
  | v :: vs, .dat d :: as, _, _, ⟨_, h⟩ => congrArg Nat.succ (Got.len h)
  | v :: vs, .own d :: as, _, _, ⟨_, _, _, _, _, _, _, _, _, h⟩ => congrArg Nat.succ (Got.len h)
  | [], _ :: _, _, _, h => h.elim
  | _ :: _, [], _, _, h => h.elim
  | _ :: _, .un :: _, _, _, h => h.elim
  | _ :: _, .pot :: _, _, _, h => h.elim
/-- a, b = x, y -/
theorem ds_par {i j : Nat} (h : DM tl n δ fun n1 as => as.length = 2 ∧ E.nx n1 (setsD δ [i, j] as)) (o : okTs δ [i, j] = true := by rfl) : DS (tPar i j tl) n δ E := fun B σ H A R D k1 k2 k3 k4 =>
  h B σ H A R _ fun vs H1 n1 as L ⟨ll, ha⟩ f R1 c1 g => by
    have l := g.len
    match vs, l.trans ll, g with
    | [v, w], _, g =>
      refine ⟨v, w, rfl, ?_⟩
      obtain ⟨A', R', ow⟩ := R1.adopts (is := [i, j]) (vs := [v, w]) o rfl (fun q m => ⟨fun z => R.domN q z (f q m), (R.free0 (f q m)).1, R.np (f q m)⟩) g
      exact k1 _ H1 A' n1 _ ha R' (.adds (is := [i, j]) (as := as) R R' c1 f ow)
def gNames : List Nat → TGs
  | [] => gNil
  | i :: r => gCons (gName i) (gNames r)
theorem gNames_run : ∀ {is : List Nat} {vs : List V} {σ : L2.St} {H : Hp} {Q : L2.St → Hp → Prop}, is.length = vs.length → Q (setsV σ is vs) H → gNames is vs σ H Q
  | [], [], _, _, _, _, q => ⟨rfl, q⟩
  | i :: is, v :: vs, σ, H, Q, l, q => ⟨v, vs, rfl, gNames_run (is := is) (vs := vs) (by simpa using l) q⟩
  | [], _ :: _, _, _, _, l, _ => by cases l
  | _ :: _, [], _, _, _, l, _ => by cases l
/-- a, b, c = x, y, z by way of a tuple -/
theorem ds_unpack {Kf : PySem.W.Frag} (is : List Nat) {k : Nat} (h : DM tl n δ fun n1 as => as.length = is.length ∧ E.nx n1 (setsD δ is as)) (hk : k = is.length := by rfl) (hs : is.length ≤ sizeLine := by decide) (o : okTs δ is = true := by rfl) : DS (tAsg (tTup tl) (gTup Kf k (gNames is))) n δ E := fun B σ H A R D k1 k2 k3 k4 =>
  h B σ H A R _ fun vs H1 n1 as L ⟨ll, ha⟩ f R1 c1 g => by
    have l : is.length = vs.length := (g.len.trans ll).symm
    refine ⟨by rw [← l]; exact hs, fun p hp => ⟨p, vs, rfl, .inl (.inl upd_same), by rw [← l, hk], gNames_run l ?_⟩⟩
    have ns := new_same (o := HO.tup vs) hp
    have R2 := R1.ext ns
    obtain ⟨A', R', ow⟩ := R2.adopts (is := is) (vs := vs) o l (fun q m => ⟨fun z => R.domN q z (f q m), (R.free0 (f q m)).1, R.np (f q m)⟩) (Got.go (fun b o e z => ⟨ns b o e, z⟩) (fun b o _ e => ns b o e) g)
    exact k1 _ _ A' n1 _ ha R' (.adds (is := is) (as := as) R R' (c1.trans (.of ns)) f ow)
end
end DL

set_option Elab.async false
set_option linter.all false
set_option maxRecDepth 100000
/-! What built-ins and operators do, told by data alone; defs. -/
namespace DL
open PySem PySem.Spec PyProof.Rows L2
/-! ### either of two readings -/
theorem OpR.alt {X : Cx} {f : Value → Value → Sem Value} {r s : R2} (a : OpR X f r) (b : OpR X f s) : OpR X f (fun x y H Q => r x y H Q ∨ s x y H Q) := fun pins st σ H x y v u Q I rx ry h => h.elim (a pins st σ H x y v u Q I rx ry) (b pins st σ H x y v u Q I rx ry)
theorem CallR.alt {X : Cx} {f : Value} {r s : List V → Hp → VK → Prop} (a : CallR X f r) (b : CallR X f s) : CallR X f (fun x H Q => r x H Q ∨ s x H Q) := fun pins st σ H xs us Q I rx h => h.elim (a pins st σ H xs us Q I rx) (b pins st σ H xs us Q I rx)
theorem SlR.alt {X : Cx} {r s : V → Option Int → Option Int → Hp → VK → Prop} (a : SlR X r) (b : SlR X s) : SlR X (fun x lo hi H Q => r x lo hi H Q ∨ s x lo hi H Q) := fun pins st σ H x v vl vu lo hi sl Q I rx hs pl pu h => h.elim (a pins st σ H x v vl vu lo hi sl Q I rx hs pl pu) (b pins st σ H x v vl vu lo hi sl Q I rx hs pl pu)
section
variable {X : Cx}
/-! ### + -/
def rAddA (K : PySem.W.Frag) : R2 := fun x y H Q => rI0 (fun i j => .int (i + j)) x y H Q ∨ rCat x y H Q ∨ rCatA K x y H Q ∨ ∃ i j, x = .str i ∧ y = .str j ∧ i.length + j.length ≤ sizeLine ∧ Q (.str (i ++ j)) H
theorem op_addA : OpR X (binaryOp .Add) (rAddA X.K) := OpR.alt op_add (OpR.alt op_cat (OpR.alt op_catA op_add_str))
def sAdd : PD → PD → (PD → Prop) → Prop
  | .int i, .int j, K => K (.int (i + j))
  | .lst xs, .lst ys, K => xs.length + ys.length ≤ sizeLine ∧ K (.lst (xs ++ ys))
  | .tup xs, .tup ys, K => xs.length + ys.length ≤ sizeLine ∧ K (.tup (xs ++ ys))
  | .str x, .str y, K => x.length + y.length ≤ sizeLine ∧ K (.str (x ++ y))
  | _, _, _ => False
theorem rd_add {Kf : PySem.W.Frag} : RD (rAddA Kf) sAdd := by
  intro Z H x y dx dy Kd Q zd hx hy hs q
  cases hx with
  | int i =>
    cases hy with
    | int j => exact .inl ⟨i, j, rfl, rfl, q _ H _ hs (fun _ _ e => e) (.int _)⟩
    | _ => exact hs.elim
  | str i =>
    cases hy with
    | str j => exact .inr (.inr (.inr ⟨i, j, rfl, rfl, hs.1, q _ H _ hs.2 (fun _ _ e => e) (.str _)⟩))
    | _ => exact hs.elim
  | @lst a xs ds h1 h2 h3 h4 =>
    cases hy with
    | @lst b ys es g1 g2 g3 g4 =>
      refine .inr (.inl ⟨a, b, xs, ys, rfl, rfl, h1, g1, by rw [h4.len, g4.len]; exact hs.1, fun p hp => ?_⟩)
      have s := new_same (o := HO.lst (xs ++ ys)) hp
      exact q _ _ _ hs.2 s (.lst upd_same (fun z => zd p z hp) (by rw [List.length_append, h4.len, g4.len]; exact hs.1) ((h4.app g4).same s))
    | _ => exact hs.elim
  | @tup a xs ds h1 h2 h3 h4 =>
    cases hy with
    | @tup b ys es g1 g2 g3 g4 =>
      refine .inr (.inr (.inl ⟨a, b, xs, ys, rfl, rfl, .inl (.inl h1), .inl (.inl g1), by rw [h4.len, g4.len]; exact hs.1, fun e => ?_, fun _ e => ?_, fun _ _ p hp => ?_⟩))
      · subst e
        cases h4
        exact q _ H _ hs.2 (fun _ _ e => e) (.tup g1 g2 g3 g4)
      · subst e
        cases g4
        have := hs.2
        rw [List.append_nil] at this
        exact q _ H _ this (fun _ _ e => e) (.tup h1 h2 h3 h4)
      · have s := new_same (o := HO.tup (xs ++ ys)) hp
        exact q _ _ _ hs.2 s (.tup upd_same (fun z => zd p z hp) (by rw [List.length_append, h4.len, g4.len]; exact hs.1) ((h4.app g4).same s))
    | _ => exact hs.elim
  | _ => exact hs.elim
/-! ### whole numbers -/
def sI (C : Int → Int → Prop) (g : Int → Int → PD) : PD → PD → (PD → Prop) → Prop
  | .int i, .int j, K => C i j ∧ K (g i j)
  | _, _, _ => False
def sI0 (g : Int → Int → PD) : PD → PD → (PD → Prop) → Prop
  | .int i, .int j, K => K (g i j)
  | _, _, _ => False
theorem rd_I {C : Int → Int → Prop} {f : Int → Int → Int} : RD (rI C fun i j => .int (f i j)) (sI C fun i j => .int (f i j)) := by
  intro Z H x y dx dy Kd Q zd hx hy hs q
  cases hx with
  | int i =>
    cases hy with
    | int j => exact ⟨i, j, rfl, rfl, hs.1, q _ H _ hs.2 (fun _ _ e => e) (.int _)⟩
    | _ => exact hs.elim
  | _ => exact hs.elim
theorem rd_I0 {f : Int → Int → Int} : RD (rI0 fun i j => .int (f i j)) (sI0 fun i j => .int (f i j)) := by
  intro Z H x y dx dy Kd Q zd hx hy hs q
  cases hx with
  | int i =>
    cases hy with
    | int j => exact ⟨i, j, rfl, rfl, q _ H _ hs (fun _ _ e => e) (.int _)⟩
    | _ => exact hs.elim
  | _ => exact hs.elim
theorem rd_B0 {f : Int → Int → Bool} : RD (rI0 fun i j => .bl (f i j)) (sI0 fun i j => .bl (f i j)) := by
  intro Z H x y dx dy Kd Q zd hx hy hs q
  cases hx with
  | int i =>
    cases hy with
    | int j => exact ⟨i, j, rfl, rfl, q _ H _ hs (fun _ _ e => e) (.bl _)⟩
    | _ => exact hs.elim
  | _ => exact hs.elim
def sNeg : PD → (PD → Prop) → Prop
  | .int i, K => K (.int (-i))
  | _, _ => False
theorem ru_neg : RU1 (rU fun i => .int (-i)) sNeg := by
  intro Z H x dx Kd Q zd hx hs q
  cases hx with
  | int i => exact ⟨i, rfl, q _ H _ hs (fun _ _ e => e) (.int _)⟩
  | _ => exact hs.elim
/-! ### == -/
mutual
def PD.py : PD → PyData
  | .non => .none
  | .bl b => .bool b
  | .int i => .int i
  | .str s => .str s
  | .lst xs => .list (PD.pyAll xs)
  | .tup xs => .tuple (PD.pyAll xs)
  | _ => .none
def PD.pyAll : List PD → List PyData
  | [] => []
  | d :: ds => PD.py d :: PD.pyAll ds
end
mutual
def PD.plain : PD → Bool
  | .non | .bl _ | .int _ | .str _ => true
  | .lst xs => PD.plainAll xs
  | .tup xs => PD.plainAll xs
  | _ => false
def PD.plainAll : List PD → Bool
  | [] => true
  | d :: ds => PD.plain d && PD.plainAll ds
end
section
variable {Z : Addr → Prop} {H : Hp} {Kf : PySem.W.Frag} {p : Addr}
mutual
theorem Dat.dp : ∀ {v : V} {d : PD}, Dat Z H v d → d.plain = true → Dp Kf H v d.py
  | _, _, .non, _ => .non
  | _, _, .bl b, _ => .bl b
  | _, _, .int b, _ => .int b
  | _, _, .str b, _ => .str b
  | _, _, .lst e _ _ r, h => .lst (.inl (.inl e)) (DatAll.dp r h)
  | _, _, .tup e _ _ r, h => .tup (.inl (.inl e)) (DatAll.dp r h)
theorem DatAll.dp : ∀ {vs : List V} {ds : List PD}, DatAll Z H vs ds → PD.plainAll ds = true → DpAll Kf H vs (PD.pyAll ds)
  | _, _, .nil, _ => .nil
  | _, _, .cons h t, k => by
    have k' := Bool.and_eq_true_iff.mp k
    exact .cons (Dat.dp h k'.1) (DatAll.dp t k'.2)
end
mutual
theorem Dat.dq (n : H p = none) : ∀ {v : V} {d : PD}, Dat Z H v d → d.plain = true → Pf.Dq false p H v d.py
  | _, _, .non, _ => .non
  | _, _, .bl b, _ => .bl b
  | _, _, .int b, _ => .int b
  | _, _, .str b, _ => .str b
  | _, _, .lst e _ _ r, h => .lst e (ne_of_none e n) (fun z => by cases z) (DatAll.dq n r h)
  | _, _, .tup e _ _ r, h => .tup e (ne_of_none e n) (DatAll.dq n r h)
theorem DatAll.dq (n : H p = none) : ∀ {vs : List V} {ds : List PD}, DatAll Z H vs ds → PD.plainAll ds = true → Pf.DqAll false p H vs (PD.pyAll ds)
  | _, _, .nil, _ => .nil
  | _, _, .cons h t, k => by
    have k' := Bool.and_eq_true_iff.mp k
    exact .cons (Dat.dq n h k'.1) (DatAll.dq n t k'.2)
end
end
def okE (d : PD) : Bool := d.plain && SeqAt.shaped d.py
def sEq (a b : PD) (K : PD → Prop) : Prop := okE a = true ∧ okE b = true ∧ K (.bl (PyData.eqv a.py b.py))
def sNe (a b : PD) (K : PD → Prop) : Prop := okE a = true ∧ okE b = true ∧ K (.bl (!PyData.eqv a.py b.py))
theorem rd_eq {Kf : PySem.W.Frag} : RD (rEqD Kf) sEq := fun Z H x y dx dy Kd Q zd hx hy hs q => by
  obtain ⟨h1, h2, h3⟩ := hs
  have k1 := Bool.and_eq_true_iff.mp h1
  have k2 := Bool.and_eq_true_iff.mp h2
  exact ⟨_, _, hx.dp k1.1, hy.dp k2.1, k1.2, k2.2, q _ H _ h3 (fun _ _ e => e) (.bl _)⟩
theorem rd_ne {Kf : PySem.W.Frag} : RD (rNeD Kf) sNe := fun Z H x y dx dy Kd Q zd hx hy hs q => by
  obtain ⟨h1, h2, h3⟩ := hs
  have k1 := Bool.and_eq_true_iff.mp h1
  have k2 := Bool.and_eq_true_iff.mp h2
  exact ⟨_, _, hx.dp k1.1, hy.dp k2.1, k1.2, k2.2, q _ H _ h3 (fun _ _ e => e) (.bl _)⟩
/-! ### items, slices -/
def sIx : PD → PD → (PD → Prop) → Prop
  | .lst xs, .int i, K => ∃ x, atI xs i = some x ∧ K x
  | .tup xs, .int i, K => ∃ x, atI xs i = some x ∧ K x
  | .str z, .int i, K => z.length ≤ sizeLine ∧ ∃ c, atI z.cps.toList i = some c ∧ K (.str ⟨#[c]⟩)
  | _, _, _ => False
theorem DatAll.at {Z : Addr → Prop} {H : Hp} {vs : List V} {ds : List PD} {i : Int} {d : PD} (h : DatAll Z H vs ds) (e : atI ds i = some d) : ∃ v, atI vs i = some v ∧ Dat Z H v d := by
  unfold atI at e ⊢
  rw [h.len]
  cases ee : ixN ds.length i with
  | none => rw [ee] at e; cases e
  | some j =>
    rw [ee] at e
    exact h.put e
theorem rd_ix {Kf : PySem.W.Frag} : RD (rIx Kf) sIx := by
  intro Z H x y dx dy Kd Q zd hx hy hs q
  cases hx with
  | @lst a xs ds h1 h2 h3 h4 =>
    cases hy with
    | int i =>
      obtain ⟨d, e, k⟩ := hs
      obtain ⟨v, e2, hv⟩ := h4.at e
      exact .inl ⟨a, xs, i, v, rfl, rfl, .inl (.inl h1), e2, q v H d k (fun _ _ e => e) hv⟩
    | _ => exact hs.elim
  | @tup a xs ds h1 h2 h3 h4 =>
    cases hy with
    | int i =>
      obtain ⟨d, e, k⟩ := hs
      obtain ⟨v, e2, hv⟩ := h4.at e
      exact .inr (.inl ⟨a, xs, i, v, rfl, rfl, .inl (.inl h1), e2, q v H d k (fun _ _ e => e) hv⟩)
    | _ => exact hs.elim
  | str z =>
    cases hy with
    | int i =>
      obtain ⟨l, c, e, k⟩ := hs
      exact .inr (.inr ⟨z, i, c, rfl, rfl, l, e, q _ H _ k (fun _ _ e => e) (.str _)⟩)
    | _ => exact hs.elim
  | _ => exact hs.elim
def cutP (xs : List PD) (lo hi : Option Int) : List PD := (xs.drop (HT.sIx xs.length 0 lo)).take (HT.sIx xs.length xs.length hi - HT.sIx xs.length 0 lo)
theorem DatAll.cut {Z : Addr → Prop} {H : Hp} {vs : List V} {ds : List PD} (h : DatAll Z H vs ds) (lo hi : Option Int) : DatAll Z H (cutV vs lo hi) (cutP ds lo hi) := by
  unfold cutV cutP
  rw [h.len]
  exact (h.drop _).take _
theorem cutV_len {vs : List V} {lo hi : Option Int} : (cutV vs lo hi).length ≤ vs.length := by
  unfold cutV
  rw [List.length_take, List.length_drop]
  omega
def rSlAll (K : PySem.W.Frag) : V → Option Int → Option Int → Hp → VK → Prop := fun x lo hi H Q => rSlL K x lo hi H Q ∨ rSlA K x lo hi H Q
theorem sl_all : SlR X (rSlAll X.K) := SlR.alt sl_list sl_tupA
def sSl : PD → Option Int → Option Int → (PD → Prop) → Prop
  | .lst xs, lo, hi, K => K (.lst (cutP xs lo hi))
  | .tup xs, lo, hi, K => K (.tup (cutP xs lo hi))
  | _, _, _, _ => False
theorem rsl_all {Kf : PySem.W.Frag} : RSl (rSlAll Kf) sSl := by
  intro Z H x lo hi dx Kd Q zd hx hs q
  cases hx with
  | @lst a xs ds h1 h2 h3 h4 =>
    refine .inl ⟨a, xs, rfl, .inl (.inl h1), fun p hp => ?_⟩
    have s := new_same (o := HO.lst (cutV xs lo hi)) hp
    exact q _ _ _ hs s (.lst upd_same (fun z => zd p z hp) (Nat.le_trans cutV_len h3) ((h4.cut lo hi).same s))
  | @tup a xs ds h1 h2 h3 h4 =>
    refine .inr ⟨a, xs, rfl, .inl (.inl h1), fun e => ?_, fun _ p hp => ?_⟩
    · have eq : cutP ds lo hi = ds := by
        unfold cutP
        rw [← h4.len, e.1, e.2, List.drop_zero, Nat.sub_zero]
        exact List.take_of_length_le (by rw [h4.len]; exact Nat.le_refl _)
      have hs' : Kd (.tup (cutP ds lo hi)) := hs
      rw [eq] at hs'
      exact q _ H _ hs' (fun _ _ e => e) (.tup h1 h2 h3 h4)
    · have s := new_same (o := HO.tup (cutV xs lo hi)) hp
      exact q _ _ _ hs s (.tup upd_same (fun z => zd p z hp) (Nat.le_trans cutV_len h3) ((h4.cut lo hi).same s))
  | _ => exact hs.elim
end
end DL

set_option Elab.async false
set_option linter.all false
set_option maxRecDepth 100000
/-! What built-ins do, told by data alone; defs. -/
namespace DL
open PySem PySem.Spec PyProof.Rows L2
section
variable {X : Cx}
/-! ### len -/
def rLenA (K : PySem.W.Frag) : List V → Hp → VK → Prop := fun xs H Q => (∃ p ys, xs = [.ref p] ∧ (SqL K H p ys ∨ SqT K H p ys) ∧ Q (.int ys.length) H) ∨ (∃ z, xs = [.str z] ∧ z.length ≤ sizeLine ∧ Q (.int z.length) H) ∨ ∃ a kvs, xs = [V.ref a] ∧ H a = some (.dK kvs) ∧ Q (.int kvs.length) H
theorem call_lenA : CallR X (.builtin "len") (rLenA X.K) := CallR.alt call_len_seq (CallR.alt call_len_str call_lenD)
def sLen : List PD → (PD → Prop) → Prop
  | [.lst xs], K => K (.int xs.length)
  | [.tup xs], K => K (.int xs.length)
  | [.str z], K => z.length ≤ sizeLine ∧ K (.int z.length)
  | [.dic ks _], K => K (.int ks.length)
  | _, _ => False
theorem rb_len {Kf : PySem.W.Frag} : RB (rLenA Kf) sLen := by
  intro Z H xs ds Kd Q zd hx hs q
  cases hx with
  | nil => exact hs.elim
  | cons h t =>
    cases t with
    | nil =>
      cases h with
      | @lst a ys es h1 h2 h3 h4 =>
        refine .inl ⟨a, ys, rfl, .inl (.inl (.inl h1)), ?_⟩
        rw [h4.len]
        exact q _ H _ hs (fun _ _ e => e) (.int _)
      | @tup a ys es h1 h2 h3 h4 =>
        refine .inl ⟨a, ys, rfl, .inr (.inl (.inl h1)), ?_⟩
        rw [h4.len]
        exact q _ H _ hs (fun _ _ e => e) (.int _)
      | str z => exact .inr (.inl ⟨z, rfl, hs.1, q _ H _ hs.2 (fun _ _ e => e) (.int _)⟩)
      | @dic a kvs es h1 h2 h3 h4 =>
        refine .inr (.inr ⟨a, kvs, rfl, h1, ?_⟩)
        have hs' : Kd (.int (kvs.map (·.1)).length) := hs
        rw [List.length_map] at hs'
        exact q _ H _ hs' (fun _ _ e => e) (.int _)
      | _ => exact hs.elim
    | cons _ _ =>
      cases h <;> exact hs.elim
/-! ### of lists of numbers, of truths -/
def sSum (xs : List PD) (K : PD → Prop) : Prop := ∃ ns : List Int, xs = [.lst (ns.map .int)] ∧ K (.int ns.sum)
theorem lst1 {Z : Addr → Prop} {H : Hp} {xs : List V} {ds : List PD} (h : DatAll Z H xs [.lst ds]) : ∃ a ys, xs = [.ref a] ∧ H a = some (.lst ys) ∧ ¬ Z a ∧ ys.length ≤ sizeLine ∧ DatAll Z H ys ds := by
  cases h with
  | cons h t =>
    cases t
    cases h with
    | @lst a ys _ h1 h2 h3 h4 => exact ⟨a, ys, rfl, h1, h2, h3, h4⟩
theorem rb_sum {Kf : PySem.W.Frag} : RB (rSum Kf) sSum := by
  rintro Z H xs ds Kd Q zd hx ⟨ns, rfl, k⟩ q
  obtain ⟨a, ys, rfl, h1, h2, h3, h4⟩ := lst1 hx
  have e := h4.ints
  subst e
  exact ⟨a, ns, rfl, .inl (.inl h1), q _ H _ k (fun _ _ e => e) (.int _)⟩
def minI : List Int → Int
  | [] => 0
  | n :: r => r.foldl min n
def maxI : List Int → Int
  | [] => 0
  | n :: r => r.foldl max n
theorem foldl_min : ∀ (r : List Int) (n : Int), (r.foldl min n ∈ n :: r) ∧ ∀ y ∈ n :: r, r.foldl min n ≤ y
  | [], n => ⟨List.mem_cons_self, fun y m => by
    rw [List.mem_singleton] at m
    rw [m]
    exact Int.le_refl _⟩
  | k :: r, n => by
    obtain ⟨h1, h2⟩ := foldl_min r (min n k)
    refine ⟨?_, fun y m => ?_⟩
    · rcases List.mem_cons.mp h1 with e | e
      · show r.foldl min (min n k) ∈ _
        rw [e]
        rcases Int.le_total n k with l | l
        · rw [Int.min_eq_left l]
          exact List.mem_cons_self
        · rw [Int.min_eq_right l]
          exact List.mem_cons_of_mem _ List.mem_cons_self
      · exact List.mem_cons_of_mem _ (List.mem_cons_of_mem _ e)
    · have h3 := h2 (min n k) List.mem_cons_self
      show r.foldl min (min n k) ≤ y
      rcases List.mem_cons.mp m with e | e
      · omega
      · rcases List.mem_cons.mp e with e | e
        · omega
        · exact h2 y (List.mem_cons_of_mem _ e)
theorem foldl_max : ∀ (r : List Int) (n : Int), (r.foldl max n ∈ n :: r) ∧ ∀ y ∈ n :: r, y ≤ r.foldl max n
  | [], n => ⟨List.mem_cons_self, fun y m => by
    rw [List.mem_singleton] at m
    rw [m]
    exact Int.le_refl _⟩
  | k :: r, n => by
    obtain ⟨h1, h2⟩ := foldl_max r (max n k)
    refine ⟨?_, fun y m => ?_⟩
    · rcases List.mem_cons.mp h1 with e | e
      · show r.foldl max (max n k) ∈ _
        rw [e]
        rcases Int.le_total n k with l | l
        · rw [Int.max_eq_right l]
          exact List.mem_cons_of_mem _ List.mem_cons_self
        · rw [Int.max_eq_left l]
          exact List.mem_cons_self
      · exact List.mem_cons_of_mem _ (List.mem_cons_of_mem _ e)
    · have h3 := h2 (max n k) List.mem_cons_self
      show y ≤ r.foldl max (max n k)
      rcases List.mem_cons.mp m with e | e
      · omega
      · rcases List.mem_cons.mp e with e | e
        · omega
        · exact h2 y (List.mem_cons_of_mem _ e)
theorem minI_spec {ns : List Int} (h : ns ≠ []) : minI ns ∈ ns ∧ ∀ y ∈ ns, minI ns ≤ y := by
  cases ns with
  | nil => exact absurd rfl h
  | cons n r => exact foldl_min r n
theorem maxI_spec {ns : List Int} (h : ns ≠ []) : maxI ns ∈ ns ∧ ∀ y ∈ ns, y ≤ maxI ns := by
  cases ns with
  | nil => exact absurd rfl h
  | cons n r => exact foldl_max r n
def sMin (xs : List PD) (K : PD → Prop) : Prop := ∃ ns : List Int, xs = [.lst (ns.map .int)] ∧ ns ≠ [] ∧ K (.int (minI ns))
def sMax (xs : List PD) (K : PD → Prop) : Prop := ∃ ns : List Int, xs = [.lst (ns.map .int)] ∧ ns ≠ [] ∧ K (.int (maxI ns))
theorem rb_min {Kf : PySem.W.Frag} : RB (rMin Kf) sMin := by
  rintro Z H xs ds Kd Q zd hx ⟨ns, rfl, ne, k⟩ q
  obtain ⟨a, ys, rfl, h1, h2, h3, h4⟩ := lst1 hx
  have e := h4.ints
  subst e
  refine ⟨a, ns, rfl, .inl (.inl h1), List.length_pos_iff.mpr ne, fun m hm hl => ?_⟩
  obtain ⟨g1, g2⟩ := minI_spec ne
  have e : m = minI ns := Int.le_antisymm (hl _ g1) (g2 _ hm)
  subst e
  exact q _ H _ k (fun _ _ e => e) (.int _)
theorem rb_max {Kf : PySem.W.Frag} : RB (rMax Kf) sMax := by
  rintro Z H xs ds Kd Q zd hx ⟨ns, rfl, ne, k⟩ q
  obtain ⟨a, ys, rfl, h1, h2, h3, h4⟩ := lst1 hx
  have e := h4.ints
  subst e
  refine ⟨a, ns, rfl, .inl (.inl h1), List.length_pos_iff.mpr ne, fun m hm hl => ?_⟩
  obtain ⟨g1, g2⟩ := maxI_spec ne
  have e : m = maxI ns := Int.le_antisymm (g2 _ hm) (hl _ g1)
  subst e
  exact q _ H _ k (fun _ _ e => e) (.int _)
/-- two numbers -/
def s2 (g : Int → Int → Int) : List PD → (PD → Prop) → Prop
  | [.int i, .int j], K => K (.int (g i j))
  | _, _ => False
theorem rb_2 {g : Int → Int → Int} : RB (fun xs H Q => ∃ i j, xs = [.int i, .int j] ∧ Q (.int (g i j)) H) (s2 g) := by
  intro Z H xs ds Kd Q zd hx hs q
  cases hx with
  | nil => exact hs.elim
  | cons h t =>
    cases t with
    | nil => cases h <;> exact hs.elim
    | cons h2 t2 =>
      cases t2 with
      | nil =>
        cases h with
        | int i =>
          cases h2 with
          | int j => exact ⟨i, j, rfl, q _ H _ hs (fun _ _ e => e) (.int _)⟩
          | _ => exact hs.elim
        | _ => exact hs.elim
      | cons _ _ => cases h <;> first | exact hs.elim | (cases h2 <;> exact hs.elim)
def s1I (g : Int → PD) : List PD → (PD → Prop) → Prop
  | [.int i], K => K (g i)
  | _, _ => False
theorem rb_1 {g : Int → Int} : RB (fun xs H Q => ∃ i, xs = [.int i] ∧ Q (.int (g i)) H) (s1I fun i => .int (g i)) := by
  intro Z H xs ds Kd Q zd hx hs q
  cases hx with
  | nil => exact hs.elim
  | cons h t =>
    cases t with
    | nil =>
      cases h with
      | int i => exact ⟨i, rfl, q _ H _ hs (fun _ _ e => e) (.int _)⟩
      | _ => exact hs.elim
    | cons _ _ => cases h <;> exact hs.elim
/-- int(..) -/
def sInt : List PD → (PD → Prop) → Prop
  | [.int i], K => K (.int i)
  | [.bl b], K => K (.int (if b then 1 else 0))
  | _, _ => False
theorem rb_int : RB (fun xs H Q => (∃ i, xs = [.int i] ∧ Q (.int i) H) ∨ ∃ k, xs = [.bl k] ∧ Q (.int (if k then 1 else 0)) H) sInt := by
  intro Z H xs ds Kd Q zd hx hs q
  cases hx with
  | nil => exact hs.elim
  | cons h t =>
    cases t with
    | nil =>
      cases h with
      | int i => exact .inl ⟨i, rfl, q _ H _ hs (fun _ _ e => e) (.int _)⟩
      | bl i => exact .inr ⟨i, rfl, q _ H _ hs (fun _ _ e => e) (.int _)⟩
      | _ => exact hs.elim
    | cons _ _ => cases h <;> exact hs.elim
def sAll (xs : List PD) (K : PD → Prop) : Prop := ∃ bs : List Bool, xs = [.lst (bs.map .bl)] ∧ K (.bl (bs.all id))
def sAny (xs : List PD) (K : PD → Prop) : Prop := ∃ bs : List Bool, xs = [.lst (bs.map .bl)] ∧ K (.bl (bs.any id))
theorem rb_all {Kf : PySem.W.Frag} : RB (rAll Kf) sAll := by
  rintro Z H xs ds Kd Q zd hx ⟨ns, rfl, k⟩ q
  obtain ⟨a, ys, rfl, h1, h2, h3, h4⟩ := lst1 hx
  have e := h4.bools
  subst e
  exact ⟨a, ns, rfl, .inl (.inl h1), q _ H _ k (fun _ _ e => e) (.bl _)⟩
theorem rb_any {Kf : PySem.W.Frag} : RB (rAny Kf) sAny := by
  rintro Z H xs ds Kd Q zd hx ⟨ns, rfl, k⟩ q
  obtain ⟨a, ys, rfl, h1, h2, h3, h4⟩ := lst1 hx
  have e := h4.bools
  subst e
  exact ⟨a, ns, rfl, .inl (.inl h1), q _ H _ k (fun _ _ e => e) (.bl _)⟩
/-! ### list(..), tuple(..) -/
def sTup : List PD → (PD → Prop) → Prop
  | [.lst xs], K => K (.tup xs)
  | [.tup xs], K => K (.tup xs)
  | _, _ => False
theorem rb_tup {Kf : PySem.W.Frag} : RB (fun xs H Q => ∃ p ys, xs = [.ref p] ∧ ((SqL Kf H p ys ∧ ∀ l, H l = none → Q (.ref l) (upd H l (.tup ys))) ∨ (SqT Kf H p ys ∧ Q (.ref p) H))) sTup := by
  intro Z H xs ds Kd Q zd hx hs q
  cases hx with
  | nil => exact hs.elim
  | cons h t =>
    cases t with
    | nil =>
      cases h with
      | @lst a ys es h1 h2 h3 h4 =>
        refine ⟨a, ys, rfl, .inl ⟨.inl (.inl h1), fun l hl => ?_⟩⟩
        have s := new_same (o := HO.tup ys) hl
        exact q _ _ _ hs s (.tup upd_same (fun z => zd l z hl) h3 (h4.same s))
      | @tup a ys es h1 h2 h3 h4 => exact ⟨a, ys, rfl, .inr ⟨.inl (.inl h1), q _ H _ hs (fun _ _ e => e) (.tup h1 h2 h3 h4)⟩⟩
      | _ => exact hs.elim
    | cons _ _ => cases h <;> exact hs.elim
def sList : List PD → (List PD → Prop) → Prop
  | [.lst xs], K => K xs
  | [.tup xs], K => K xs
  | _, _ => False
theorem upd_none {H : Hp} {l b : Addr} {o : HO} (e : upd H l o b = none) : H b = none := by
  by_cases w : b = l
  · rw [w, upd_same] at e
    cases e
  · rw [upd_ne w] at e
    exact e
theorem rbo_list {Kf : PySem.W.Frag} : RBO (fun xs H Q => ∃ p ys, xs = [.ref p] ∧ (SqL Kf H p ys ∨ SqT Kf H p ys) ∧ ∀ l, H l = none → Q (.ref l) (upd H l (.lst ys))) sList := by
  intro Z H xs ds Kd Q zd hx hs q
  cases hx with
  | nil => exact hs.elim
  | cons h t =>
    cases t with
    | nil =>
      cases h with
      | @lst a ys es h1 h2 h3 h4 =>
        refine ⟨a, ys, rfl, .inl (.inl (.inl h1)), fun l hl => ?_⟩
        have s := new_same (o := HO.lst ys) hl
        exact q l ys _ _ hs hl s (fun _ => upd_none) upd_same h3 ((h4.add hl).same s)
      | @tup a ys es h1 h2 h3 h4 =>
        refine ⟨a, ys, rfl, .inr (.inl (.inl h1)), fun l hl => ?_⟩
        have s := new_same (o := HO.lst ys) hl
        exact q l ys _ _ hs hl s (fun _ => upd_none) upd_same h3 ((h4.add hl).same s)
      | _ => exact hs.elim
    | cons _ _ => cases h <;> exact hs.elim
/-! ### sorted(..) of numbers -/
def sortI (ns : List Int) : List Int := ns.mergeSort (fun a b => decide (a ≤ b))
theorem sortI_perm (ns : List Int) : (sortI ns).Perm ns := List.mergeSort_perm ns _
theorem sortI_asc (ns : List Int) : (sortI ns).Pairwise (· ≤ ·) := by
  have h := List.pairwise_mergeSort (le := fun (a b : Int) => decide (a ≤ b)) (fun a b c h1 h2 => decide_eq_true (Int.le_trans (of_decide_eq_true h1) (of_decide_eq_true h2))) (fun a b => by
    rcases Int.le_total a b with l | l
    · rw [decide_eq_true l]
      rfl
    · rw [decide_eq_true l, Bool.or_true]) ns
  exact h.imp of_decide_eq_true
theorem asc_one : ∀ {a b : List Int}, a.Perm b → a.Pairwise (· ≤ ·) → b.Pairwise (· ≤ ·) → a = b
  | [], b, p, _, _ => (List.nil_perm.mp p).symm
  | x :: r, [], p, _, _ => absurd p.length_eq (by simp)
  | x :: r, y :: s, p, h1, h2 => by
    have e : x = y := by
      have m1 : x ∈ y :: s := p.subset List.mem_cons_self
      have m2 : y ∈ x :: r := p.symm.subset List.mem_cons_self
      have l1 : y ≤ x := by
        rcases List.mem_cons.mp m1 with e | e
        · omega
        · exact (List.pairwise_cons.mp h2).1 x e
      have l2 : x ≤ y := by
        rcases List.mem_cons.mp m2 with e | e
        · omega
        · exact (List.pairwise_cons.mp h1).1 y e
      exact Int.le_antisymm l2 l1
    subst e
    rw [asc_one (List.perm_cons x |>.mp p) (List.pairwise_cons.mp h1).2 (List.pairwise_cons.mp h2).2]
def sSortI (xs : List PD) (K : List PD → Prop) : Prop := ∃ ns : List Int, xs = [.lst (ns.map .int)] ∧ ns.length ≤ sizeLine ∧ K ((sortI ns).map .int)
theorem rbo_sortI {Kf : PySem.W.Frag} : RBO (rSortedI Kf) sSortI := by
  rintro Z H xs ds Kd Q zd hx ⟨ns, rfl, lz, k⟩ q
  obtain ⟨a, ys, rfl, h1, h2, h3, h4⟩ := lst1 hx
  have e := h4.ints
  subst e
  refine ⟨a, ns, rfl, .inl (.inl h1), fun ns' p hp hs hf => ?_⟩
  have e : ns' = sortI ns := asc_one (hp.trans (sortI_perm ns).symm) hs (sortI_asc ns)
  subst e
  exact q p _ _ _ k hf (new_same hf) (fun _ => upd_none) upd_same (by rw [List.length_map, (sortI_perm ns).length_eq]; exact lz) .ofInts
/-! ### isinstance -/
def PD.isInt : PD → Bool
  | .int _ | .bl _ => true
  | _ => false
def PD.isBool : PD → Bool
  | .bl _ => true
  | _ => false
def PD.isTup : PD → Bool
  | .tup _ => true
  | _ => false
def PD.isStr : PD → Bool
  | .str _ => true
  | _ => false
def PD.base : PD → Bool
  | .ins .. | .ty _ => false
  | _ => true
theorem Dat.tyX {Z : Addr → Prop} {H : Hp} {Kf : PySem.W.Frag} {v : V} {d : PD} (h : Dat Z H v d) (b : d.base = true) : ∃ t, TyX Kf H v (.type t) ∧ kitB t "int" = some d.isInt ∧ kitB t "bool" = some d.isBool ∧ kitB t "tuple" = some d.isTup ∧ kitB t "str" = some d.isStr := by
  cases h with
  | non => exact ⟨"NoneType", .base .non, by decide +kernel, by decide +kernel, by decide +kernel, by decide +kernel⟩
  | bl x => exact ⟨"bool", .base (.bl x), by show kitB "bool" "int" = some true; decide +kernel, by show kitB "bool" "bool" = some true; decide +kernel, by show kitB "bool" "tuple" = some false; decide +kernel, by show kitB "bool" "str" = some false; decide +kernel⟩
  | int x => exact ⟨"int", .base (.int x), by show kitB "int" "int" = some true; decide +kernel, by show kitB "int" "bool" = some false; decide +kernel, by show kitB "int" "tuple" = some false; decide +kernel, by show kitB "int" "str" = some false; decide +kernel⟩
  | str x => exact ⟨"str", .base (.str x), by show kitB "str" "int" = some false; decide +kernel, by show kitB "str" "bool" = some false; decide +kernel, by show kitB "str" "tuple" = some false; decide +kernel, by show kitB "str" "str" = some true; decide +kernel⟩
  | ty x => cases b
  | lst g _ _ _ => exact ⟨"list", .base (.lst g), by show kitB "list" "int" = some false; decide +kernel, by show kitB "list" "bool" = some false; decide +kernel, by show kitB "list" "tuple" = some false; decide +kernel, by show kitB "list" "str" = some false; decide +kernel⟩
  | tup g _ _ _ => exact ⟨"tuple", .base (.tup g), by show kitB "tuple" "int" = some false; decide +kernel, by show kitB "tuple" "bool" = some false; decide +kernel, by show kitB "tuple" "tuple" = some true; decide +kernel, by show kitB "tuple" "str" = some false; decide +kernel⟩
  | ins => cases b
  | dic g _ _ _ => exact ⟨"dict", .base (.dK g), by show kitB "dict" "int" = some false; decide +kernel, by show kitB "dict" "bool" = some false; decide +kernel, by show kitB "dict" "tuple" = some false; decide +kernel, by show kitB "dict" "str" = some false; decide +kernel⟩
/-- what isinstance(x, T) asks and tells -/
def rIsT (T : String) (Kf : PySem.W.Frag) : List V → Hp → VK → Prop := fun xs H Q => ∃ v t b, xs = [v, .ty T] ∧ TyX Kf H v (.type t) ∧ kitB t T = some b ∧ Q (.bl b) H
theorem call_isT {T : String} : CallR X (.builtin "isinstance") (rIsT T X.K) := by
  intro pins s σ H xs us Q I r h
  obtain ⟨v, t, b, e, ty, k, q⟩ := h
  exact call_isi pins s σ H xs us Q I r ⟨v, _, _, _, _, e, .ty _, ty, kit_ty k, q⟩
def sIsI : List PD → (PD → Prop) → Prop
  | [d, .ty t], K => t = "int" ∧ d.base = true ∧ K (.bl d.isInt)
  | _, _ => False
theorem rb_isI {Kf : PySem.W.Frag} : RB (rIsT "int" Kf) sIsI := by
  intro Z H xs ds Kd Q zd hx hs q
  match ds, hs with
  | [d, .ty t], ⟨e, b, k⟩ =>
    subst e
    cases hx with
    | @cons v _ _ _ h1 h2 =>
      cases h2 with
      | cons h3 h4 =>
        cases h3
        cases h4
        obtain ⟨ty, hty, k1, k2, k3, k4⟩ := h1.tyX (Kf := Kf) b
        exact ⟨v, ty, _, rfl, hty, k1, q _ H _ k (fun _ _ e => e) (.bl _)⟩
def sIsB : List PD → (PD → Prop) → Prop
  | [d, .ty t], K => t = "bool" ∧ d.base = true ∧ K (.bl d.isBool)
  | _, _ => False
theorem rb_isB {Kf : PySem.W.Frag} : RB (rIsT "bool" Kf) sIsB := by
  intro Z H xs ds Kd Q zd hx hs q
  match ds, hs with
  | [d, .ty t], ⟨e, b, k⟩ =>
    subst e
    cases hx with
    | @cons v _ _ _ h1 h2 =>
      cases h2 with
      | cons h3 h4 =>
        cases h3
        cases h4
        obtain ⟨ty, hty, k1, k2, k3, k4⟩ := h1.tyX (Kf := Kf) b
        exact ⟨v, ty, _, rfl, hty, k2, q _ H _ k (fun _ _ e => e) (.bl _)⟩
def sIsT : List PD → (PD → Prop) → Prop
  | [d, .ty t], K => t = "tuple" ∧ d.base = true ∧ K (.bl d.isTup)
  | _, _ => False
theorem rb_isT {Kf : PySem.W.Frag} : RB (rIsT "tuple" Kf) sIsT := by
  intro Z H xs ds Kd Q zd hx hs q
  match ds, hs with
  | [d, .ty t], ⟨e, b, k⟩ =>
    subst e
    cases hx with
    | @cons v _ _ _ h1 h2 =>
      cases h2 with
      | cons h3 h4 =>
        cases h3
        cases h4
        obtain ⟨ty, hty, k1, k2, k3, k4⟩ := h1.tyX (Kf := Kf) b
        exact ⟨v, ty, _, rfl, hty, k3, q _ H _ k (fun _ _ e => e) (.bl _)⟩
def sIsS : List PD → (PD → Prop) → Prop
  | [d, .ty t], K => t = "str" ∧ d.base = true ∧ K (.bl d.isStr)
  | _, _ => False
theorem rb_isS {Kf : PySem.W.Frag} : RB (rIsT "str" Kf) sIsS := by
  intro Z H xs ds Kd Q zd hx hs q
  match ds, hs with
  | [d, .ty t], ⟨e, b, k⟩ =>
    subst e
    cases hx with
    | @cons v _ _ _ h1 h2 =>
      cases h2 with
      | cons h3 h4 =>
        cases h3
        cases h4
        obtain ⟨ty, hty, k1, k2, k3, k4⟩ := h1.tyX (Kf := Kf) b
        exact ⟨v, ty, _, rfl, hty, k4, q _ H _ k (fun _ _ e => e) (.bl _)⟩
end
end DL

set_option Elab.async false
set_option linter.all false
set_option maxRecDepth 100000
/-! Defs by data; repr. -/
namespace DL
open PySem PySem.Spec PyProof.Rows L2
section
variable {te : TE} {tl : TA} {n : Nat} {δ : List SD} {K : Nat → PD → Prop}
/-- draws were made -/
theorem Rep.drew {B : Bs} {n n' m : Nat} {σ : L2.St} {H H' : Hp} {A : Nat → Addr} (R : Rep B n σ H δ A) (k : ∀ b o, b ≠ B.p → H b = some o → H' b = some o) (hp : Pot H' B.p m) (l : m + n' ≤ B.M) (ln : n' < n) : Rep B n' σ H' δ A := by
  have g : 0 < B.n0 := by have := R.le; omega
  have zp := (R.bud g).1
  have go : ∀ b o, H b = some o → ¬ Zs B.Z δ A b → H' b = some o ∧ ¬ Zs B.Z δ A b := fun b o e z => ⟨k b o (fun w => z (.inl (by rw [w]; exact zp))) e, z⟩
  refine ⟨R.len, fun i d h => let ⟨v, a, b⟩ := R.dat i d h; ⟨v, a, b.go go⟩, fun i ds h => ?_, R.inj, R.pot, fun b z => ?_, fun b o e w => ?_, fun _ => ⟨zp, m, hp, l⟩, by have := R.le; omega, R.few⟩
  · obtain ⟨a, b, c, xs, h1, h2, h3⟩ := R.own i ds h
    exact ⟨a, b, c, xs, k _ _ (fun w => b (by rw [w]; exact zp)) h1, h2, h3.go go⟩
  · by_cases w : b = B.p
    · rw [w]
      obtain ⟨_, _, _, e, _⟩ := hp
      exact ⟨_, e, fun _ z => by cases z⟩
    · exact (R.dom b z).same fun o e => k b o w e
  · have := R.le
    rcases w with w | w
    · exact k b o w (R.base b o e (.inl w))
    · omega
/-- a def that draws is called: the pot stands in slot i -/
theorem dw_callN {α : Type} {cost i : Nat} {args : α → List PD} {pre : α → Prop} {post : α → PD → Prop} (hi : δ[i]? = some SD.pot) (h : DA tl n δ fun n1 ds => ∃ x, ds = args x ∧ pre x ∧ 0 < cost ∧ cost ≤ n1 ∧ ∀ d, post x d → K (n1 - cost) d) :
    DW (Pf.tC1 (SpN cost args pre post) (tCons (tVar i) tl)) n δ K := fun B σ H A R Q q => ⟨_, R.pot i hi, h B σ H A R _ fun vs H1 n1 ds ⟨x, e, p, c0, cl, k⟩ R1 c1 d1 => by
  subst e
  have g : 0 < B.n0 := by have := R1.le; omega
  obtain ⟨zp, m, hm, lm⟩ := R1.bud g
  have few := R1.few
  refine ⟨Zs B.Z δ A, B.p, vs, m, x, rfl, .inl zp, fun _ => R1.zmu, hm, by omega, d1, p, fun v H2 d hd kp hp2 dv => ?_⟩
  refine q v H2 (n1 - cost) d (k d hd) (R1.drew kp hp2 (by omega) (by omega)) (c1.trans ⟨by omega, fun b o e w => ?_⟩) dv
  rcases w with w | w
  · exact kp b o w e
  · omega⟩
end
section
variable {base : Heap} {P : Program} {w : World} {mg : Str → Option Value} {K : PySem.W.Frag}
theorem start_get {N : List Str} {vs : List V} {i : Nat} {v : V} (h : vs[i]? = some v) : (L2.start N vs)[i]? = some (some v) := by
  unfold L2.start
  rw [List.getElem?_append_left (by rw [List.length_map]; exact (List.getElem?_eq_some_iff.mp h).1), List.getElem?_map, h]
  rfl
theorem dats_get {ds : List PD} {k i : Nat} {a : SD} (h : (ds.map SD.dat ++ List.replicate k SD.un)[i]? = some a) : a = .un ∨ ∃ d, ds[i]? = some d ∧ a = .dat d := by
  by_cases l : i < ds.length
  · rw [List.getElem?_append_left (by rw [List.length_map]; exact l), List.getElem?_map] at h
    cases e : ds[i]? with
    | none => rw [e] at h; cases h
    | some d =>
      rw [e] at h
      exact .inr ⟨d, rfl, (Option.some.inj h).symm⟩
  · rw [List.getElem?_append_right (by rw [List.length_map]; omega), List.getElem?_replicate] at h
    split at h
    · exact .inl (Option.some.inj h).symm
    · cases h
/-- a pure def by its body -/
theorem okP {α : Type} {x qual : Str} {st : Stmt} {f : Addr} {fd : FuncData} {N ps : List Str} {k : Nat} {args : α → List PD} {pre : α → Prop} {res : α → PD} (F : Fun K x qual st f fd) (S : FnScope N ps (defScope st)) (hlen : ∀ a, (args a).length = ps.length) (hN : ps.length ≤ N.length)
    (bd : ∀ (cdv : Value) (A : Around) (outer : List Env) (s : Shared) (H : Hp) (E : XK), (A.deeper (envOfC qual (defScope st) s.heap.objs.size f cdv)).guards = some [] ∧ Room k (A.deeper (envOfC qual (defScope st) s.heap.objs.size f cdv)) →
      ∃ t, PSs (cxOf CX0 P w K mg base N qual (defScope st) f cdv A outer s H E).nox (defBody st) t ∧ ∀ a, pre a → DS t 0 ((args a).map SD.dat ++ List.replicate (N.length - ps.length) SD.un) { nx := fun _ _ => res a = .non, rt := fun _ d => d = res a }) : Pf.FnG P w K mg base (k + 1) f fd ps (SpT args pre res) := by
  refine Pf.okG F S (fun vs H Q E h => ?_) (fun cdv A outer s H vs Q E hg hr h => ?_)
  · obtain ⟨Z, a, _, hd, _⟩ := h
    exact hd.len.trans (hlen a)
  · obtain ⟨Z, a, zd, hd, hp, q⟩ := h
    obtain ⟨t, der, rd⟩ := bd cdv A outer s H E ⟨hg, hr⟩
    refine ⟨t, der, ?_⟩
    have vl : vs.length = ps.length := hd.len.trans (hlen a)
    have no : ∀ (i : Nat) (ds : List PD), ((args a).map SD.dat ++ List.replicate (N.length - ps.length) SD.un)[i]? ≠ some (SD.own ds) := fun i ds e => by
      rcases dats_get e with z | ⟨_, _, z⟩ <;> cases z
    have R : Rep ⟨Z, 0, H, 0, 0⟩ 0 (L2.start N vs) H ((args a).map SD.dat ++ List.replicate (N.length - ps.length) SD.un) (fun _ => 0) := by
      refine ⟨?_, fun i d e => ?_, fun i ds e => absurd e (no i ds), fun i j ds es e => absurd e (no i ds), fun i e => ?_, zd, fun _ _ e _ => e, fun g => absurd g (Nat.lt_irrefl _), Nat.le_refl _, (by decide : (0 : Nat) < 1000000)⟩
      · unfold L2.start
        simp [hlen a, vl]
      · rcases dats_get e with z | ⟨d', e1, z⟩
        · cases z
        · cases z
          obtain ⟨v, e2, hv⟩ := hd.put e1
          exact ⟨v, start_get e2, hv.anti fun b z => z.elim id fun ⟨i, ds, y, _⟩ => absurd y (no i ds)⟩
      · rcases dats_get e with z | ⟨_, _, z⟩ <;> cases z
    refine rd a hp _ _ _ _ R _ (fun σ' H' A' n' δ' e R' m => ?_) (fun v H' n' d e r => ?_) (fun _ _ _ _ _ e => e.elim) fun _ _ _ _ _ e => e.elim
    · refine q .non H' (fun b o x => R'.base b o x (.inr (by have := R'.le; exact Nat.le_zero.mp this))) ?_
      rw [show res a = .non from e]
      exact .non
    · have e' : d = res a := e
      subst e'
      exact q v H' (fun b o x => r.base b o x (.inr (Nat.le_zero.mp r.le))) r.dat
/-- a def that draws, by its body -/
theorem okN {α : Type} {x qual : Str} {st : Stmt} {f : Addr} {fd : FuncData} {N ps : List Str} {k cost : Nat} {args : α → List PD} {pre : α → Prop} {post : α → PD → Prop} (F : Fun K x qual st f fd) (S : FnScope N ps (defScope st)) (hlen : ∀ a, (args a).length + 1 = ps.length) (hN : ps.length ≤ N.length) (hc : 0 < cost)
    (bd : ∀ (cdv : Value) (A : Around) (outer : List Env) (s : Shared) (H : Hp) (E : XK), (A.deeper (envOfC qual (defScope st) s.heap.objs.size f cdv)).guards = some [] ∧ Room k (A.deeper (envOfC qual (defScope st) s.heap.objs.size f cdv)) →
      ∃ t, PSs (cxOf CX0 P w K mg base N qual (defScope st) f cdv A outer s H E).nox (defBody st) t ∧ ∀ a, pre a → DS t cost (SD.pot :: ((args a).map SD.dat ++ List.replicate (N.length - ps.length) SD.un)) { nx := fun _ _ => post a .non, rt := fun _ d => post a d }) : Pf.FnG P w K mg base (k + 1) f fd ps (SpN cost args pre post) := by
  refine Pf.okG F S (fun vs H Q E h => ?_) (fun cdv A outer s H vs Q E hg hr h => ?_)
  · obtain ⟨Z, p, us, m, a, rfl, _, _, _, _, hd, _⟩ := h
    rw [List.length_cons, hd.len]
    exact hlen a
  · obtain ⟨Z, p, us, m, a, rfl, zp, zd, hpot, lm, hd, hp, q⟩ := h
    obtain ⟨t, der, rd⟩ := bd cdv A outer s H E ⟨hg, hr⟩
    refine ⟨t, der, ?_⟩
    have vl : us.length + 1 = ps.length := by rw [hd.len]; exact hlen a
    have no : ∀ (i : Nat) (ds : List PD), (SD.pot :: ((args a).map SD.dat ++ List.replicate (N.length - ps.length) SD.un))[i]? ≠ some (SD.own ds) := fun i ds e => by
      cases i with
      | zero => cases e
      | succ i =>
        rcases dats_get (i := i) e with z | ⟨_, _, z⟩ <;> cases z
    have R : Rep ⟨Z, p, H, cost, m + cost⟩ cost (L2.start N (.ref p :: us)) H (SD.pot :: ((args a).map SD.dat ++ List.replicate (N.length - ps.length) SD.un)) (fun _ => 0) := by
      refine ⟨?_, fun i d e => ?_, fun i ds e => absurd e (no i ds), fun i j ds es e => absurd e (no i ds), fun i e => ?_, zd, fun _ _ e _ => e, fun g => ⟨zp, m, hpot, Nat.le_refl _⟩, Nat.le_refl _, lm⟩
      · unfold L2.start
        have := hlen a
        have := hd.len
        simp
        omega
      · cases i with
        | zero => cases e
        | succ i =>
          rcases dats_get (i := i) e with z | ⟨d', e1, z⟩
          · cases z
          · cases z
            obtain ⟨v, e2, hv⟩ := hd.put e1
            exact ⟨v, start_get (vs := .ref p :: us) (i := i + 1) e2, hv.anti fun b z => z.elim id fun ⟨i, ds, y, _⟩ => absurd y (no i ds)⟩
      · cases i with
        | zero => exact start_get (vs := .ref p :: us) (i := 0) rfl
        | succ i =>
          rcases dats_get (i := i) e with z | ⟨_, _, z⟩ <;> cases z
    have fin : ∀ (v : V) (d : PD) (H' : Hp) (n' : Nat), Dat Z H' v d → (∀ b o, H b = some o → (b ≠ p ∨ n' = cost) → H' b = some o) → (∃ m', Pot H' p m' ∧ m' + n' ≤ m + cost) → post a d → Q v H' := fun v d H' n' dv bs ⟨m', h1, h2⟩ pp =>
      q v H' d pp (fun b o w e => bs b o e (.inl w)) (h1.up (by omega)) dv
    refine rd a hp _ _ _ _ R _ (fun σ' H' A' n' δ' e R' m => ?_) (fun v H' n' d e r => ?_) (fun _ _ _ _ _ e => e.elim) fun _ _ _ _ _ e => e.elim
    · exact fin .non .non H' n' .non R'.base (R'.bud hc).2 e
    · exact fin v d H' n' r.dat r.base (r.bud hc) e
end
/-! ### repr -/
section
variable {X : Cx} {k : Nat}
def rRepr : List V → Hp → VK → Prop := fun xs H Q => ∃ v d, xs = [v] ∧ (∀ p, H p = none → Pf.Dq false p H v d) ∧ Pf.Fits d ∧ Q (.str d.shown) H
theorem call_reprP (hr : X.A.guards = some [] ∧ Room k X.A) : CallR X (.builtin "repr") rRepr := fun pins s σ H xs us Q I r ⟨v, d, e, h, f, q⟩ =>
  Pf.call_reprV hr pins s σ H xs us Q I r ⟨v, d, false, _, e, h _ (I.hok.fresh (Nat.le_refl _)), f, q⟩
def sRepr : List PD → (PD → Prop) → Prop
  | [d], K => d.plain = true ∧ Pf.Fits d.py ∧ K (.str d.py.shown)
  | _, _ => False
theorem rb_repr : RB rRepr sRepr := by
  intro Z H xs ds Kd Q zd hx hs q
  match ds, hs with
  | [d], ⟨p, f, k⟩ =>
    cases hx with
    | @cons v _ _ _ h t =>
      cases t
      exact ⟨v, d.py, rfl, fun p n => h.dq n (by assumption), f, q _ H _ k (fun _ _ e => e) (.str _)⟩
end
end DL

set_option Elab.async false
set_option linter.all false
set_option maxRecDepth 100000
set_option maxHeartbeats 2000000
/-! zip of any number of lists and tuples. -/
namespace ZK
open PySem
open PySem.Sem (wp)
/-- one of the things that are walked: a list or a tuple at l, its iterator at it -/
structure Src where
  b : Bool
  it : Addr
  l : Addr
  xs : Array Value
def ItAt (h : Heap) (c : Src) (n : Nat) : Prop := if c.b = true then h.IsListIter c.it c.l n else h.IsTupleIter c.it c.l n
def SqAt (h : Heap) (c : Src) : Prop := if c.b = true then h.IsList c.l c.xs else h.IsTuple c.l c.xs
theorem ItAt.at {h h' : Heap} {c : Src} {n : Nat} (x : ItAt h c n) (e : ∀ o, h.get? c.it = some o → h'.get? c.it = some o) : ItAt h' c n := by
  unfold ItAt at x ⊢
  by_cases b : c.b = true
  · rw [if_pos b] at x ⊢
    exact x.at e
  · rw [if_neg b] at x ⊢
    exact x.at e
theorem ItAt.lt {h : Heap} {c : Src} {n : Nat} (x : ItAt h c n) : ∃ o, h.get? c.it = some o ∧ ∀ v, o.data ≠ .cell v := by
  unfold ItAt at x
  split at x
  · obtain ⟨o, e, _, d⟩ := x
    exact ⟨o, e, fun v q => by rw [d] at q; cases q⟩
  · obtain ⟨o, e, _, d⟩ := x
    exact ⟨o, e, fun v q => by rw [d] at q; cases q⟩
theorem SqAt.at {h h' : Heap} {c : Src} (x : SqAt h c) (e : ∀ o, h.get? c.l = some o → h'.get? c.l = some o) : SqAt h' c := by
  unfold SqAt at x ⊢
  by_cases b : c.b = true
  · rw [if_pos b] at x ⊢
    exact x.at e
  · rw [if_neg b] at x ⊢
    obtain ⟨o, ho, r⟩ := x
    exact ⟨o, e o ho, r⟩
abbrev IsTup (h : Heap) (T : Addr) (vs : Array Value) : Prop := h.get? T = some { cls := .type "tuple", data := .seq vs }
section
variable {prog : Program} {w : World} {A : Around} {E : Value → Shared → Prop} {s : Shared}
theorem nextOf_item {c : Src} {n : Nat} {x : Value} {Q : Value → Shared → Prop} (hit : ItAt s.heap c n) (hl : SqAt s.heap c) (hx : c.xs[n]? = some x)
    (hQ : ∀ h', ItAt h' c (n + 1) → Heap.SameBut c.it s.heap h' → Q x { s with heap := h' }) : wpAny (model prog w) A (Builtin.SmallTypes.nextOf (.ref c.it)) Q E s := by
  unfold ItAt at hit hQ
  unfold SqAt at hl
  by_cases b : c.b = true
  · simp only [if_pos b] at hit hl hQ
    exact wpAny_nextOf_list_item hit hl hx hQ
  · simp only [if_neg b] at hit hl hQ
    exact RZ.nextOf_tuple_item hit hl hx hQ
theorem nextOf_end {c : Src} {n : Nat} {Q : Value → Shared → Prop} (hh : A.handled = none) (hit : ItAt s.heap c n) (hl : SqAt s.heap c) (hx : c.xs[n]? = none)
    (hE : ∀ h' e, Heap.ExtBut c.it s.heap h' → (∃ o, h'.get? e = some o ∧ o.cls = .type "StopIteration") → E (.ref e) { s with heap := h' }) : wpAny (model prog w) A (Builtin.SmallTypes.nextOf (.ref c.it)) Q E s := by
  unfold ItAt at hit
  unfold SqAt at hl
  by_cases b : c.b = true
  · simp only [if_pos b] at hit hl
    exact wpAny_nextOf_list_end hh hit hl hx hE
  · simp only [if_neg b] at hit hl
    exact RZ.nextOf_tuple_end hh hit hl hx hE
theorem updateSeq_tup {T : Addr} {arr : Array Value} {x : Value} {k : Nat} {Q : Unit → Shared → Prop} (hT : IsTup s.heap T arr) (hl : arr.size ≤ sizeLine)
    (h : ∀ h', IsTup h' T (arr.setIfInBounds k x) → Heap.SameBut T s.heap h' → Q () { s with heap := h' }) :
    wpAny (model prog w) A (updateSeq T (·.setIfInBounds k x)) Q E s := by
  refine wpAny_updateSeq hT rfl (h _ ?_ (Heap.SameBut.update ..)) (by exact hl) (by rw [Array.size_setIfInBounds]; exact Nat.le_succ_of_le hl)
  show Heap.get? _ _ = _
  rw [Heap.get?_update_self _ hT rfl]
  simp [Obj.mapSeq]
structure Apart (z TI TO : Addr) (S : List Src) : Prop where
  TIz : TI ≠ z
  TOz : TO ≠ z
  TITO : TI ≠ TO
  itz : ∀ c ∈ S, c.it ≠ z
  itTI : ∀ c ∈ S, c.it ≠ TI
  itTO : ∀ c ∈ S, c.it ≠ TO
  lz : ∀ c ∈ S, c.l ≠ z
  lTO : ∀ c ∈ S, c.l ≠ TO
  lit : ∀ c ∈ S, ∀ d ∈ S, c.l ≠ d.it
  nod : ∀ (i j : Nat) (c d : Src), S[i]? = some c → S[j]? = some d → c.it = d.it → i = j
/-- what stays -/
def Kept (z TO : Addr) (S : List Src) (h h' : Heap) : Prop := ∀ c o, c ≠ z → c ≠ TO → (∀ d ∈ S, c ≠ d.it) → h.get? c = some o → h'.get? c = some o
theorem next_any {z TI TO : Addr} {S : List Src} {n : Nat} {arr : Array Value} {Q : Value → Shared → Prop} (hne : S ≠ []) (few : S.length ≤ sizeLine) (hh : A.handled = none) (D : Apart z TI TO S)
    (hz : IsZip s.heap z TI TO .none) (hTI : IsTup s.heap TI (S.map fun c => Value.ref c.it).toArray) (hTO : IsTup s.heap TO arr) (ha : arr.size = S.length) (hit : ∀ c ∈ S, ItAt s.heap c n) (hl : ∀ c ∈ S, SqAt s.heap c)
    (hQ : ∀ h' ys, ys.size = S.length → (∀ (i : Nat) (c : Src), S[i]? = some c → ∃ x, c.xs[n]? = some x ∧ ys[i]? = some x) → IsZip h' z TI TO (rawInt s.heap.objs.size) → IsTup h' TO ys → (∀ c ∈ S, ItAt h' c (n + 1)) → IsTup h' s.heap.objs.size ys →
      h'.objs.size = s.heap.objs.size + 1 → Kept z TO S s.heap h' → Q (.ref s.heap.objs.size) { s with heap := h' })
    (hE : (∃ c ∈ S, c.xs[n]? = none) → ∀ h' e, Kept z TO S s.heap h' → (∃ o, h'.get? e = some o ∧ o.cls = .type "StopIteration") → E (.ref e) { s with heap := h' }) :
    wpAny (model prog w) A (Builtin.«zip.__next__» ⟨[.ref z], []⟩) (fun fin s' => ∃ v, fin = .done (.ret v) ∧ Q v s') E s := by
  show wpAny _ _ (field (.ref z) 2 >>= _) _ _ _
  refine wpAny_bind (wpAny_field hz rfl (x := .bool false) rfl ?_)
  show wpAny _ _ (field (.ref z) 3 >>= _) _ _ _
  refine wpAny_bind (wpAny_field hz rfl (x := .ref TI) rfl ?_)
  refine wpAny_bind (wpAny_seqItems hTI rfl ?_)
  have ne : ((S.map fun c => Value.ref c.it).toArray).isEmpty = false := by
    cases S with
    | nil => exact absurd rfl hne
    | cons c r => rfl
  simp only [ne]
  show wpAny _ _ (Builtin.SmallTypes.ownedTupleIsFree (.ref z) >>= _) _ _ _
  refine wpAny_bind ?_
  unfold Builtin.SmallTypes.ownedTupleIsFree
  refine wpAny_bind (wpAny_field hz rfl (x := .none) rfl (wpAny_pure ?_))
  simp only [if_true]
  refine wpAny_bind (wpAny_rule ?_)
  refine wpAny_bind (wpAny_field hz rfl (x := .ref TO) rfl ?_)
  refine wpAny_bind (wpAny_setField_rec hz (by simp) fun h₁ hz₁ hs₁ => ?_)
  replace hz₁ : IsZip h₁ z TI TO .ellipsis := hz₁
  refine wpAny_bind ?_
  refine wpAny_forIn_list _ (fun l b s' => b = ⟨none, PUnit.unit⟩ ∧ ∃ (j : Nat) (h : Heap), s' = { s with heap := h } ∧ j ≤ S.length ∧ l = ((S.drop j).map fun c => Value.ref c.it).zipIdx j ∧ h.objs.size = s.heap.objs.size ∧ IsZip h z TI TO .ellipsis ∧
      (∃ arr' : Array Value, IsTup h TO arr' ∧ arr'.size = S.length ∧ ∀ (i : Nat) (c : Src), i < j → S[i]? = some c → ∃ x, c.xs[n]? = some x ∧ arr'[i]? = some x) ∧
      (∀ (i : Nat) (c : Src), S[i]? = some c → ItAt h c (if i < j then n + 1 else n)) ∧ Kept z TO S s.heap h) _ ?turn ?fin _ _ ?start
  case start =>
    refine ⟨rfl, 0, h₁, rfl, Nat.zero_le _, rfl, hs₁.1, hz₁, ⟨arr, hs₁.extBut _ _ D.TOz hTO, ha, fun i c hi => absurd hi (Nat.not_lt_zero _)⟩, fun i c e => ?_, fun c o c1 _ _ e => hs₁.extBut _ _ c1 e⟩
    have m := List.mem_of_getElem? e
    rw [if_neg (Nat.not_lt_zero _)]
    exact (hit c m).at fun o q => hs₁.extBut _ _ (D.itz c m) q
  case turn =>
    rintro ⟨x, k⟩ rest b s' ⟨rfl, j, h, rfl, jl, le, hsz, hzj, ⟨arr', hTO', ha', pre⟩, its, kp⟩
    have jlt : j < S.length := by
      rcases Nat.lt_or_ge j S.length with q | q
      · exact q
      · rw [List.drop_eq_nil_of_le q] at le
        cases le
    obtain ⟨c, hc⟩ : ∃ c, S[j]? = some c := ⟨S[j], by simp [jlt]⟩
    have m := List.mem_of_getElem? hc
    have dr : S.drop j = c :: S.drop (j + 1) := by
      rw [List.drop_eq_getElem_cons jlt]
      congr 1
      rw [List.getElem?_eq_getElem jlt] at hc
      exact Option.some.inj hc
    rw [dr] at le
    obtain ⟨e1, e2⟩ := List.cons.inj le
    obtain ⟨rfl, rfl⟩ := Prod.mk.inj e1
    have itj := its _ c hc
    rw [if_neg (Nat.lt_irrefl _)] at itj
    have sqj : SqAt h c := (hl c m).at fun o q => kp _ _ (D.lz c m) (D.lTO c m) (fun d hd => D.lit c m d hd) q
    refine wpAny_bind (wpAny_onRaise ?_)
    show wpAny _ _ (Builtin.SmallTypes.nextOf (.ref c.it) >>= _) _ _ _
    refine wpAny_bind ?_
    cases hx : c.xs[n]? with
    | none =>
      refine nextOf_end hh itj sqj hx fun h₂ e hs₂ he => ?_
      obtain ⟨oe, hoe, hce⟩ := he
      have hz₂ : IsZip h₂ z TI TO .ellipsis := hs₂ _ _ (D.itz c m).symm hzj
      have hez : e ≠ z := fun x => by subst x; rw [hz₂] at hoe; cases hoe; simp at hce
      refine wpAny_setField_rec hz₂ (by simp) fun h₃ _ hs₃ => hE ⟨c, m, hx⟩ h₃ e (fun b o c1 c2 c3 x => hs₃.extBut _ _ c1 (hs₂ _ _ (c3 c m) (kp _ _ c1 c2 c3 x))) ⟨oe, hs₃.extBut _ _ hez hoe, hce⟩
    | some x =>
      refine nextOf_item itj sqj hx fun h₂ it₂ hs₂ => wpAny_pure ?_
      have hTO₂ : IsTup h₂ TO arr' := hs₂.extBut _ _ (D.itTO c m).symm hTO'
      refine wpAny_bind (wpAny_seqItems hTO₂ rfl ?_)
      refine wpAny_bind (updateSeq_tup hTO₂ (by rw [ha']; exact few) fun h₃ hTO₃ hs₃ => ?_)
      refine wpAny_bind (wpAny_letGo (wpAny_pure ?_))
      refine ⟨rfl, _, h₃, rfl, jlt, e2, (hs₃.1.trans hs₂.1).trans hsz, hs₃.extBut _ _ D.TOz.symm (hs₂.extBut _ _ (D.itz c m).symm hzj), ⟨_, hTO₃, by simpa using ha', fun i d hi e => ?_⟩, fun i d e => ?_, fun b o c1 c2 c3 q => hs₃.extBut _ _ c2 (hs₂.extBut _ _ (c3 c m) (kp _ _ c1 c2 c3 q))⟩
      · rcases Nat.lt_or_ge i k with q | q
        · obtain ⟨y, y1, y2⟩ := pre i d q e
          refine ⟨y, y1, ?_⟩
          rw [Array.getElem?_setIfInBounds_ne (by omega)]
          exact y2
        · have : i = k := by omega
          subst this
          rw [hc] at e
          cases e
          refine ⟨x, hx, ?_⟩
          rw [Array.getElem?_setIfInBounds_self_of_lt (by omega)]
      · have md := List.mem_of_getElem? e
        by_cases q : i = k
        · subst q
          rw [hc] at e
          cases e
          rw [if_pos (Nat.lt_succ_self _)]
          exact it₂.at fun o z => hs₃.extBut _ _ (D.itTO c m) z
        · have old := its i d e
          have ne2 : d.it ≠ c.it := fun z => q (D.nod i k d c e hc z)
          have : (if i < k + 1 then n + 1 else n) = (if i < k then n + 1 else n) := by
            by_cases y : i < k
            · rw [if_pos y, if_pos (by omega)]
            · rw [if_neg y, if_neg (by omega)]
          rw [this]
          exact old.at fun o z => hs₃.extBut _ _ (D.itTO d md) (hs₂.extBut _ _ ne2 z)
  case fin =>
    rintro b s' ⟨rfl, j, h, rfl, jl, le, hsz, hzj, ⟨arr', hTO', ha', pre⟩, its, kp⟩
    have jall : S.length ≤ j := by
      rcases Nat.lt_or_ge j S.length with q | q
      · rw [List.drop_eq_getElem_cons q] at le
        cases le
      · exact q
    refine wpAny_bind (wpAny_seqItems hTO' rfl ?_)
    refine wpAny_bind (wpAny_newTuple ?_ (by rw [Array.length_toList, ha']; exact few))
    have hzlt : z < h.objs.size := Heap.lt_size hzj
    have hTOlt : TO < h.objs.size := Heap.lt_size hTO'
    show wpAny _ _ (Builtin.SmallTypes.ownedTupleHandOut (.ref z) (.ref h.objs.size) >>= _) _ _ _
    refine wpAny_bind ?_
    unfold Builtin.SmallTypes.ownedTupleHandOut
    have hz₆ : IsZip (h.push { cls := .type "tuple", data := .seq arr'.toList.toArray }) z TI TO .ellipsis := Heap.get?_push_of_some _ hzj
    refine wpAny_bind (wpAny_setField_rec hz₆ (by simp) fun h₇ hz₇ hs₇ => ?_)
    replace hz₇ : IsZip h₇ z TI TO (rawInt h.objs.size) := hz₇
    refine wpAny_setField_rec hz₇ (by simp) fun h₈ hz₈ hs₈ => ?_
    replace hz₈ : IsZip h₈ z TI TO (rawInt h.objs.size) := hz₈
    have up : ∀ c o, c ≠ z → h.get? c = some o → h₈.get? c = some o := fun c o c1 e => hs₈.extBut _ _ c1 (hs₇.extBut _ _ c1 (Heap.get?_push_of_some _ e))
    have hT₈ : IsTup h₈ h.objs.size arr' := by
      have : IsTup h₈ h.objs.size arr'.toList.toArray := hs₈.extBut _ _ (Nat.ne_of_gt hzlt) (hs₇.extBut _ _ (Nat.ne_of_gt hzlt) (Heap.get?_push_size _ rfl))
      simpa using this
    have hz8 : h₈.objs.size = h.objs.size + 1 := by rw [hs₈.1, hs₇.1, Heap.size_push]
    rw [hsz] at hz₈ hT₈ hz8
    refine wpAny_pure ⟨_, rfl, ?_⟩
    show Q (.ref h.objs.size) _
    rw [hsz]
    refine hQ h₈ arr' ha' (fun i c e => pre i c (Nat.lt_of_lt_of_le (List.getElem?_eq_some_iff.mp e).1 jall) e) hz₈ (up _ _ D.TOz hTO') (fun c m => ?_) hT₈ hz8 fun c o c1 c2 c3 e => up c o c1 (kp _ _ c1 c2 c3 e)
    obtain ⟨i, hi, e⟩ := List.getElem_of_mem m
    have e' : S[i]? = some c := by rw [List.getElem?_eq_getElem hi, e]
    have q := its i c e'
    rw [if_pos (Nat.lt_of_lt_of_le hi jall)] at q
    exact q.at fun o z => up _ _ (D.itz c m) z
end
end ZK

set_option Elab.async false
set_option linter.all false
set_option maxRecDepth 100000
set_option maxHeartbeats 2000000
/-! zip of any number of lists and tuples: while the tuple that was given out is still there; list(zip(..)). -/
namespace ZK
open PySem
open PySem.Sem (wp)
/-- a zip whose tuple T was given out -/
abbrev ZipOut (h : Heap) (z TI TO T : Addr) (f : Bool) : Prop := h.get? z = some { cls := .type "zip", dict := none, data := .fields #[rawInt T, .bool f, .bool false, .ref TI, .ref TO], slots := #[] }
section
variable {prog : Program} {w : World} {A : Around} {E : Value → Shared → Prop} {s : Shared}
theorem free_out {z TI TO T : Addr} {f : Bool} {oT : Obj} {Q : Bool → Shared → Prop} (hz : ZipOut s.heap z TI TO T f) (hT : s.heap.get? T = some oT) (h : ∀ h', ZipOut h' z TI TO T true → Heap.SameBut z s.heap h' → Q false { s with heap := h' }) :
    wpAny (model prog w) A (Builtin.SmallTypes.ownedTupleIsFree (.ref z)) Q E s := by
  unfold Builtin.SmallTypes.ownedTupleIsFree
  refine wpAny_bind (wpAny_field hz rfl (x := rawInt T) rfl ?_)
  show wpAny _ _ (loadIfAlive ((T : Int).toNat) >>= _) _ _ _
  rw [Int.toNat_natCast]
  refine wpAny_bind (PySem.W.kdx_alive hT ?_)
  simp only [Option.isNone_some, Bool.false_eq_true, if_false]
  refine wpAny_bind (wpAny_field hz rfl (x := .bool f) rfl ?_)
  cases f with
  | true =>
    rw [if_neg (show ¬ ((Value.bool true != Value.bool true) = true) from Bool.false_ne_true)]
    exact wpAny_pure (h _ hz (Heap.SameBut.refl _ _))
  | false =>
    rw [if_pos (show (Value.bool false != Value.bool true) = true from rfl)]
    exact wpAny_bind (wpAny_setField_rec hz (by simp) fun h₃ he₃ hs₃ => wpAny_pure (h h₃ he₃ hs₃))
theorem next_out {z TI TO T : Addr} {f : Bool} {oT : Obj} {S : List Src} {n : Nat} {Q : Value → Shared → Prop} (hne : S ≠ []) (few : S.length ≤ sizeLine) (hh : A.handled = none) (D : Apart z TI TO S)
    (hz : ZipOut s.heap z TI TO T f) (hT : s.heap.get? T = some oT) (hTI : IsTup s.heap TI (S.map fun c => Value.ref c.it).toArray) (hit : ∀ c ∈ S, ItAt s.heap c n) (hl : ∀ c ∈ S, SqAt s.heap c)
    (hQ : ∀ h' ys, ys.size = S.length → (∀ (i : Nat) (c : Src), S[i]? = some c → ∃ x, c.xs[n]? = some x ∧ ys[i]? = some x) → ZipOut h' z TI TO T true → (∀ c ∈ S, ItAt h' c (n + 1)) → IsTup h' s.heap.objs.size ys →
      h'.objs.size = s.heap.objs.size + 1 → Kept z z S s.heap h' → Q (.ref s.heap.objs.size) { s with heap := h' })
    (hE : (∃ c ∈ S, c.xs[n]? = none) → ∀ h' e, Kept z z S s.heap h' → (∃ o, h'.get? e = some o ∧ o.cls = .type "StopIteration") → E (.ref e) { s with heap := h' }) :
    wpAny (model prog w) A (Builtin.«zip.__next__» ⟨[.ref z], []⟩) (fun fin s' => ∃ v, fin = .done (.ret v) ∧ Q v s') E s := by
  show wpAny _ _ (field (.ref z) 2 >>= _) _ _ _
  refine wpAny_bind (wpAny_field hz rfl (x := .bool false) rfl ?_)
  show wpAny _ _ (field (.ref z) 3 >>= _) _ _ _
  refine wpAny_bind (wpAny_field hz rfl (x := .ref TI) rfl ?_)
  refine wpAny_bind (wpAny_seqItems hTI rfl ?_)
  have ne : ((S.map fun c => Value.ref c.it).toArray).isEmpty = false := by
    cases S with
    | nil => exact absurd rfl hne
    | cons c r => rfl
  simp only [ne]
  show wpAny _ _ (Builtin.SmallTypes.ownedTupleIsFree (.ref z) >>= _) _ _ _
  refine wpAny_bind (free_out hz hT fun h₁ hz₁ hs₁ => ?_)
  simp only [Bool.false_eq_true, if_false]
  refine wpAny_bind ?_
  refine MeetsSeq2.wpAny_forIn_array _ (fun l b s' => ∃ (acc : Array Value) (h : Heap), b = (none, acc) ∧ s' = { s with heap := h } ∧ acc.size ≤ S.length ∧ l = (S.drop acc.size).map (fun c => Value.ref c.it) ∧ h.objs.size = s.heap.objs.size ∧ ZipOut h z TI TO T true ∧
      (∀ (i : Nat) (c : Src), i < acc.size → S[i]? = some c → ∃ x, c.xs[n]? = some x ∧ acc[i]? = some x) ∧
      (∀ (i : Nat) (c : Src), S[i]? = some c → ItAt h c (if i < acc.size then n + 1 else n)) ∧ Kept z z S s.heap h) _ ?turn ?fin _ _ ?start
  case start =>
    refine ⟨#[], h₁, rfl, rfl, Nat.zero_le _, rfl, hs₁.1, hz₁, fun i c hi => absurd hi (Nat.not_lt_zero _), fun i c e => ?_, fun c o c1 _ _ e => hs₁.extBut _ _ c1 e⟩
    have m := List.mem_of_getElem? e
    rw [if_neg (show ¬ i < (#[] : Array Value).size from Nat.not_lt_zero _)]
    exact (hit c m).at fun o q => hs₁.extBut _ _ (D.itz c m) q
  case turn =>
    rintro x rest b s' ⟨acc, h, rfl, rfl, jl, le, hsz, hzj, pre, its, kp⟩
    have jlt : acc.size < S.length := by
      rcases Nat.lt_or_ge acc.size S.length with q | q
      · exact q
      · rw [List.drop_eq_nil_of_le q] at le
        cases le
    obtain ⟨c, hc⟩ : ∃ c, S[acc.size]? = some c := ⟨S[acc.size], by simp [jlt]⟩
    have m := List.mem_of_getElem? hc
    have dr : S.drop acc.size = c :: S.drop (acc.size + 1) := by
      rw [List.drop_eq_getElem_cons jlt]
      congr 1
      rw [List.getElem?_eq_getElem jlt] at hc
      exact Option.some.inj hc
    rw [dr] at le
    obtain ⟨rfl, e2⟩ := List.cons.inj le
    have itj := its _ c hc
    rw [if_neg (Nat.lt_irrefl _)] at itj
    have sqj : SqAt h c := (hl c m).at fun o q => kp _ _ (D.lz c m) (D.lz c m) (fun d hd => D.lit c m d hd) q
    refine wpAny_bind (wpAny_holding ?_)
    show wpAny _ _ (Builtin.SmallTypes.nextOf (.ref c.it) >>= _) _ _ _
    refine wpAny_bind ?_
    cases hx : c.xs[n]? with
    | none =>
      exact nextOf_end hh itj sqj hx fun h₂ e hs₂ he => hE ⟨c, m, hx⟩ h₂ e (fun b o c1 c2 c3 x => hs₂ _ _ (c3 c m) (kp _ _ c1 c2 c3 x)) he
    | some x =>
      refine nextOf_item itj sqj hx fun h₂ it₂ hs₂ => wpAny_pure (wpAny_pure ?_)
      refine ⟨acc.push x, h₂, rfl, rfl, by rw [Array.size_push]; exact jlt, by rw [Array.size_push]; exact e2, hs₂.1.trans hsz, hs₂.extBut _ _ (D.itz c m).symm hzj, fun i d hi e => ?_, fun i d e => ?_, fun b o c1 c2 c3 q => hs₂.extBut _ _ (c3 c m) (kp _ _ c1 c2 c3 q)⟩
      · rw [Array.size_push] at hi
        rcases Nat.lt_or_ge i acc.size with q | q
        · obtain ⟨y, y1, y2⟩ := pre i d q e
          refine ⟨y, y1, ?_⟩
          rw [Array.getElem?_push_lt (by omega)]
          rw [Array.getElem?_eq_getElem q] at y2
          exact y2
        · have : i = acc.size := by omega
          subst this
          rw [hc] at e
          cases e
          exact ⟨x, hx, Array.getElem?_push_size⟩
      · rw [Array.size_push]
        by_cases q : i = acc.size
        · subst q
          rw [hc] at e
          cases e
          rw [if_pos (Nat.lt_succ_self _)]
          exact it₂
        · have old := its i d e
          have ne2 : d.it ≠ c.it := fun z => q (D.nod i acc.size d c e hc z)
          have : (if i < acc.size + 1 then n + 1 else n) = (if i < acc.size then n + 1 else n) := by
            by_cases y : i < acc.size
            · rw [if_pos y, if_pos (by omega)]
            · rw [if_neg y, if_neg (by omega)]
          rw [this]
          exact old.at fun o z => hs₂.extBut _ _ ne2 z
  case fin =>
    rintro b s' ⟨acc, h, rfl, rfl, jl, le, hsz, hzj, pre, its, kp⟩
    have jall : acc.size = S.length := by
      rcases Nat.lt_or_ge acc.size S.length with q | q
      · rw [List.drop_eq_getElem_cons q] at le
        cases le
      · omega
    refine wpAny_bind (wpAny_newTuple ?_ (by rw [Array.length_toList, jall]; exact few))
    have ta : IsTup (h.push { cls := .type "tuple", data := .seq acc.toList.toArray }) h.objs.size acc := by
      have : IsTup (h.push { cls := .type "tuple", data := .seq acc.toList.toArray }) h.objs.size acc.toList.toArray := Heap.get?_push_size _ rfl
      simpa using this
    refine wpAny_pure ⟨_, rfl, ?_⟩
    show Q (.ref h.objs.size) _
    rw [hsz] at ta ⊢
    refine hQ _ acc jall (fun i c e => pre i c (by rw [jall]; exact (List.getElem?_eq_some_iff.mp e).1) e) (Heap.get?_push_of_some _ hzj) (fun c m => ?_) ta (by rw [Heap.size_push, hsz]) fun c o c1 c2 c3 e => Heap.get?_push_of_some _ (kp _ _ c1 c2 c3 e)
    obtain ⟨i, hi, e⟩ := List.getElem_of_mem m
    have e' : S[i]? = some c := by rw [List.getElem?_eq_getElem hi, e]
    have q := its i c e'
    rw [if_pos (by omega)] at q
    exact q.at fun o z => Heap.get?_push_of_some _ z
end
end ZK

set_option Elab.async false
set_option linter.all false
set_option maxRecDepth 100000
set_option maxHeartbeats 2000000
/-! zip of any number of lists and tuples is made; list(zip(..)). -/
namespace ZK
open PySem
open PySem.Sem (wp)
theorem newCall_many : ∀ vs : List Value, vs.length ≤ 24 → checkBuiltinCall "zip.__new__" ⟨.type "zip" :: vs, []⟩ = pure ()
  | [], _ => by kernel_rfl
  | [_], _ => by kernel_rfl
  | [_, _], _ => by kernel_rfl
  | [_, _, _], _ => by kernel_rfl
  | [_, _, _, _], _ => by kernel_rfl
  | [_, _, _, _, _], _ => by kernel_rfl
  | [_, _, _, _, _, _], _ => by kernel_rfl
  | [_, _, _, _, _, _, _], _ => by kernel_rfl
  | [_, _, _, _, _, _, _, _], _ => by kernel_rfl
  | [_, _, _, _, _, _, _, _, _], _ => by kernel_rfl
  | [_, _, _, _, _, _, _, _, _, _], _ => by kernel_rfl
  | [_, _, _, _, _, _, _, _, _, _, _], _ => by kernel_rfl
  | [_, _, _, _, _, _, _, _, _, _, _, _], _ => by kernel_rfl
  | [_, _, _, _, _, _, _, _, _, _, _, _, _], _ => by kernel_rfl
  | [_, _, _, _, _, _, _, _, _, _, _, _, _, _], _ => by kernel_rfl
  | [_, _, _, _, _, _, _, _, _, _, _, _, _, _, _], _ => by kernel_rfl
  | [_, _, _, _, _, _, _, _, _, _, _, _, _, _, _, _], _ => by kernel_rfl
  | [_, _, _, _, _, _, _, _, _, _, _, _, _, _, _, _, _], _ => by kernel_rfl
  | [_, _, _, _, _, _, _, _, _, _, _, _, _, _, _, _, _, _], _ => by kernel_rfl
  | [_, _, _, _, _, _, _, _, _, _, _, _, _, _, _, _, _, _, _], _ => by kernel_rfl
  | [_, _, _, _, _, _, _, _, _, _, _, _, _, _, _, _, _, _, _, _], _ => by kernel_rfl
  | [_, _, _, _, _, _, _, _, _, _, _, _, _, _, _, _, _, _, _, _, _], _ => by kernel_rfl
  | [_, _, _, _, _, _, _, _, _, _, _, _, _, _, _, _, _, _, _, _, _, _], _ => by kernel_rfl
  | [_, _, _, _, _, _, _, _, _, _, _, _, _, _, _, _, _, _, _, _, _, _, _], _ => by kernel_rfl
  | [_, _, _, _, _, _, _, _, _, _, _, _, _, _, _, _, _, _, _, _, _, _, _, _], _ => by kernel_rfl
  | _ :: _ :: _ :: _ :: _ :: _ :: _ :: _ :: _ :: _ :: _ :: _ :: _ :: _ :: _ :: _ :: _ :: _ :: _ :: _ :: _ :: _ :: _ :: _ :: _ :: r, h => absurd h (by simp)
theorem typeCall_many (vs : List Value) : checkTypeCall "zip" ⟨vs, []⟩ = pure () := by kernel_rfl
theorem init_many (o : Value) (vs : List Value) : argsOk "object.__init__" ⟨o :: vs, []⟩ := by
  unfold argsOk; rw [signature?_of (id := "object.__init__") (n := ['_', '_', 't', 'i', 'n', 'i', '_', '_']) (o := ['t', 'c', 'e', 'j', 'b', 'o']) (by kernel_rfl) F.owner_object]; kernel_rfl
/-- what is to be walked: a list or a tuple, its address, its items -/
abbrev Arg := Bool × Addr × Array Value
def srcs (n : Nat) (L : List Arg) : List Src := (L.zipIdx n).map fun p => ⟨p.1.1, p.2, p.1.2.1, p.1.2.2⟩
theorem srcs_get {n i : Nat} {L : List Arg} {c : Src} (h : (srcs n L)[i]? = some c) : ∃ p, L[i]? = some p ∧ c = ⟨p.1, n + i, p.2.1, p.2.2⟩ := by
  unfold srcs at h
  rw [List.getElem?_map, List.getElem?_zipIdx] at h
  cases e : L[i]? with
  | none => rw [e] at h; cases h
  | some p =>
    rw [e] at h
    exact ⟨p, rfl, (Option.some.inj h).symm⟩
theorem srcs_len {n : Nat} {L : List Arg} : (srcs n L).length = L.length := by simp [srcs]
theorem srcs_mem {n : Nat} {L : List Arg} {c : Src} (h : c ∈ srcs n L) : ∃ i p, L[i]? = some p ∧ c = ⟨p.1, n + i, p.2.1, p.2.2⟩ := by
  obtain ⟨i, hi, e⟩ := List.getElem_of_mem h
  obtain ⟨p, h1, h2⟩ := srcs_get (i := i) (c := c) (by rw [List.getElem?_eq_getElem hi, e])
  exact ⟨i, p, h1, h2⟩
def ArgAt (h : Heap) (p : Arg) : Prop := if p.1 = true then h.IsList p.2.1 p.2.2 else h.IsTuple p.2.1 p.2.2
theorem ArgAt.at {h h' : Heap} {p : Arg} (x : ArgAt h p) (e : ∀ o, h.get? p.2.1 = some o → h'.get? p.2.1 = some o) : ArgAt h' p := SqAt.at (c := ⟨p.1, 0, p.2.1, p.2.2⟩) x e
theorem ArgAt.lt {h : Heap} {p : Arg} (x : ArgAt h p) : p.2.1 < h.objs.size := by
  unfold ArgAt at x
  split at x
  · obtain ⟨o, e, _⟩ := x
    exact Heap.lt_size e
  · obtain ⟨o, e, _⟩ := x
    exact Heap.lt_size e
section
variable {prog : Program} {w : World} {A : Around} {E : Value → Shared → Prop} {s : Shared}
theorem iter_arg {p : Arg} {Q : Value → Shared → Prop} (hp : ArgAt s.heap p) (h : ∀ h', h'.objs.size = s.heap.objs.size + 1 → (∀ b o, s.heap.get? b = some o → h'.get? b = some o) → ItAt h' ⟨p.1, s.heap.objs.size, p.2.1, p.2.2⟩ 0 → Q (.ref s.heap.objs.size) { s with heap := h' }) :
    wpAny (model prog w) A (pyIter (.ref p.2.1)) Q E s := by
  unfold ArgAt at hp
  by_cases b : p.1 = true
  · rw [if_pos b] at hp
    refine wpAny_pyIter_list hp (h _ (Heap.size_push ..) (fun b o e => Heap.get?_push_of_some _ e) ?_)
    unfold ItAt
    rw [if_pos b]
    exact ⟨_, Heap.get?_push_size _ rfl, rfl, rfl⟩
  · rw [if_neg b] at hp
    refine wpAny_pyIter_tuple hp (h _ (Heap.size_push ..) (fun b o e => Heap.get?_push_of_some _ e) ?_)
    unfold ItAt
    rw [if_neg b]
    exact ⟨_, Heap.get?_push_size _ rfl, rfl, rfl⟩
theorem iter_all {L : List Arg} {Q : List Value → Shared → Prop} (hL : ∀ p ∈ L, ArgAt s.heap p)
    (h : ∀ h', h'.objs.size = s.heap.objs.size + L.length → (∀ b o, s.heap.get? b = some o → h'.get? b = some o) → (∀ c ∈ srcs s.heap.objs.size L, ItAt h' c 0) → Q ((srcs s.heap.objs.size L).map fun c => .ref c.it) { s with heap := h' }) :
    wpAny (model prog w) A (Builtin.SmallTypes.iterAll (L.map fun p => .ref p.2.1)) Q E s := by
  unfold Builtin.SmallTypes.iterAll
  refine wpAny_bind ?_
  refine wpAny_forIn_list _ (fun l b s' => ∃ (j : Nat) (h : Heap), j ≤ L.length ∧ l = (L.drop j).map (fun p => Value.ref p.2.1) ∧ b.toList = ((srcs s.heap.objs.size L).take j).map (fun c => Value.ref c.it) ∧ s' = { s with heap := h } ∧ h.objs.size = s.heap.objs.size + j ∧
    (∀ b o, s.heap.get? b = some o → h.get? b = some o) ∧ ∀ (i : Nat) (c : Src), i < j → (srcs s.heap.objs.size L)[i]? = some c → ItAt h c 0) _ ?turn ?fin _ _ ?start
  case start => exact ⟨0, s.heap, Nat.zero_le _, rfl, rfl, rfl, rfl, fun _ _ e => e, fun i c q => absurd q (Nat.not_lt_zero _)⟩
  case turn =>
    rintro x rest b s' ⟨j, g, jl, le, hb, rfl, hsz, kp, its⟩
    have jlt : j < L.length := by
      rcases Nat.lt_or_ge j L.length with q | q
      · exact q
      · rw [List.drop_eq_nil_of_le q] at le
        cases le
    rw [List.drop_eq_getElem_cons jlt] at le
    obtain ⟨rfl, e2⟩ := List.cons.inj le
    refine wpAny_bind (wpAny_holding ?_)
    have hp := (hL L[j] (List.getElem_mem jlt)).at fun o e => kp _ _ e
    refine iter_arg (s := { s with heap := g }) hp fun h' z k it => wpAny_pure ?_
    have sj : (srcs s.heap.objs.size L)[j]? = some ⟨L[j].1, s.heap.objs.size + j, L[j].2.1, L[j].2.2⟩ := by
      unfold srcs
      rw [List.getElem?_map, List.getElem?_zipIdx, List.getElem?_eq_getElem jlt]
      rfl
    have it' : ItAt h' ⟨L[j].1, s.heap.objs.size + j, L[j].2.1, L[j].2.2⟩ 0 := by
      rw [← hsz]
      exact it
    refine ⟨j + 1, h', jlt, e2, ?_, rfl, by rw [z]; show g.objs.size + 1 = _; omega, fun b o e => k b o (kp b o e), fun i c q e => ?_⟩
    · rw [Array.toList_push, hb]
      have hjl : j < (srcs s.heap.objs.size L).length := by rw [srcs_len]; exact jlt
      rw [List.take_succ_eq_append_getElem hjl, List.map_append]
      have : (srcs s.heap.objs.size L)[j] = ⟨L[j].1, s.heap.objs.size + j, L[j].2.1, L[j].2.2⟩ := by
        rw [List.getElem?_eq_getElem hjl] at sj
        exact Option.some.inj sj
      rw [this]
      show _ ++ [Value.ref g.objs.size] = _ ++ [Value.ref (s.heap.objs.size + j)]
      rw [hsz]
    · rcases Nat.lt_or_ge i j with y | y
      · exact (its i c y e).at fun o q => k _ _ q
      · have : i = j := by omega
        subst this
        rw [sj] at e
        cases e
        exact it'
  case fin =>
    rintro b s' ⟨j, g, jl, le, hb, rfl, hsz, kp, its⟩
    have jall : j = L.length := by
      rcases Nat.lt_or_ge j L.length with q | q
      · rw [List.drop_eq_getElem_cons q] at le
        cases le
      · omega
    subst jall
    have tk : (srcs s.heap.objs.size L).take L.length = srcs s.heap.objs.size L := List.take_of_length_le (by rw [srcs_len]; exact Nat.le_refl _)
    rw [tk] at hb
    refine wpAny_pure ?_
    show Q b.toList _
    rw [hb]
    refine h g hsz kp fun c m => ?_
    obtain ⟨i, hi, e⟩ := List.getElem_of_mem m
    exact its i c (by rw [srcs_len] at hi; exact hi) (by rw [List.getElem?_eq_getElem hi, e])
theorem meets_new (L : List Arg) (few : L.length ≤ 24) :
    Meets (Builtin.«zip.__new__» ⟨.type "zip" :: L.map (fun p => .ref p.2.1), []⟩) (fun _ R s => (∀ p ∈ L, ArgAt s.heap p) ∧ ∀ h', IsZip h' (s.heap.objs.size + L.length + 2) (s.heap.objs.size + L.length) (s.heap.objs.size + L.length + 1) .none →
      IsTup h' (s.heap.objs.size + L.length) ((srcs s.heap.objs.size L).map fun c => Value.ref c.it).toArray → (∃ arr : Array Value, IsTup h' (s.heap.objs.size + L.length + 1) arr ∧ arr.size = L.length) → (∀ c ∈ srcs s.heap.objs.size L, ItAt h' c 0) →
      h'.objs.size = s.heap.objs.size + L.length + 3 → (∀ b o, s.heap.get? b = some o → h'.get? b = some o) → R (.ok (.ret (.ref (s.heap.objs.size + L.length + 2)))) { s with heap := h' }) :=
  .of_wp fun prog w A R s ⟨hL, h⟩ => by
    have hsub := sub_zip
    have fit : L.length ≤ sizeLine := Nat.le_trans few (by decide)
    unfold Builtin.«zip.__new__» Builtin.SmallTypes.newClass
    refine wpAny_bind ?_
    refine wpAny_bind (m := isType (.type "zip")) (wpAny_pure ?_)
    refine wpAny_ite_split (fun q => absurd q (by decide)) fun _ => ?_
    rw [hsub]
    refine wpAny_bind (wpAny_pure ?_)
    refine wpAny_ite_split (fun q => absurd q (by decide)) fun _ => ?_
    refine wpAny_pure ?_
    refine wpAny_ite_split (fun q => absurd q (by show ¬ ((0 : Nat) > 1); decide)) fun _ => ?_
    refine wpAny_bind (iter_all hL fun h' z k its => ?_)
    have ml : ((srcs s.heap.objs.size L).map fun c => Value.ref c.it).length = L.length := by rw [List.length_map, srcs_len]
    refine wpAny_bind (wpAny_newTuple ?_ (by rw [ml]; exact fit))
    refine wpAny_bind (wpAny_newTuple ?_ (by rw [List.length_map, ml]; exact fit))
    refine wpAny_bind ?_
    unfold Builtin.SmallTypes.newRecord
    refine wpAny_newObj_type ?_ (by show (5 : Nat) ≤ sizeLine + 2; decide)
    have z1 : (h'.push { cls := .type "tuple", data := .seq ((srcs s.heap.objs.size L).map fun c => Value.ref c.it).toArray }).objs.size = s.heap.objs.size + L.length + 1 := by rw [Heap.size_push, z]
    have z2 : ((h'.push { cls := .type "tuple", data := .seq ((srcs s.heap.objs.size L).map fun c => Value.ref c.it).toArray }).push { cls := .type "tuple", data := .seq (((srcs s.heap.objs.size L).map fun c => Value.ref c.it).map fun _ => Value.none).toArray }).objs.size = s.heap.objs.size + L.length + 2 := by rw [Heap.size_push, z1]
    refine wpAny_pure ⟨_, rfl, ?_⟩
    show R (.ok (.ret (.ref _))) _
    have g3 : ∀ o, (((h'.push { cls := .type "tuple", data := .seq ((srcs s.heap.objs.size L).map fun c => Value.ref c.it).toArray }).push { cls := .type "tuple", data := .seq (((srcs s.heap.objs.size L).map fun c => Value.ref c.it).map fun _ => Value.none).toArray }).push o).get? (s.heap.objs.size + L.length) = some { cls := .type "tuple", data := .seq ((srcs s.heap.objs.size L).map fun c => Value.ref c.it).toArray } := fun o => by
      rw [← z]
      exact Heap.get?_push_of_some _ (Heap.get?_push_of_some _ (Heap.get?_push_size _ rfl))
    have g4 : ∀ o, (((h'.push { cls := .type "tuple", data := .seq ((srcs s.heap.objs.size L).map fun c => Value.ref c.it).toArray }).push { cls := .type "tuple", data := .seq (((srcs s.heap.objs.size L).map fun c => Value.ref c.it).map fun _ => Value.none).toArray }).push o).get? (s.heap.objs.size + L.length + 1) = some { cls := .type "tuple", data := .seq (((srcs s.heap.objs.size L).map fun c => Value.ref c.it).map fun _ => Value.none).toArray } := fun o => by
      rw [← z1]
      exact Heap.get?_push_of_some _ (Heap.get?_push_size _ rfl)
    have key := h (((h'.push { cls := .type "tuple", data := .seq ((srcs s.heap.objs.size L).map fun c => Value.ref c.it).toArray }).push { cls := .type "tuple", data := .seq (((srcs s.heap.objs.size L).map fun c => Value.ref c.it).map fun _ => Value.none).toArray }).push
      { cls := .type "zip", data := .fields #[.none, .bool false, .bool false, .ref (s.heap.objs.size + L.length), .ref (s.heap.objs.size + L.length + 1)] }) (by rw [← z2]; exact Heap.get?_push_size _ rfl) (g3 _) ⟨_, g4 _, by simp [srcs_len]⟩
      (fun c m => (its c m).at fun o e => Heap.get?_push_of_some _ (Heap.get?_push_of_some _ (Heap.get?_push_of_some _ e))) (by rw [Heap.size_push, z2]) fun b o e => Heap.get?_push_of_some _ (Heap.get?_push_of_some _ (Heap.get?_push_of_some _ (k b o e)))
    rw [← z2] at key
    simp only [z, z1] at key ⊢
    exact key
end
end ZK

set_option Elab.async false
set_option linter.all false
set_option maxRecDepth 100000
set_option maxHeartbeats 2000000
/-! zip of any number of lists and tuples: as a state; list(zip(..)). -/
namespace ZK
open PySem
open PySem.Sem (wp)
def rowAt (S : List Src) (n : Nat) : Array Value := (S.map fun c => c.xs.getD n .none).toArray
theorem row_of {S : List Src} {n : Nat} {ys : Array Value} (l : ys.size = S.length) (h : ∀ (i : Nat) (c : Src), S[i]? = some c → ∃ x, c.xs[n]? = some x ∧ ys[i]? = some x) : ys = rowAt S n := by
  apply Array.ext
  · simp [rowAt, l]
  · intro i h1 h2
    have hi : i < S.length := by omega
    obtain ⟨x, e1, e2⟩ := h i S[i] (List.getElem?_eq_getElem hi)
    rw [Array.getElem?_eq_getElem h1] at e2
    simp only [rowAt, List.getElem_toArray, List.getElem_map]
    rw [Array.getD_eq_getD_getElem?, e1]
    exact Option.some.inj e2
/-- at turn n: nothing was given out, or T was, which is none of the zip's own and not at D -/
structure ZSt (h : Heap) (z TI TO D : Addr) (S : List Src) (n : Nat) : Prop where
  tup : IsTup h TI (S.map fun c => Value.ref c.it).toArray
  zip : (IsZip h z TI TO .none ∧ ∃ arr : Array Value, IsTup h TO arr ∧ arr.size = S.length) ∨ ∃ (T : Addr) (f : Bool) (oT : Obj), ZipOut h z TI TO T f ∧ h.get? T = some oT ∧ T ≠ z ∧ T ≠ TO ∧ T ≠ D ∧ ∀ c ∈ S, T ≠ c.it
  its : ∀ c ∈ S, ItAt h c n
  sqs : ∀ c ∈ S, SqAt h c
theorem ZSt.keep {h h' : Heap} {z TI TO D : Addr} {S : List Src} {n : Nat} (x : ZSt h z TI TO D S n) (nz : z ≠ D) (nI : TI ≠ D) (nO : TO ≠ D) (nit : ∀ c ∈ S, c.it ≠ D) (nl : ∀ c ∈ S, c.l ≠ D) (k : ∀ b o, b ≠ D → h.get? b = some o → h'.get? b = some o) : ZSt h' z TI TO D S n := by
  refine ⟨k _ _ nI x.tup, ?_, fun c m => (x.its c m).at fun o e => k _ _ (nit c m) e, fun c m => (x.sqs c m).at fun o e => k _ _ (nl c m) e⟩
  rcases x.zip with ⟨a, arr, b, c⟩ | ⟨T, f, oT, a, b, c, d, e, g⟩
  · exact .inl ⟨k _ _ nz a, arr, k _ _ nO b, c⟩
  · exact .inr ⟨T, f, oT, k _ _ nz a, k _ _ e b, c, d, e, g⟩
section
variable {prog : Program} {w : World} {A : Around} {E : Value → Shared → Prop} {s : Shared}
theorem ZSt.item {z TI TO D : Addr} {S : List Src} {n : Nat} {Q : Option Value → Shared → Prop} (hne : S ≠ []) (few : S.length ≤ sizeLine) (hh : A.handled = none) (P : Apart z TI TO S) (x : ZSt s.heap z TI TO D S n) (hD : D < s.heap.objs.size) (hn : ∀ c ∈ S, n < c.xs.size)
    (hQ : ∀ h', ZSt h' z TI TO D S (n + 1) → IsTup h' s.heap.objs.size (rowAt S n) → h'.objs.size = s.heap.objs.size + 1 → Kept z TO S s.heap h' → Q (some (.ref s.heap.objs.size)) { s with heap := h' }) :
    wpAny (model prog w) A (pyNext (.ref z)) Q E s := by
  have lit : ∀ c ∈ S, c.it < s.heap.objs.size := fun c m => by
    obtain ⟨o, e, _⟩ := (x.its c m).lt
    exact Heap.lt_size e
  have no : ¬ ∃ c ∈ S, c.xs[n]? = none := fun ⟨c, m, e⟩ => by
    rw [Array.getElem?_eq_getElem (hn c m)] at e
    cases e
  rcases x.zip with ⟨a, arr, b, c⟩ | ⟨T, f, oT, a, b, c, d, e, g⟩
  · have hT : s.TypeIs (.ref z) "zip" := ⟨_, a, rfl⟩
    unfold pyNext
    refine wpAny_bind (wpAny_attempt (wpAny_callSpecial?_slot (name := Str.ofString "__next__") hT F.slot_zip_next (wpAny_call_entry F.slot_zip_next hT F.entry_zip_next ?_ (F.args_zip_next_1 _))))
    refine next_any hne few hh P a x.tup b c x.its x.sqs (fun h' ys l r z' to' it' t' zz k => wpAny_pure ?_) fun w => absurd w no
    have er := row_of l r
    subst er
    have zl : z < s.heap.objs.size := Heap.lt_size a
    have tl : TO < s.heap.objs.size := Heap.lt_size b
    exact hQ h' ⟨k _ _ P.TIz P.TITO (fun d m => (P.itTI d m).symm) x.tup, .inr ⟨_, false, _, z', t', Nat.ne_of_gt zl, Nat.ne_of_gt tl, Nat.ne_of_gt hD, fun c m => Nat.ne_of_gt (lit c m)⟩, it', fun c m => (x.sqs c m).at fun o e => k _ _ (P.lz c m) (P.lTO c m) (fun d hd => P.lit c m d hd) e⟩ t' zz k
  · have hT : s.TypeIs (.ref z) "zip" := ⟨_, a, rfl⟩
    unfold pyNext
    refine wpAny_bind (wpAny_attempt (wpAny_callSpecial?_slot (name := Str.ofString "__next__") hT F.slot_zip_next (wpAny_call_entry F.slot_zip_next hT F.entry_zip_next ?_ (F.args_zip_next_1 _))))
    refine next_out hne few hh P a b x.tup x.its x.sqs (fun h' ys l r z' it' t' zz k => wpAny_pure ?_) fun w => absurd w no
    have er := row_of l r
    subst er
    exact hQ h' ⟨k _ _ P.TIz P.TIz (fun d m => (P.itTI d m).symm) x.tup, .inr ⟨T, true, oT, z', k _ _ c c g b, c, d, e, g⟩, it', fun c m => (x.sqs c m).at fun o e => k _ _ (P.lz c m) (P.lz c m) (fun d hd => P.lit c m d hd) e⟩ t' zz fun c o c1 _ c3 e => k c o c1 c1 c3 e
theorem ZSt.done {z TI TO D : Addr} {S : List Src} {n : Nat} {Q : Option Value → Shared → Prop} (hne : S ≠ []) (few : S.length ≤ sizeLine) (hh : A.handled = none) (P : Apart z TI TO S) (x : ZSt s.heap z TI TO D S n) (hn : ∃ c ∈ S, c.xs.size ≤ n)
    (hQ : ∀ h', Kept z TO S s.heap h' → Q none { s with heap := h' }) : wpAny (model prog w) A (pyNext (.ref z)) Q E s := by
  obtain ⟨c0, m0, l0⟩ := hn
  have en : c0.xs[n]? = none := Array.getElem?_eq_none l0
  rcases x.zip with ⟨a, arr, b, c⟩ | ⟨T, f, oT, a, b, c, d, e, g⟩
  · have hT : s.TypeIs (.ref z) "zip" := ⟨_, a, rfl⟩
    unfold pyNext
    refine wpAny_bind (wpAny_attempt (wpAny_callSpecial?_slot (name := Str.ofString "__next__") hT F.slot_zip_next (wpAny_call_entry F.slot_zip_next hT F.entry_zip_next ?_ (F.args_zip_next_1 _))))
    refine next_any hne few hh P a x.tup b c x.its x.sqs (fun h' ys l r z' to' it' t' zz k => ?_) fun w h' e k he => ?_
    · obtain ⟨i, hi, ei⟩ := List.getElem_of_mem m0
      obtain ⟨y, y1, _⟩ := r i c0 (by rw [List.getElem?_eq_getElem hi, ei])
      rw [en] at y1
      cases y1
    · obtain ⟨o, ho, hc⟩ := he
      refine wpAny_bind (wpAny_isInstance (T := "StopIteration") (b := true) ⟨o, ho, hc⟩ isSubtype_stop ?_)
      exact wpAny_pure (hQ _ k)
  · have hT : s.TypeIs (.ref z) "zip" := ⟨_, a, rfl⟩
    unfold pyNext
    refine wpAny_bind (wpAny_attempt (wpAny_callSpecial?_slot (name := Str.ofString "__next__") hT F.slot_zip_next (wpAny_call_entry F.slot_zip_next hT F.entry_zip_next ?_ (F.args_zip_next_1 _))))
    refine next_out hne few hh P a b x.tup x.its x.sqs (fun h' ys l r z' it' t' zz k => ?_) fun w h' e k he => ?_
    · obtain ⟨i, hi, ei⟩ := List.getElem_of_mem m0
      obtain ⟨y, y1, _⟩ := r i c0 (by rw [List.getElem?_eq_getElem hi, ei])
      rw [en] at y1
      cases y1
    · obtain ⟨o, ho, hc⟩ := he
      refine wpAny_bind (wpAny_isInstance (T := "StopIteration") (b := true) ⟨o, ho, hc⟩ isSubtype_stop ?_)
      exact wpAny_pure (hQ _ fun c o c1 _ c3 e => k c o c1 c1 c3 e)
end
/-- the tuples that were given out, by their addresses -/
structure Rows (rows : Nat → Array Value) (lo : Addr) (h : Heap) (as : List Addr) : Prop where
  rise : as.Pairwise (· < ·)
  above : ∀ a ∈ as, lo < a
  tups : ∀ (j : Nat) (a : Addr), as[j]? = some a → IsTup h a (rows j)
theorem Rows.there {rows : Nat → Array Value} {lo : Addr} {h : Heap} {as : List Addr} (g : Rows rows lo h as) {a : Addr} (ha : a ∈ as) : a < h.objs.size := by
  obtain ⟨j, hj⟩ := List.mem_iff_getElem?.mp ha
  exact Heap.lt_size (g.tups j a hj)
section
variable {prog : Program} {w : World} {A : Around} {s : Shared} {R : Result → Shared → Prop}
/-- what is written: the zip, its tuples, its iterators; the list at D is above them -/
structure Under (z TI TO D : Addr) (S : List Src) : Prop where
  z : z < D
  TI : TI < D
  TO : TO < D
  it : ∀ c ∈ S, c.it < D
  l : ∀ c ∈ S, c.l < D
theorem list_loop {z TI TO D : Addr} {N : Nat} {S : List Src} (hne : S ≠ []) (few : S.length ≤ sizeLine) (hh : A.handled = none) (P : Apart z TI TO S) (U : Under z TI TO D S) (hN : N ≤ sizeLine) (hn : ∀ c ∈ S, N ≤ c.xs.size) (hx : ∃ c ∈ S, c.xs.size ≤ N) (res : Value) {h₁ : Heap}
    (hR : ∀ h' tk acc c as, (∀ b o, b ≠ D → Kept z TO S h₁ h' → h₁.get? b = some o → b ≠ z → b ≠ TO → (∀ d ∈ S, b ≠ d.it) → h'.get? b = some o) → h'.get? D = some { cls := .type "list", dict := none, data := .seq acc c, slots := #[] } → as.length = N → Rows (rowAt S) D h' as →
      acc.toList = as.map Value.ref → (∀ b o, b ≠ D → b ≠ z → b ≠ TO → (∀ d ∈ S, b ≠ d.it) → h₁.get? b = some o → h'.get? b = some o) → R (.ok (.ret res)) { s with heap := h', toks := tk }) :
    ∀ (k i : Nat) (h : Heap) (tk c : Nat) (acc : Array Value) (as : List Addr), N - i = k → i ≤ N → ZSt h z TI TO D S i → (∀ b o, b ≠ D → b ≠ z → b ≠ TO → (∀ d ∈ S, b ≠ d.it) → h₁.get? b = some o → h.get? b = some o) →
      h.get? D = some { cls := .type "list", dict := none, data := .seq acc c, slots := #[] } → acc.toList = as.map Value.ref → as.length = i → Rows (rowAt S) D h as →
      codeAny (model prog w) A (.builtin "list.extend.loop" ⟨[.ref D, .ref z, res], []⟩) R { s with heap := h, toks := tk } := by
  intro k
  have dit : ∀ d ∈ S, D ≠ d.it := fun d m => Nat.ne_of_gt (U.it d m)
  induction k with
  | zero =>
    intro i h tk c acc as hk hi hst hkeep hS hacc hal hG
    have hin : i = N := by omega
    subst hin
    refine codeAny_builtin PySem.F.entry_extend_loop ?_
    rw [Around.under_plainId PySem.F.plain_extend_loop _]
    show wpAny _ A.in1 (pyNext (.ref z) >>= _) _ _ _
    refine wpAny_bind (ZSt.done (s := { s with heap := h, toks := tk }) (A := A.in1) hne few hh P hst hx fun h' he => ?_)
    refine wpAny_pure (hR h' tk acc c as (fun b o h1 _ e h2 h3 h4 => he b o h2 h3 h4 (hkeep b o h1 h2 h3 h4 e)) (he D _ (Nat.ne_of_gt U.z) (Nat.ne_of_gt U.TO) dit hS) hal ⟨hG.rise, hG.above, fun j a hj => ?_⟩ hacc fun b o h1 h2 h3 h4 e => he b o h2 h3 h4 (hkeep b o h1 h2 h3 h4 e))
    have ab := hG.above a (List.mem_of_getElem? hj)
    exact he a _ (Nat.ne_of_gt (Nat.lt_trans U.z ab)) (Nat.ne_of_gt (Nat.lt_trans U.TO ab)) (fun d m => Nat.ne_of_gt (Nat.lt_trans (U.it d m) ab)) (hG.tups j a hj)
  | succ k ih =>
    intro i h tk c acc as hk hi hst hkeep hS hacc hal hG
    have hlt : i < N := by omega
    have hsz : acc.size = i := by rw [← Array.length_toList, hacc, List.length_map, hal]
    refine codeAny_builtin PySem.F.entry_extend_loop ?_
    rw [Around.under_plainId PySem.F.plain_extend_loop _]
    show wpAny _ A.in1 (pyNext (.ref z) >>= _) _ _ _
    have hDl : D < h.objs.size := Heap.lt_size hS
    refine wpAny_bind (ZSt.item (s := { s with heap := h, toks := tk }) (A := A.in1) hne few hh P hst hDl (fun c m => Nat.lt_of_lt_of_le hlt (hn c m)) fun h' hst' ht hz hkp => ?_)
    dsimp only at ht hz hkp ⊢
    have hS' := hkp D _ (Nat.ne_of_gt U.z) (Nat.ne_of_gt U.TO) dit hS
    have up : ∀ b o, b ≠ D → h'.get? b = some o → (h'.update D (Obj.mapSeq (·.push (Value.ref h.objs.size)))).get? b = some o := fun b o hb e => (Heap.get?_update_other _ _ (Ne.symm hb)).trans e
    show wpAny _ A.in1 (updateSeq D (·.push (Value.ref h.objs.size)) >>= _) _ _ _
    refine wpAny_bind ?_
    refine wpAny_updateSeq hS' rfl (wpAny_pure ⟨plainId_quiet PySem.F.plain_extend_loop _, ih (i + 1) _ tk _ (acc.push (Value.ref h.objs.size)) (as ++ [h.objs.size]) (by omega) hlt
      (hst'.keep (Nat.ne_of_lt U.z) (Nat.ne_of_lt U.TI) (Nat.ne_of_lt U.TO) (fun c m => Nat.ne_of_lt (U.it c m)) (fun c m => Nat.ne_of_lt (U.l c m)) up)
      (fun b o h1 h2 h3 h4 e => up b o h1 (hkp b o h2 h3 h4 (hkeep b o h1 h2 h3 h4 e))) (Heap.get?_update_self _ hS' rfl) (by rw [Array.toList_push, hacc, List.map_append]; rfl) (by rw [List.length_append, hal]; rfl) ⟨?_, ?_, ?_⟩⟩) (by rw [hsz]; omega) (by show (acc.push (Value.ref h.objs.size)).size ≤ sizeLine + 1; rw [Array.size_push, hsz]; omega)
    · refine List.pairwise_append.mpr ⟨hG.rise, List.pairwise_singleton _ _, fun a ha b hb => ?_⟩
      rw [List.mem_singleton.mp hb]
      exact hG.there ha
    · intro a ha
      rcases List.mem_append.mp ha with ha | ha
      · exact hG.above a ha
      · rw [List.mem_singleton.mp ha]; exact hDl
    · intro j b hj
      rcases Nat.lt_trichotomy j as.length with h1 | h1 | h1
      · rw [List.getElem?_append_left h1] at hj
        have ab := hG.above b (List.mem_of_getElem? hj)
        exact up b _ (Nat.ne_of_gt ab) (hkp b _ (Nat.ne_of_gt (Nat.lt_trans U.z ab)) (Nat.ne_of_gt (Nat.lt_trans U.TO ab)) (fun d m => Nat.ne_of_gt (Nat.lt_trans (U.it d m) ab)) (hG.tups j b hj))
      · subst h1
        have hb : h.objs.size = b := by simpa using hj
        subst hb
        rw [hal]
        exact up _ _ (Nat.ne_of_gt hDl) ht
      · have hnone : (as ++ [h.objs.size])[j]? = none := List.getElem?_eq_none (by rw [List.length_append, List.length_singleton]; omega)
        rw [hnone] at hj; cases hj
end
theorem zip_no_len : typeLookup (.type "zip") "__len__" = pure none := am_miss_of_fast (by decide +kernel)
theorem zip_no_hint : typeLookup (.type "zip") "__length_hint__" = pure none := am_miss_of_fast (by decide +kernel)
section
variable {prog : Program} {w : World} {A : Around} {E : Value → Shared → Prop} {s : Shared}
/-- list(zip(..)), the zip as it was made -/
theorem list_call {z TI TO : Addr} {N : Nat} {S : List Src} {Q : Value → Shared → Prop} (hne : S ≠ []) (few : S.length ≤ sizeLine) (hh : A.handled = none) (P : Apart z TI TO S) (U : Under z TI TO s.heap.objs.size S) (hN : N ≤ sizeLine) (hn : ∀ c ∈ S, N ≤ c.xs.size) (hx : ∃ c ∈ S, c.xs.size ≤ N)
    (st : ZSt s.heap z TI TO s.heap.objs.size S 0) (hz : IsZip s.heap z TI TO .none)
    (hQ : ∀ h' tk acc c as, (∀ b o, b ≠ z → b ≠ TO → (∀ d ∈ S, b ≠ d.it) → s.heap.get? b = some o → h'.get? b = some o) → h'.get? s.heap.objs.size = some { cls := .type "list", dict := none, data := .seq acc c, slots := #[] } → as.length = N → Rows (rowAt S) s.heap.objs.size h' as →
      acc.toList = as.map Value.ref → Q (.ref s.heap.objs.size) { s with heap := h', toks := tk }) :
    wpAny (model prog w) A (call (.type "list") [.ref z]) Q E s := by
  refine callType_codes (Q₁ := fun obj s₁ => obj = .ref s.heap.objs.size ∧ s₁ = { s with heap := s.heap.push { cls := .type "list", data := .seq #[] } }) PySem.F.called_list (PySem.F.typeCall_list_1 _) PySem.F.entry_list_init
    (code_list_new _ ⟨rfl, rfl⟩) fun obj s₁ h₁ => ?_
  obtain ⟨rfl, rfl⟩ := h₁
  generalize eD : s.heap.objs.size = D at *
  have hS : (s.heap.push { cls := .type "list", data := .seq #[] }).get? D = some { cls := .type "list", data := .seq #[] } := by rw [← eD]; exact Heap.get?_push_size _ rfl
  refine ⟨⟨_, hS, rfl⟩, PySem.F.args_list_init_2 _ _, ?_⟩
  have dn : z ≠ D := Nat.ne_of_lt U.z
  show wpAny _ _ (do let old ← Builtin.List.listItems (.ref D); Builtin.List.listUpdate (.ref D) (fun _ => #[]); letGo old.toList.reverse; Builtin.List.listExtendWith (.ref D) (.ref z) .none) _ _ _
  refine wpAny_bind ?_
  unfold Builtin.List.listItems
  refine wpAny_bind (wpAny_seqItems hS rfl (wpAny_pure ?_))
  show wpAny _ _ (updateSeq D (fun _ => #[]) >>= fun _ => letGo (#[] : Array Value).toList.reverse >>= fun _ => Builtin.List.listExtendWith (.ref D) (.ref z) .none) _ _ _
  refine wpAny_bind (wpAny_updateSeq hS rfl ?_)
  have hS2 := Heap.get?_update_self (Obj.mapSeq (fun _ => (#[] : Array Value))) hS rfl
  have up : ∀ (h : Heap) (f : Obj → Obj), (∀ b o, b ≠ D → s.heap.get? b = some o → h.get? b = some o) → ∀ b o, b ≠ D → s.heap.get? b = some o → (h.update D f).get? b = some o := fun h f q b o hb e =>
    (Heap.get?_update_other _ _ (Ne.symm hb)).trans (q b o hb e)
  have k1 : ∀ b o, b ≠ D → s.heap.get? b = some o → (s.heap.push { cls := .type "list", data := .seq #[] }).get? b = some o := fun b o _ e => Heap.get?_push_of_some _ e
  have k2 := up _ (Obj.mapSeq (fun _ => (#[] : Array Value))) k1
  refine wpAny_bind (wpAny_letGo ?_)
  unfold Builtin.List.listExtendWith
  have ty : ∀ {h : Heap} {tk : Nat}, (∀ b o, b ≠ D → s.heap.get? b = some o → h.get? b = some o) → Shared.TypeIs { s with heap := h, toks := tk } (.ref z) "zip" := fun q => ⟨_, q _ _ dn hz, rfl⟩
  refine wpAny_bind (wpAny_typeOf (T := "zip") (ty k2) ?_)
  have h1 : Builtin.List.listSameRef (.ref D) (.ref z) = false := by simp [Builtin.List.listSameRef, dn.symm]
  have h2 : (Value.type "zip" == Value.type "list") = false := by decide
  have h3 : (Value.type "zip" == Value.type "tuple") = false := by decide
  simp only [h1, h2, h3, Bool.or_false, Bool.false_eq_true, if_false]
  refine wpAny_bind (wpAny_pyIter_zip (s := { s with heap := _ }) (k2 _ _ dn hz) ?_)
  refine wpAny_bind (wpAny_holding ?_)
  unfold Builtin.List.listLengthHint
  refine wpAny_bind (wpAny_specialOf (ty k2) zip_no_len ?_)
  show wpAny _ _ (specialOf (Value.ref z) (Str.ofString "__length_hint__") >>= _) _ _ _
  refine wpAny_bind (wpAny_specialOf (ty k2) zip_no_hint ?_)
  refine wpAny_pure ?_
  show wpAny _ _ (rule "list.extend.makes-room" >>= fun _ => Builtin.List.listTouch (.ref D) >>= fun _ => again (.builtin "list.extend.loop" ⟨[.ref D, .ref z, .none], []⟩)) _ _ _
  refine wpAny_bind (wpAny_rule ?_)
  refine wpAny_bind ?_
  show wpAny _ _ (updateSeq D (·.push .none) >>= fun _ => updateSeq D (·.pop)) _ _ _
  refine wpAny_bind (wpAny_updateSeq hS2 rfl ?_)
  have hS3 := Heap.get?_update_self (Obj.mapSeq (·.push Value.none)) hS2 rfl
  refine wpAny_updateSeq (hz := by seq_fits) hS3 rfl ?_
  have hS4 := Heap.get?_update_self (Obj.mapSeq (·.pop)) hS3 rfl
  have k4 := up _ (Obj.mapSeq (·.pop)) (up _ (Obj.mapSeq (·.push Value.none)) k2)
  refine wpAny_pure ⟨plainId_quiet PySem.F.plain_extend_loop _, ?_⟩
  refine list_loop (A := A.in1) (h₁ := s.heap) hne few hh P U hN hn hx .none (fun h' tk acc c as _ g1 g2 g3 g4 g5 => ⟨rfl, hQ h' tk acc c as (fun b o h2 h3 h4 e => g5 b o (Nat.ne_of_lt (by rw [← eD]; exact Heap.lt_size e)) h2 h3 h4 e) g1 g2 g3 g4⟩) N 0 _ _ _ #[] [] (Nat.sub_zero _) (Nat.zero_le _)
    (st.keep dn (Nat.ne_of_lt U.TI) (Nat.ne_of_lt U.TO) (fun c m => Nat.ne_of_lt (U.it c m)) (fun c m => Nat.ne_of_lt (U.l c m)) k4) (fun b o h1 _ _ _ e => k4 b o h1 e) hS4 rfl rfl ⟨List.Pairwise.nil, (fun _ ha => nomatch ha), (fun j a hj => by simp at hj)⟩
end
end ZK

set_option Elab.async false
set_option linter.all false
set_option maxRecDepth 100000
set_option maxHeartbeats 2000000
/-! list(zip(..)), zip in a for, told of the abstract heap. -/
namespace ZK
open PySem PySem.Spec PyProof.Rows L2
/-- what zip is handed: lists and tuples -/
abbrev ArgV := Bool × Addr × List V
inductive AV (h : Heap) : List ArgV → List Arg → Prop
  | nil : AV h [] []
  | cons {b : Bool} {a : Addr} {xs : List V} {us : Array Value} {as : List ArgV} {L : List Arg} : ArgAt h (b, a, us) → Vals xs us.toList → AV h as L → AV h ((b, a, xs) :: as) ((b, a, us) :: L)
theorem AV.ats {h : Heap} : ∀ {as : List ArgV} {L : List Arg}, AV h as L → ∀ p ∈ L, ArgAt h p
  | _, _, .nil, _, m => absurd m List.not_mem_nil
  | _, _, .cons x _ t, p, m => by
    rcases List.mem_cons.mp m with rfl | m
    · exact x
    · exact AV.ats t p m
theorem AV.len {h : Heap} : ∀ {as : List ArgV} {L : List Arg}, AV h as L → as.length = L.length
  | _, _, .nil => rfl
  | _, _, .cons _ _ t => congrArg Nat.succ (AV.len t)
theorem AV.refs {h : Heap} : ∀ {as : List ArgV} {L : List Arg}, AV h as L → Vals (as.map fun p => V.ref p.2.1) (L.map fun p => Value.ref p.2.1)
  | _, _, .nil => .nil
  | _, _, .cons _ _ t => .cons rfl (AV.refs t)
theorem AV.size {h : Heap} : ∀ {as : List ArgV} {L : List Arg}, AV h as L → L.map (fun p => p.2.2.size) = as.map fun p => p.2.2.length
  | _, _, .nil => rfl
  | _, _, .cons _ v t => by
    have := v.length
    simp only [List.map_cons, AV.size t]
    congr 1
    rw [this]
    simp
def rowV (as : List ArgV) (n : Nat) : List V := as.map fun p => p.2.2.getD n .non
theorem vals_getD {n : Nat} : ∀ {xs : List V} {us : List Value}, Vals xs us → n < xs.length → RelV (xs.getD n .non) (us.getD n .none) := fun {xs us} v l => by
  obtain ⟨u, h1, h2⟩ := v.get (x := xs[n]) (List.getElem?_eq_getElem l)
  rw [List.getD_eq_getElem?_getD, List.getElem?_eq_getElem l, List.getD_eq_getElem?_getD, h1]
  exact h2
theorem AV.row {h : Heap} {n : Nat} : ∀ {as : List ArgV} {L : List Arg}, AV h as L → (∀ p ∈ as, n < p.2.2.length) → Vals (rowV as n) (L.map fun p => p.2.2.getD n .none)
  | _, _, .nil, _ => .nil
  | _, _, .cons (xs := xs) (us := us) _ v t, l => by
    refine .cons ?_ (AV.row t fun p m => l p (List.mem_cons_of_mem _ m))
    have := vals_getD v (l _ List.mem_cons_self)
    show RelV (xs.getD n .non) (us.getD n .none)
    rw [show us.getD n .none = us.toList.getD n .none by rw [Array.getD_eq_getD_getElem?, List.getD_eq_getElem?_getD, Array.getElem?_toList]]
    exact this
theorem row_srcs {k n : Nat} {L : List Arg} : (rowAt (srcs k L) n).toList = L.map fun p => p.2.2.getD n .none := by
  unfold rowAt srcs
  simp only [List.map_map]
  apply List.ext_getElem?
  intro i
  simp only [List.getElem?_map, List.getElem?_zipIdx]
  cases L[i]? <;> rfl
/-- how many turns there are -/
def least : List ArgV → Nat
  | [] => 0
  | [p] => p.2.2.length
  | p :: q :: r => min p.2.2.length (least (q :: r))
theorem least_le : ∀ {as : List ArgV}, ∀ p ∈ as, least as ≤ p.2.2.length
  | [], _, m => absurd m List.not_mem_nil
  | [p], q, m => by
    rw [List.mem_singleton.mp m]
    exact Nat.le_refl _
  | p :: q :: r, x, m => by
    show min p.2.2.length (least (q :: r)) ≤ _
    rcases List.mem_cons.mp m with rfl | m
    · exact Nat.min_le_left ..
    · exact Nat.le_trans (Nat.min_le_right ..) (least_le x m)
theorem least_is : ∀ {as : List ArgV}, as ≠ [] → ∃ p ∈ as, p.2.2.length = least as
  | [], h => absurd rfl h
  | [p], _ => ⟨p, List.mem_cons_self, rfl⟩
  | p :: q :: r, _ => by
    obtain ⟨x, m, e⟩ := least_is (as := q :: r) (by simp)
    rcases Nat.le_total p.2.2.length (least (q :: r)) with l | l
    · exact ⟨p, List.mem_cons_self, (Nat.min_eq_left l).symm⟩
    · exact ⟨x, List.mem_cons_of_mem _ m, e.trans (Nat.min_eq_right l).symm⟩
theorem apart_srcs {h : Heap} {n : Nat} {L : List Arg} (hl : ∀ p ∈ L, ArgAt h p) (en : n = h.objs.size) : Apart (n + L.length + 2) (n + L.length) (n + L.length + 1) (srcs n L) := by
  have lo : ∀ c ∈ srcs n L, c.l < n := fun c m => by
    obtain ⟨i, p, e, rfl⟩ := srcs_mem m
    rw [en]
    exact (hl p (List.mem_of_getElem? e)).lt
  have up : ∀ c ∈ srcs n L, n ≤ c.it ∧ c.it < n + L.length := fun c m => by
    obtain ⟨i, p, e, rfl⟩ := srcs_mem m
    have := (List.getElem?_eq_some_iff.mp e).1
    exact ⟨Nat.le_add_right .., Nat.add_lt_add_left this _⟩
  refine ⟨?_, ?_, ?_, fun c m => ?_, fun c m => ?_, fun c m => ?_, fun c m => ?_, fun c m => ?_, fun c m d md => ?_, fun i j c d e1 e2 e => ?_⟩
  · exact Nat.ne_of_lt (by omega)
  · exact Nat.ne_of_lt (by omega)
  · exact Nat.ne_of_lt (by omega)
  · exact Nat.ne_of_lt (Nat.lt_of_lt_of_le (up c m).2 (by omega))
  · exact Nat.ne_of_lt (up c m).2
  · exact Nat.ne_of_lt (Nat.lt_of_lt_of_le (up c m).2 (by omega))
  · exact Nat.ne_of_lt (Nat.lt_of_lt_of_le (lo c m) (by omega))
  · exact Nat.ne_of_lt (Nat.lt_of_lt_of_le (lo c m) (by omega))
  · exact Nat.ne_of_lt (Nat.lt_of_lt_of_le (lo c m) (up d md).1)
  · obtain ⟨p, _, rfl⟩ := srcs_get e1
    obtain ⟨q, _, rfl⟩ := srcs_get e2
    exact Nat.add_left_cancel e
section
variable {X : Cx} {pins : List (Addr × Obj)} {σ : L2.St} {H : Hp} {s : Shared}
theorem av_of (I : Inv X pins σ H s) : ∀ {as : List ArgV}, (∀ p ∈ as, if p.1 = true then SqL X.K H p.2.1 p.2.2 else SqT X.K H p.2.1 p.2.2) → ∃ L, AV s.heap as L
  | [], _ => ⟨[], .nil⟩
  | (b, a, xs) :: as, h => by
    obtain ⟨L, t⟩ := av_of I fun p m => h p (List.mem_cons_of_mem _ m)
    have h0 := h _ List.mem_cons_self
    cases b with
    | true =>
      obtain ⟨its, rv, p, _⟩ := I.list h0
      exact ⟨(true, a, its.toArray) :: L, .cons p.isList (by simpa using rv) t⟩
    | false =>
      obtain ⟨its, rv, p, _⟩ := I.tuple h0
      exact ⟨(false, a, its.toArray) :: L, .cons (show s.heap.IsTuple a its.toArray from p) (by simpa using rv) t⟩
/-- zip is called -/
theorem zip_called {as : List ArgV} {us : List Value} {Q : Value → Shared → Prop} (I : Inv X pins σ H s) (ha : ∀ p ∈ as, if p.1 = true then SqL X.K H p.2.1 p.2.2 else SqT X.K H p.2.1 p.2.2) (ne : as ≠ []) (few : as.length ≤ 24) (r : Vals (as.map fun p => V.ref p.2.1) us)
    (q : ∀ (L : List Arg) (h' : Heap), AV s.heap as L → Inv X pins σ H { s with heap := h' } → Apart (s.heap.objs.size + L.length + 2) (s.heap.objs.size + L.length) (s.heap.objs.size + L.length + 1) (srcs s.heap.objs.size L) → srcs s.heap.objs.size L ≠ [] → L.length ≤ 24 →
      (∀ D, h'.objs.size ≤ D → ZSt h' (s.heap.objs.size + L.length + 2) (s.heap.objs.size + L.length) (s.heap.objs.size + L.length + 1) D (srcs s.heap.objs.size L) 0) → IsZip h' (s.heap.objs.size + L.length + 2) (s.heap.objs.size + L.length) (s.heap.objs.size + L.length + 1) .none →
      h'.objs.size = s.heap.objs.size + L.length + 3 → (∀ b o, s.heap.get? b = some o → h'.get? b = some o) → Q (.ref (s.heap.objs.size + L.length + 2)) { s with heap := h' }) : wpAny (model X.prog X.w) X.A (call (.type "zip") us) Q X.xe s := by
  obtain ⟨L, av⟩ := av_of I ha
  have eu : us = L.map fun p => Value.ref p.2.1 := by
    have go : ∀ {xs : List V} {us ws : List Value}, (∀ x ∈ xs, ∃ a, x = V.ref a) → Vals xs us → Vals xs ws → us = ws := by
      intro xs us ws hx h1
      induction h1 generalizing ws with
      | nil =>
        intro h2
        cases h2
        rfl
      | @cons x u xr ur e t ih =>
        intro h2
        cases h2 with
        | cons e2 t2 =>
          obtain ⟨a, ea⟩ := hx _ List.mem_cons_self
          subst ea
          have e1 : u = Value.ref a := e
          rw [e1, show _ = Value.ref a from e2, ih (fun y m => hx y (List.mem_cons_of_mem _ m)) t2]
    exact go (fun x m => by
      obtain ⟨p, _, rfl⟩ := List.mem_map.mp m
      exact ⟨_, rfl⟩) r av.refs
  subst eu
  have l24 : L.length ≤ 24 := by rw [← av.len]; exact few
  refine callType_new F.called_zip (by decide) (typeCall_many _) (newCall_many _ (by rw [List.length_map]; exact l24)) (fun obj => init_many obj _) F.entry_zip_new (meets_new L l24) ⟨av.ats, fun h' hz hTI hTO its hsz hk => ?_⟩
  show _ ∧ _
  refine ⟨⟨_, hz, rfl⟩, q L h' av (I.kept (t' := s.toks) hk) (apart_srcs av.ats rfl) (fun e => ?_) l24 (fun D lD => ⟨hTI, .inl ⟨hz, ?_⟩, its, fun c m => ?_⟩) hz hsz hk⟩
  · have l1 := srcs_len (n := s.heap.objs.size) (L := L)
    have l2 := av.len
    rw [e] at l1
    exact ne (List.eq_nil_of_length_eq_zero (by rw [l2, ← l1]; rfl))
  · obtain ⟨arr, h1, h2⟩ := hTO
    exact ⟨arr, h1, by rw [srcs_len]; exact h2⟩
  · obtain ⟨i, p, e, rfl⟩ := srcs_mem m
    have pa := (av.ats p (List.mem_of_getElem? e)).at fun o e => hk _ _ e
    exact pa
end
/-- the tuples tracked at their addresses -/
def putR : Hp → List Addr → List (List V) → Hp
  | H, a :: as, p :: ps => putR (upd H a (.tup p)) as ps
  | H, _, _ => H
theorem putR_off {b : Addr} : ∀ (as : List Addr) (ps : List (List V)) (H : Hp), b ∉ as → putR H as ps b = H b
  | [], _, _, _ => rfl
  | _ :: _, [], _, _ => rfl
  | a :: as, p :: ps, H, h => by
    show putR (upd H a (.tup p)) as ps b = H b
    rw [putR_off as ps _ (fun z => h (List.mem_cons_of_mem _ z)), upd_ne (fun z => h (by rw [z]; exact List.mem_cons_self))]
theorem putR_at : ∀ (as : List Addr) (ps : List (List V)) (H : Hp), as.length = ps.length → as.Nodup → Paired (fun (t : Addr) (p : List V) => putR H as ps t = some (.tup p)) as ps
  | [], [], _, _, _ => .nil
  | [], _ :: _, _, h, _ => by cases h
  | _ :: _, [], _, h, _ => by cases h
  | a :: as, p :: ps, H, h, hn => by
    have hn' := List.nodup_cons.mp hn
    refine .cons ?_ (putR_at as ps (upd H a (.tup p)) (Nat.succ.inj h) hn'.2)
    show putR (upd H a (.tup p)) as ps a = some (.tup p)
    rw [putR_off as ps _ hn'.1, upd_same]
section
variable {X : Cx} {pins : List (Addr × Obj)} {σ : L2.St} {H : Hp} {s : Shared}
theorem rows_laid {h' : Heap} {tk : Nat} {D : Addr} {acc : Array Value} {c : Nat} {as : List Addr} {ps : List (List V)} {rows : Nat → Array Value} (I : Inv X pins σ H s) (hD : s.heap.objs.size ≤ D) (hz : ps.length ≤ sizeLine)
    (hk : ∀ b o, s.heap.get? b = some o → h'.get? b = some o) (hS : h'.get? D = some { cls := .type "list", dict := none, data := .seq acc c, slots := #[] }) (hl : as.length = ps.length) (hG : Rows rows D h' as) (hacc : acc.toList = as.map Value.ref)
    (hp : ∀ (j : Nat) (p : List V), ps[j]? = some p → Vals p (rows j).toList ∧ p.length ≤ sizeLine) :
    ∃ H' : Hp, Same H H' ∧ H D = none ∧ (∀ t ∈ as, H t = none) ∧ D ∉ as ∧ H' D = some (.lst (as.map V.ref)) ∧ Paired (fun (t : Addr) (p : List V) => H' t = some (.tup p)) as ps ∧ (∀ b, b ≠ D → b ∉ as → H' b = H b) ∧ Inv X pins σ H' { s with heap := h', toks := tk } := by
  have hSn : D ∉ as := fun z => Nat.lt_irrefl _ (hG.above _ z)
  have nd : as.Nodup := List.Pairwise.imp (fun {a b} (h : a < b) => Nat.ne_of_lt h) hG.rise
  have new : ∀ t ∈ as, H t = none := fun t ht => I.hok.fresh (Nat.le_trans hD (Nat.le_of_lt (hG.above t ht)))
  have newS : H D = none := I.hok.fresh hD
  have atP := putR_at as ps (upd H D (.lst (as.map V.ref))) hl nd
  have off : ∀ b, b ∉ as → b ≠ D → putR (upd H D (.lst (as.map V.ref))) as ps b = H b := fun b h1 h2 => by rw [putR_off as ps _ h1, upd_ne h2]
  have low : ∀ b o, s.heap.get? b = some o → b ∉ as ∧ b ≠ D := fun b o e => ⟨fun z => absurd (Nat.lt_of_lt_of_le (Heap.lt_size e) hD) (Nat.not_lt.mpr (Nat.le_of_lt (hG.above b z))), Nat.ne_of_lt (Nat.lt_of_lt_of_le (Heap.lt_size e) hD)⟩
  have kp : ∀ b u, H b = some u → (putR (upd H D (.lst (as.map V.ref))) as ps) b = some u := fun b u e => by
    rw [off b (fun z => by rw [new b z] at e; cases e) (fun z => by rw [z, newS] at e; cases e)]
    exact e
  have eS : putR (upd H D (.lst (as.map V.ref))) as ps D = some (.lst (as.map V.ref)) := by rw [putR_off as ps _ hSn, upd_same]
  refine ⟨putR (upd H D (.lst (as.map V.ref))) as ps, kp, newS, new, hSn, eS, atP, fun b h1 h2 => off b h2 h1, ?_⟩
  refine I.call' (ch := []) rfl ⟨fun b o q _ _ _ => hk b o q, fun b o q _ _ _ => ⟨o.slots, hk b o q⟩, fun b o q n _ => ?_, fun b o q _ => ⟨o, hk b o q⟩, fun b xs q => kp b _ q, fun b o u q => kp b _ q, fun b ps' q => ⟨#[], by rw [kp b _ q]; simp⟩⟩ (fun b u q => ?_) I.bare fun b z => by simp at z
  · obtain ⟨z1, z2⟩ := low b o q
    rw [off b z1 z2]
    exact n
  · by_cases hb : b ∈ as
    · obtain ⟨j, pk, e1, e2, e3⟩ := LiI.paired_ix atP hb
      rw [e3] at q
      cases q
      obtain ⟨v1, v2⟩ := hp j pk e2
      have tj := hG.tups j b e1
      exact ⟨v2, (rows j).toList, v1, ⟨_, tj, rfl, 0, by rw [Array.toArray_toList]⟩⟩
    · by_cases hb2 : b = D
      · rw [hb2] at q ⊢
        rw [eS] at q
        cases q
        refine ⟨by rw [List.length_map]; omega, acc.toList, c, by rw [hacc]; exact LiI.vals_refs as, ?_⟩
        rw [Array.toArray_toList]
        exact hS
      · rw [off b hb hb2] at q
        exact (I.hok b u q).stay (fun d v _ y => hk d v y) (fun d y => kp d _ y) fun d xs y => kp d _ y
/-- what zip is asked -/
def ZArgs (K : PySem.W.Frag) (H : Hp) (vs : List V) (as : List ArgV) : Prop := vs = as.map (fun p => V.ref p.2.1) ∧ as ≠ [] ∧ as.length ≤ 24 ∧ ∀ p ∈ as, if p.1 = true then SqL K H p.2.1 p.2.2 else SqT K H p.2.1 p.2.2
def rowsV (as : List ArgV) : List (List V) := (List.range (least as)).map (rowV as)
def rListZip (K : PySem.W.Frag) : List V → Hp → VK → Prop := fun vs H Q => ∃ as, ZArgs K H vs as ∧
  ∀ (H' : Hp) (p : Addr) (ts : List Addr), Same H H' → H p = none → (∀ t ∈ ts, H t = none) → p ∉ ts → H' p = some (.lst (ts.map V.ref)) → Paired (fun (t : Addr) (q : List V) => H' t = some (.tup q)) ts (rowsV as) → (∀ b, b ≠ p → b ∉ ts → H' b = H b) → Q (.ref p) H'
theorem list_zip {as : List ArgV} {us : List Value} {Q : VK} (I : Inv X pins σ H s) (hc : X.calm = true) (r : Vals (as.map fun p => V.ref p.2.1) us) (za : ZArgs X.K H (as.map fun p => V.ref p.2.1) as)
    (q : ∀ (H' : Hp) (p : Addr) (ts : List Addr), Same H H' → H p = none → (∀ t ∈ ts, H t = none) → p ∉ ts → H' p = some (.lst (ts.map V.ref)) → Paired (fun (t : Addr) (q : List V) => H' t = some (.tup q)) ts (rowsV as) → (∀ b, b ≠ p → b ∉ ts → H' b = H b) → Q (.ref p) H') :
    wpAny (model X.prog X.w) X.A (call (.type "zip") us) (fun u s2 => wpAny (model X.prog X.w) X.A (call (.type "list") [u]) (fun u s3 => ∃ v H', Inv X pins σ H' s3 ∧ RelV v u ∧ Q v H') X.xe s2) X.xe s := by
  obtain ⟨_, ne, few, ha⟩ := za
  refine zip_called I ha ne few r fun L h2 av I2 P hne l24 st hz hsz hk => ?_
  have fit : (srcs s.heap.objs.size L).length ≤ sizeLine := by rw [srcs_len]; exact Nat.le_trans l24 (by decide)
  have sz : ∀ c ∈ srcs s.heap.objs.size L, least as ≤ c.xs.size := fun c m => by
    obtain ⟨i, p, e, rfl⟩ := srcs_mem m
    have z := av.size
    have : (L.map fun p => p.2.2.size)[i]? = some p.2.2.size := by rw [List.getElem?_map, e]; rfl
    rw [z, List.getElem?_map] at this
    cases ea : as[i]? with
    | none => rw [ea] at this; cases this
    | some pa =>
      rw [ea] at this
      have w := least_le pa (List.mem_of_getElem? ea)
      have t2 := Option.some.inj this
      show least as ≤ p.2.2.size
      rw [← t2]
      exact w
  have hx : ∃ c ∈ srcs s.heap.objs.size L, c.xs.size ≤ least as := by
    obtain ⟨pa, m, e⟩ := least_is ne
    obtain ⟨i, hi, ei⟩ := List.getElem_of_mem m
    have z := av.size
    have : (as.map fun p => p.2.2.length)[i]? = some pa.2.2.length := by rw [List.getElem?_map, List.getElem?_eq_getElem hi, ei]; rfl
    rw [← z, List.getElem?_map] at this
    cases el : L[i]? with
    | none => rw [el] at this; cases this
    | some p =>
      rw [el] at this
      refine ⟨⟨p.1, s.heap.objs.size + i, p.2.1, p.2.2⟩, ?_, ?_⟩
      · have : (srcs s.heap.objs.size L)[i]? = some ⟨p.1, s.heap.objs.size + i, p.2.1, p.2.2⟩ := by
          unfold srcs
          rw [List.getElem?_map, List.getElem?_zipIdx, el]
          rfl
        exact List.mem_of_getElem? this
      · have t2 := Option.some.inj this
        show p.2.2.size ≤ _
        rw [show p.2.2.size = pa.2.2.length from t2, e]
        exact Nat.le_refl _
  have small : least as ≤ sizeLine := by
    obtain ⟨pa, m, e⟩ := least_is ne
    have h0 := ha pa m
    rw [← e]
    by_cases b : pa.1 = true
    · rw [if_pos b] at h0
      obtain ⟨_, _, _, l⟩ := I.list h0
      exact l
    · rw [if_neg b] at h0
      obtain ⟨_, _, _, l⟩ := I.tuple h0
      exact l
  have below : ∀ c ∈ srcs s.heap.objs.size L, c.l < s.heap.objs.size ∧ s.heap.objs.size ≤ c.it ∧ c.it < s.heap.objs.size + L.length := fun c m => by
    obtain ⟨i, p, e, rfl⟩ := srcs_mem m
    have := (List.getElem?_eq_some_iff.mp e).1
    exact ⟨(av.ats p (List.mem_of_getElem? e)).lt, Nat.le_add_right .., Nat.add_lt_add_left this _⟩
  have U : Under (s.heap.objs.size + L.length + 2) (s.heap.objs.size + L.length) (s.heap.objs.size + L.length + 1) h2.objs.size (srcs s.heap.objs.size L) := by
    rw [hsz]
    refine ⟨?_, ?_, ?_, fun c m => ?_, fun c m => ?_⟩
    · exact Nat.lt_succ_self _
    · exact Nat.lt_add_of_pos_right (by decide)
    · exact Nat.lt_succ_of_lt (Nat.lt_succ_self _)
    · exact Nat.lt_of_lt_of_le (below c m).2.2 (Nat.le_add_right ..)
    · exact Nat.lt_of_lt_of_le (below c m).1 (Nat.le_trans (Nat.le_add_right ..) (Nat.le_add_right ..))
  refine list_call (s := { s with heap := h2 }) (N := least as) hne fit (I2.ok.hd hc) P U small sz hx (st _ (Nat.le_refl _)) hz fun h' tk acc c ts k1 k2 k3 k4 k5 => ?_
  have keep : ∀ b o, s.heap.get? b = some o → h'.get? b = some o := fun b o e => by
    have lb : b < s.heap.objs.size := Heap.lt_size e
    refine k1 b o ?_ ?_ (fun d m => ?_) (hk b o e)
    · exact Nat.ne_of_lt (Nat.lt_of_lt_of_le lb (Nat.le_trans (Nat.le_add_right ..) (Nat.le_add_right ..)))
    · exact Nat.ne_of_lt (Nat.lt_of_lt_of_le lb (Nat.le_trans (Nat.le_add_right ..) (Nat.le_add_right ..)))
    · exact Nat.ne_of_lt (Nat.lt_of_lt_of_le lb (below d m).2.1)
  have lr : (rowsV as).length = least as := by simp [rowsV]
  obtain ⟨H', a1, a2, a3, a4, a5, a6, a7, J⟩ := rows_laid (tk := tk) (D := h2.objs.size) (ps := rowsV as) I (by rw [hsz]; exact Nat.le_trans (Nat.le_add_right ..) (Nat.le_add_right ..)) (by rw [lr]; exact small) keep k2 (by rw [k3, lr]) k4 k5 fun j p e => by
    unfold rowsV at e
    rw [List.getElem?_map] at e
    cases ej : (List.range (least as))[j]? with
    | none => rw [ej] at e; cases e
    | some j' =>
      rw [ej] at e
      have jl : j < least as := by
        have := (List.getElem?_eq_some_iff.mp ej).1
        rwa [List.length_range] at this
      have : j' = j := by
        rw [List.getElem?_range jl] at ej
        exact (Option.some.inj ej).symm
      subst this
      cases e
      refine ⟨?_, ?_⟩
      · rw [row_srcs]
        exact av.row fun p m => Nat.lt_of_lt_of_le jl (least_le p m)
      · show (rowV as j').length ≤ sizeLine
        unfold rowV
        rw [List.length_map]
        exact Nat.le_trans few (by decide)
  exact ⟨.ref _, H', J, rfl, q H' _ ts a1 a2 a3 a4 a5 a6 a7⟩
end
section
variable {X : Cx} {e : Expr} {es : List Expr} {ta : TA} {te : TE} {p p2 pos pos2 sp : Pos}
/-- list(zip(e, ..)) -/
theorem pe_listZip (hc : X.calm = true) (hg : Gl X "list") (hm : X.mg "list" = none) (hg2 : Gl X "zip") (hm2 : X.mg "zip" = none) (ha : PA X (e :: es) ta)
    (he : starEach (e :: es) X.env = (false, eval e X.env) :: starEach es X.env := by rfl) (hpl : (backTo pos2 (starEach es X.env)).any (·.1) = false := by rfl)
    (hs : starEach [.Call (.Name "zip" p2) (e :: es) [] pos2] X.env = (false, eval (.Call (.Name "zip" p2) (e :: es) [] pos2) X.env) :: starEach [] X.env := by rfl) :
    PE X (.Call (.Name "list" p) [.Call (.Name "zip" p2) (e :: es) [] pos2] [] pos) (tCB (rListZip X.K) ta) := by
  refine ⟨fun pins s σ H Q I h => ?_⟩
  refine wpAny_Call_Name_kw (ld_blt I hg hm PyProof.Rows.boot_list ?_)
  refine PyProof.Rows.callWith_type1 ?_ hs rfl
  rw [hs]
  show wpAny _ _ (spliced ((false, eval (.Call (.Name "zip" p2) (e :: es) [] pos2) X.env) :: backTo pos (starEach [] X.env))) _ _ s
  refine Calls.spliced_cons ?_
  refine Call_ (ld_blt I hg2 hm2 PyProof.Rows.boot_zip (PyProof.Rows.callWith_type1 (thn (ha.run pos2 pins s σ H _ I h) fun us s1 ⟨vs, H1, I1, r1, as, za, q⟩ => ?_) he hpl))
  obtain ⟨rfl, _⟩ := id za
  refine wpAny_mono (list_zip I1 hc r1 za q) (fun u s2 w => ?_) (fun _ _ z => z)
  refine Calls.spliced_nil ?_
  exact w
end
end ZK

set_option Elab.async false
set_option linter.all false
set_option maxRecDepth 100000
set_option maxHeartbeats 2000000
/-! list(zip(*..)); zip in a for. -/
namespace ZK
open PySem PySem.Spec PyProof.Rows L2
section
variable {X : Cx} {e : Expr} {es : List Expr} {ta : TA} {te : TE} {p p2 pos pos2 sp : Pos}
theorem keeper_type {P : Program} {w : World} {T : String} {h : Heap} : ∃ k, (k = Keeper.frame ∨ k = Keeper.machine ∨ k = Keeper.boundFrame) ∧ PySem.W.Looks (model P w) h (keeperOf (.type T)) k := ⟨_, .inr (.inl rfl), fun A Q E s k q => wpAny_pure q⟩
/-- list(zip(*e)) -/
theorem pe_listZipS (hc : X.calm = true) (hg : Gl X "list") (hm : X.mg "list" = none) (hg2 : Gl X "zip") (hm2 : X.mg "zip" = none) (he : PE X e te)
    (hst : starEach [.Starred e sp] X.env = [(true, eval e X.env)] := by rfl)
    (hs : starEach [.Call (.Name "zip" p2) [.Starred e sp] [] pos2] X.env = (false, eval (.Call (.Name "zip" p2) [.Starred e sp] [] pos2) X.env) :: starEach [] X.env := by rfl) :
    PE X (.Call (.Name "list" p) [.Call (.Name "zip" p2) [.Starred e sp] [] pos2] [] pos) (fun σ H Q => te σ H fun x H1 => ∃ a xs, x = V.ref a ∧ (SqT X.K H1 a xs ∨ SqL X.K H1 a xs) ∧ rListZip X.K xs H1 Q) := by
  refine ⟨fun pins s σ H Q I h => ?_⟩
  refine wpAny_Call_Name_kw (ld_blt I hg hm PyProof.Rows.boot_list ?_)
  refine PyProof.Rows.callWith_type1 ?_ hs rfl
  rw [hs]
  show wpAny _ _ (spliced ((false, eval (.Call (.Name "zip" p2) [.Starred e sp] [] pos2) X.env) :: backTo pos (starEach [] X.env))) _ _ s
  refine Calls.spliced_cons ?_
  refine wpAny_Call_Name_kw (ld_blt I hg2 hm2 PyProof.Rows.boot_zip ?_)
  rw [hst]
  refine PySem.W.ks_call (P := fun _ => True) rfl (fun _ _ => keeper_type) ?_
  refine PySem.W.ks_lone (thn (he.run pins s σ H _ I h) fun v s1 ⟨y, H1, I1, ry, a, xs, ey, hxs, as, za, q⟩ => ?_)
  subst ey
  obtain rfl : v = Value.ref a := ry
  refine StX.star_any I1 hxs fun us s2 I2 rv => ⟨trivial, ?_⟩
  obtain ⟨rfl, _⟩ := id za
  refine wpAny_mono (list_zip I2 hc rv za q) (fun u s2 w => ?_) (fun _ _ z => z)
  refine Calls.spliced_nil ?_
  exact w
end
/-! ### zip in a for -/
theorem apart_low {n : Nat} {L : List Arg} (hl : ∀ p ∈ L, p.2.1 < n) : Apart (n + L.length + 2) (n + L.length) (n + L.length + 1) (srcs n L) := by
  have lo : ∀ c ∈ srcs n L, c.l < n := fun c m => by
    obtain ⟨i, p, e, rfl⟩ := srcs_mem m
    exact hl p (List.mem_of_getElem? e)
  have up : ∀ c ∈ srcs n L, n ≤ c.it ∧ c.it < n + L.length := fun c m => by
    obtain ⟨i, p, e, rfl⟩ := srcs_mem m
    have := (List.getElem?_eq_some_iff.mp e).1
    exact ⟨Nat.le_add_right .., Nat.add_lt_add_left this _⟩
  refine ⟨?_, ?_, ?_, fun c m => ?_, fun c m => ?_, fun c m => ?_, fun c m => ?_, fun c m => ?_, fun c m d md => ?_, fun i j c d e1 e2 e => ?_⟩
  · exact Nat.ne_of_lt (by omega)
  · exact Nat.ne_of_lt (by omega)
  · exact Nat.ne_of_lt (by omega)
  · exact Nat.ne_of_lt (Nat.lt_of_lt_of_le (up c m).2 (by omega))
  · exact Nat.ne_of_lt (up c m).2
  · exact Nat.ne_of_lt (Nat.lt_of_lt_of_le (up c m).2 (by omega))
  · exact Nat.ne_of_lt (Nat.lt_of_lt_of_le (lo c m) (by omega))
  · exact Nat.ne_of_lt (Nat.lt_of_lt_of_le (lo c m) (by omega))
  · exact Nat.ne_of_lt (Nat.lt_of_lt_of_le (lo c m) (up d md).1)
  · obtain ⟨p, _, rfl⟩ := srcs_get e1
    obtain ⟨q, _, rfl⟩ := srcs_get e2
    exact Nat.add_left_cancel e
abbrev KA := Bool × Addr
def keysOf (vs : List ArgV) : List KA := vs.map fun p => (p.1, p.2.1)
def Reads (K : PySem.W.Frag) (H : Hp) (as : List KA) (vs : List ArgV) : Prop := keysOf vs = as ∧ ∀ p ∈ vs, if p.1 = true then SqL K H p.2.1 p.2.2 else SqT K H p.2.1 p.2.2
/-- the lists and tuples as they stand at each turn, the items in new tuples -/
def ItZ (K : PySem.W.Frag) (as : List KA) : It :=
  ⟨fun i H => ∃ vs, Reads K H as vs ∧ ∀ p ∈ vs, i < p.2.2.length,
    fun i H v H' => ∃ T row, v = .ref T ∧ H T = none ∧ H' = upd H T (.tup row) ∧ ∀ vs, Reads K H as vs → row = rowV vs i,
    fun i H => ∃ vs, Reads K H as vs ∧ ∃ p ∈ vs, p.2.2.length ≤ i⟩
theorem av_keys {h : Heap} : ∀ {as : List ArgV} {L : List Arg}, AV h as L → L.map (fun p => (p.1, p.2.1)) = keysOf as
  | _, _, .nil => rfl
  | _, _, .cons _ _ t => by
    show _ :: _ = _ :: _
    rw [av_keys t]
    rfl
theorem reads_inj {X : Cx} {pins : List (Addr × Obj)} {σ : L2.St} {H : Hp} {s : Shared} (I : Inv X pins σ H s) : ∀ {as : List KA} {vs ws : List ArgV}, Reads X.K H as vs → Reads X.K H as ws → vs = ws
  | as, [], [], _, _ => rfl
  | as, [], w :: ws, h, g => by
    have := h.1.trans g.1.symm
    cases this
  | as, v :: vs, [], h, g => by
    have := h.1.trans g.1.symm
    cases this
  | as, (b, a, xs) :: vs, (b', a', ys) :: ws, h, g => by
    have e : (b, a) :: keysOf vs = (b', a') :: keysOf ws := h.1.trans g.1.symm
    obtain ⟨e1, e2⟩ := List.cons.inj e
    obtain ⟨rfl, rfl⟩ := Prod.mk.inj e1
    have h0 := h.2 _ List.mem_cons_self
    have g0 := g.2 _ List.mem_cons_self
    have t : vs = ws := reads_inj I (as := keysOf vs) ⟨rfl, fun p m => h.2 p (List.mem_cons_of_mem _ m)⟩ ⟨e2.symm, fun p m => g.2 p (List.mem_cons_of_mem _ m)⟩
    have x : xs = ys := by
      cases b with
      | true => exact I.list_inj h0 g0
      | false => exact I.tuple_inj h0 g0
    rw [t, x]
structure TnZ (n : Nat) (as : List KA) (i : Nat) (h : Heap) : Prop where
  zip : IsZip h (n + as.length + 2) (n + as.length) (n + as.length + 1) .none
  tup : IsTup h (n + as.length) ((List.range as.length).map fun j => Value.ref (n + j)).toArray
  out : ∃ arr : Array Value, IsTup h (n + as.length + 1) arr ∧ arr.size = as.length
  its : ∀ (j : Nat) (q : KA), as[j]? = some q → ItAt h ⟨q.1, n + j, q.2, #[]⟩ i
theorem srcs_its {n : Nat} {L : List Arg} : (srcs n L).map (fun c => Value.ref c.it) = (List.range L.length).map fun j => Value.ref (n + j) := by
  apply List.ext_getElem?
  intro j
  unfold srcs
  simp only [List.getElem?_map, List.getElem?_zipIdx]
  by_cases hj : j < L.length
  · rw [List.getElem?_eq_getElem hj, List.getElem?_range hj]
    rfl
  · rw [List.getElem?_eq_none (by omega), List.getElem?_eq_none (by rw [List.length_range]; omega)]
    rfl
theorem turn_zipK {P : Program} {w : World} {K : PySem.W.Frag} {elts : List Expr} {kk : Nat} {tpos : Pos} {as : List KA} {n : Nat} (ne : as ≠ []) (few : as.length ≤ 24) (low : ∀ q ∈ as, q.2 < n) :
    Turn P w K (.Tuple elts kk tpos) (ItZ K as) ((n + as.length + 2) :: (n + as.length) :: (n + as.length + 1) :: (List.range as.length).map (n + ·)) (n + as.length + 2) (TnZ n as) where
  mem := by simp
  obj := fun i h st c hc => by
    rcases List.mem_cons.mp hc with q | hc
    · rw [q]; exact ⟨_, st.zip, fun v q => nomatch q⟩
    rcases List.mem_cons.mp hc with q | hc
    · rw [q]; exact ⟨_, st.tup, fun v q => nomatch q⟩
    rcases List.mem_cons.mp hc with q | hc
    · obtain ⟨arr, e, _⟩ := st.out
      rw [q]; exact ⟨_, e, fun v q => nomatch q⟩
    obtain ⟨j, hj, rfl⟩ := List.mem_map.mp hc
    have jl := List.mem_range.mp hj
    exact (st.its j as[j] (List.getElem?_eq_getElem jl)).lt
  keep := fun i h h' st k => by
    refine ⟨k _ (by simp) _ st.zip, k _ (by simp) _ st.tup, ?_, fun j q e => (st.its j q e).at fun o z => k _ ?_ o z⟩
    · obtain ⟨arr, e, l⟩ := st.out
      exact ⟨arr, k _ (by simp) _ e, l⟩
    · have := (List.getElem?_eq_some_iff.mp e).1
      exact List.mem_cons_of_mem _ (List.mem_cons_of_mem _ (List.mem_cons_of_mem _ (List.mem_map.mpr ⟨j, List.mem_range.mpr this, rfl⟩)))
  item := by
    intro X hP hw hK hc i pins s σ H E I hf st hg
    subst hP hw hK
    obtain ⟨vs, rd, lt⟩ := hg
    obtain ⟨L, av⟩ := av_of I rd.2
    have kl : L.map (fun p => (p.1, p.2.1)) = as := (av_keys av).trans rd.1
    have ll : L.length = as.length := by rw [← kl, List.length_map]
    have gt : ∀ (j : Nat) (p : Arg), L[j]? = some p → as[j]? = some (p.1, p.2.1) := fun j p e => by rw [← kl, List.getElem?_map, e]; rfl
    have A : Apart (n + L.length + 2) (n + L.length) (n + L.length + 1) (srcs n L) := apart_low fun p m => by
      obtain ⟨j, hj, e⟩ := List.getElem_of_mem m
      exact low _ (List.mem_of_getElem? (gt j p (by rw [List.getElem?_eq_getElem hj, e])))
    rw [ll] at A
    have sl := srcs_len (n := n) (L := L)
    have sne : srcs n L ≠ [] := fun e => ne (List.eq_nil_of_length_eq_zero (by rw [← ll, ← sl, e]; rfl))
    have sit : ∀ c ∈ srcs n L, ItAt s.heap c i := fun c m => by
      obtain ⟨j, p, e, rfl⟩ := srcs_mem m
      exact st.its j _ (gt j p e)
    have ssq : ∀ c ∈ srcs n L, SqAt s.heap c := fun c m => by
      obtain ⟨j, p, e, rfl⟩ := srcs_mem m
      exact av.ats p (List.mem_of_getElem? e)
    obtain ⟨arr, to, al⟩ := st.out
    have tup : IsTup s.heap (n + as.length) ((srcs n L).map fun c => Value.ref c.it).toArray := by
      rw [srcs_its, ll]
      exact st.tup
    have hzl : n + as.length + 2 < s.heap.objs.size := Heap.lt_size st.zip
    have hT : s.TypeIs (.ref (n + as.length + 2)) "zip" := ⟨_, st.zip, rfl⟩
    have l24 : L.length ≤ 24 := by rw [ll]; exact few
    unfold pyNext
    refine wpAny_bind (wpAny_attempt (wpAny_callSpecial?_slot (name := Str.ofString "__next__") hT F.slot_zip_next (wpAny_call_entry F.slot_zip_next hT F.entry_zip_next ?_ (F.args_zip_next_1 _))))
    refine next_any sne (by rw [sl]; exact Nat.le_trans l24 (by decide)) (I.ok.hd hc) A st.zip tup to (by rw [al, sl, ll]) sit ssq (fun h' ys l r z' to' it' t' zz k => wpAny_pure ?_) fun wt => ?_
    · have er := row_of l r
      subst er
      refine ⟨_, rfl, wpAny_letOwnedTupleGo_zip (s := { s with heap := h' }) z' fun h'' z'' sb => ?_⟩
      have tn : IsTup h'' s.heap.objs.size (rowAt (srcs n L) i) := (sb.2 _ (Nat.ne_of_gt hzl)).trans t'
      have kr : Vals (rowV vs i) (rowAt (srcs n L) i).toList := by
        rw [row_srcs]
        exact av.row lt
      have new : ObjOk X.prog X.w (upd H s.heap.objs.size (.tup (rowV vs i))) h'' s.heap.objs.size (.tup (rowV vs i)) :=
        ⟨by unfold rowV; rw [List.length_map, av.len]; exact Nat.le_trans l24 (by decide), (rowAt (srcs n L) i).toList, kr, ⟨_, tn, rfl, 0, by rw [Array.toArray_toList]⟩⟩
      have nin : ∀ c, c ∉ ((n + as.length + 2) :: (n + as.length) :: (n + as.length + 1) :: (List.range as.length).map (n + ·)) → c ≠ n + as.length + 2 ∧ c ≠ n + as.length + 1 ∧ ∀ d ∈ srcs n L, c ≠ d.it := fun c hb => by
        refine ⟨fun q => hb (by rw [q]; simp), fun q => hb (by rw [q]; simp), fun d m q => ?_⟩
        obtain ⟨j, p, e, rfl⟩ := srcs_mem m
        have jl := (List.getElem?_eq_some_iff.mp e).1
        rw [ll] at jl
        exact hb (List.mem_cons_of_mem _ (List.mem_cons_of_mem _ (List.mem_cons_of_mem _ (List.mem_map.mpr ⟨j, List.mem_range.mpr jl, q.symm⟩))))
      have I1 : Inv X pins σ (upd H s.heap.objs.size (.tup (rowV vs i))) { s with heap := h'' } :=
        I.turnedNew (t' := s.toks) (ch := (n + as.length + 2) :: (n + as.length) :: (n + as.length + 1) :: (List.range as.length).map (n + ·)) (fun c o hb q => by
          obtain ⟨q1, q2, q3⟩ := nin c hb
          exact (sb.2 c q1).trans (k c o q1 q2 q3 q)) hf (Nat.le_refl _) new
      refine ⟨.ref s.heap.objs.size, _, I1, rfl, ⟨_, _, rfl, I.hok.fresh (Nat.le_refl _), rfl, fun ws hw => by rw [reads_inj I hw rd]⟩, ⟨z'', ?_, ?_, fun j q e => ?_⟩, fun c hcm => ?_⟩
      · exact (sb.2 _ A.TIz).trans (k _ _ A.TIz A.TITO (fun d m => (A.itTI d m).symm) st.tup)
      · exact ⟨_, (sb.2 _ A.TOz).trans to', by rw [l, sl, ll]⟩
      · have jl := (List.getElem?_eq_some_iff.mp e).1
        have jL : j < L.length := by omega
        have ej := gt j L[j] (List.getElem?_eq_getElem jL)
        rw [e] at ej
        cases ej
        have m : (⟨L[j].1, n + j, L[j].2.1, L[j].2.2⟩ : Src) ∈ srcs n L := by
          refine List.mem_of_getElem? (i := j) ?_
          unfold srcs
          rw [List.getElem?_map, List.getElem?_zipIdx, List.getElem?_eq_getElem jL]
          rfl
        have := (it' _ m).at (h' := h'') fun o z => (sb.2 _ (A.itz _ m)).trans z
        exact this
      · have hlt : c < s.heap.objs.size := by
          rcases List.mem_cons.mp hcm with q | hcm
          · rw [q]; exact hzl
          rcases List.mem_cons.mp hcm with q | hcm
          · rw [q]; exact Heap.lt_size st.tup
          rcases List.mem_cons.mp hcm with q | hcm
          · rw [q]; exact Heap.lt_size to
          obtain ⟨j, hj, rfl⟩ := List.mem_map.mp hcm
          have jl := List.mem_range.mp hj
          obtain ⟨o, z, _⟩ := (st.its j as[j] (List.getElem?_eq_getElem jl)).lt
          exact Heap.lt_size z
        rw [upd_ne (Nat.ne_of_lt hlt)]
        exact (hf c hcm).1
    · exfalso
      obtain ⟨c, m, e⟩ := wt
      obtain ⟨j, p, ep, rfl⟩ := srcs_mem m
      have z := av.size
      have : (L.map fun p => p.2.2.size)[j]? = some p.2.2.size := by rw [List.getElem?_map, ep]; rfl
      rw [z, List.getElem?_map] at this
      cases ea : vs[j]? with
      | none => rw [ea] at this; cases this
      | some pa =>
        rw [ea] at this
        have w1 := lt pa (List.mem_of_getElem? ea)
        have t2 : pa.2.2.length = p.2.2.size := Option.some.inj this
        rw [Array.getElem?_eq_getElem (show i < p.2.2.size by omega)] at e
        cases e
  done := by
    intro X hP hw hK hc i pins s σ H E I hf st hg
    subst hP hw hK
    obtain ⟨vs, rd, p0, m0, le⟩ := hg
    obtain ⟨L, av⟩ := av_of I rd.2
    have kl : L.map (fun p => (p.1, p.2.1)) = as := (av_keys av).trans rd.1
    have ll : L.length = as.length := by rw [← kl, List.length_map]
    have gt : ∀ (j : Nat) (p : Arg), L[j]? = some p → as[j]? = some (p.1, p.2.1) := fun j p e => by rw [← kl, List.getElem?_map, e]; rfl
    have A : Apart (n + L.length + 2) (n + L.length) (n + L.length + 1) (srcs n L) := apart_low fun p m => by
      obtain ⟨j, hj, e⟩ := List.getElem_of_mem m
      exact low _ (List.mem_of_getElem? (gt j p (by rw [List.getElem?_eq_getElem hj, e])))
    rw [ll] at A
    have sl := srcs_len (n := n) (L := L)
    have sne : srcs n L ≠ [] := fun e => ne (List.eq_nil_of_length_eq_zero (by rw [← ll, ← sl, e]; rfl))
    have sit : ∀ c ∈ srcs n L, ItAt s.heap c i := fun c m => by
      obtain ⟨j, p, e, rfl⟩ := srcs_mem m
      exact st.its j _ (gt j p e)
    have ssq : ∀ c ∈ srcs n L, SqAt s.heap c := fun c m => by
      obtain ⟨j, p, e, rfl⟩ := srcs_mem m
      exact av.ats p (List.mem_of_getElem? e)
    obtain ⟨arr, to, al⟩ := st.out
    have tup : IsTup s.heap (n + as.length) ((srcs n L).map fun c => Value.ref c.it).toArray := by
      rw [srcs_its, ll]
      exact st.tup
    have l24 : L.length ≤ 24 := by rw [ll]; exact few
    have short : ∃ c ∈ srcs n L, c.xs.size ≤ i := by
      obtain ⟨j, hj, ej⟩ := List.getElem_of_mem m0
      have z := av.size
      have : (vs.map fun p => p.2.2.length)[j]? = some p0.2.2.length := by rw [List.getElem?_map, List.getElem?_eq_getElem hj, ej]; rfl
      rw [← z, List.getElem?_map] at this
      cases el : L[j]? with
      | none => rw [el] at this; cases this
      | some p =>
        rw [el] at this
        have t2 : p.2.2.size = p0.2.2.length := Option.some.inj this
        refine ⟨⟨p.1, n + j, p.2.1, p.2.2⟩, List.mem_of_getElem? (i := j) ?_, by show p.2.2.size ≤ i; omega⟩
        unfold srcs
        rw [List.getElem?_map, List.getElem?_zipIdx, el]
        rfl
    refine ZSt.done (D := s.heap.objs.size) sne (by rw [sl]; exact Nat.le_trans l24 (by decide)) (I.ok.hd hc) A ⟨tup, .inl ⟨st.zip, arr, to, by rw [al, sl, ll]⟩, sit, ssq⟩ short fun h' k => ⟨rfl, I.turnedL (t' := s.toks) (ch := (n + as.length + 2) :: (n + as.length) :: (n + as.length + 1) :: (List.range as.length).map (n + ·)) (fun c o hb q => ?_) hf⟩
    refine k c o (fun q => hb (by rw [q]; simp)) (fun q => hb (by rw [q]; simp)) (fun d m q => ?_) q
    obtain ⟨j, p, e, rfl⟩ := srcs_mem m
    have jl := (List.getElem?_eq_some_iff.mp e).1
    rw [ll] at jl
    exact hb (List.mem_cons_of_mem _ (List.mem_cons_of_mem _ (List.mem_cons_of_mem _ (List.mem_map.mpr ⟨j, List.mem_range.mpr jl, q.symm⟩))))
  self := fun A i s Q E st h => wpAny_pyIter_zip st.zip h
/-- zip(e, ..) in a for -/
def iZipK (K : PySem.W.Frag) (ta : TA) : TI := fun σ H R => ta σ H fun vs H1 => ∃ as, ZArgs K H1 vs as ∧ R (ItZ K (keysOf as)) H1
theorem pi_zipK {X : Cx} {e : Expr} {es : List Expr} {ta : TA} {p pos tpos : Pos} {elts : List Expr} {kk : Nat} (hg : Gl X "zip") (hm : X.mg "zip" = none) (ha : PA X (e :: es) ta)
    (hs : starEach (e :: es) X.env = (false, eval e X.env) :: starEach es X.env := by rfl) (hpl : (backTo pos (starEach es X.env)).any (·.1) = false := by rfl) :
    PI X (.Tuple elts kk tpos) (.Call (.Name "zip" p) (e :: es) [] pos) (iZipK X.K ta) := by
  refine ⟨fun pins s σ H R I h => ?_⟩
  refine Call_ (ld_blt I hg hm PyProof.Rows.boot_zip (PyProof.Rows.callWith_type1 (thn (ha.run pos pins s σ H _ I h) fun us s1 ⟨vs, H1, I1, r1, as, za, q⟩ => ?_) hs hpl))
  obtain ⟨rfl, ne, few, rd⟩ := id za
  refine zip_called I1 rd ne few r1 fun L h' av I2 A sne l24 st hz hsz hk => wpAny_pyIter_zip hz ?_
  have kl : L.map (fun p => (p.1, p.2.1)) = keysOf as := av_keys av
  have ll : L.length = (keysOf as).length := by rw [← kl, List.length_map]
  have lk : (keysOf as).length = as.length := List.length_map ..
  have z0 := st _ (Nat.le_refl _)
  rw [ll] at z0 hz ⊢
  refine ⟨_, (s1.heap.objs.size + (keysOf as).length + 2) :: (s1.heap.objs.size + (keysOf as).length) :: (s1.heap.objs.size + (keysOf as).length + 1) :: (List.range (keysOf as).length).map (s1.heap.objs.size + ·), TnZ s1.heap.objs.size (keysOf as), ItZ X.K (keysOf as), H1, rfl, I2,
    turn_zipK (fun e => ne (List.eq_nil_of_length_eq_zero (by rw [← lk, e]; rfl))) (by rw [lk]; exact few) (fun q m => ?_), ⟨hz, ?_, ?_, fun j q e => ?_⟩, fun c hcm => ?_, q⟩
  · rw [← kl] at m
    obtain ⟨p, mp, rfl⟩ := List.mem_map.mp m
    exact (av.ats p mp).lt
  · have := z0.tup
    rw [srcs_its, ll] at this
    exact this
  · rcases z0.zip with ⟨_, arr, b, c⟩ | ⟨T, f, oT, a, _⟩
    · exact ⟨arr, b, by rw [c, srcs_len, ll]⟩
    · have := hz.symm.trans a
      simp [rawInt] at this
  · rw [← kl, List.getElem?_map] at e
    cases el : L[j]? with
    | none => rw [el] at e; cases e
    | some p =>
      rw [el] at e
      cases e
      refine z0.its ⟨p.1, s1.heap.objs.size + j, p.2.1, p.2.2⟩ (List.mem_of_getElem? (i := j) ?_)
      unfold srcs
      rw [List.getElem?_map, List.getElem?_zipIdx, el]
      rfl
  · have hle : s1.heap.objs.size ≤ c := by
      rcases List.mem_cons.mp hcm with q | hcm
      · rw [q]; exact Nat.le_trans (Nat.le_add_right ..) (Nat.le_add_right ..)
      rcases List.mem_cons.mp hcm with q | hcm
      · rw [q]; exact Nat.le_add_right ..
      rcases List.mem_cons.mp hcm with q | hcm
      · rw [q]; exact Nat.le_trans (Nat.le_add_right ..) (Nat.le_add_right ..)
      obtain ⟨j, _, rfl⟩ := List.mem_map.mp hcm
      exact Nat.le_add_right ..
    exact I1.fpOk hle (I1.hok.fresh hle)
theorem walk_zipK {K : PySem.W.Frag} {as : List ArgV} (ne : as ≠ []) :
    Walk (ItZ K (keysOf as)) (least as) (fun H => ∀ p ∈ as, if p.1 = true then SqL K H p.2.1 p.2.2 else SqT K H p.2.1 p.2.2) (fun i H v H' => ∃ T, v = .ref T ∧ H T = none ∧ H' = upd H T (.tup (rowV as i))) := by
  refine ⟨fun i H hi g => ⟨as, ⟨rfl, g⟩, fun p m => Nat.lt_of_lt_of_le hi (least_le p m)⟩, fun H g => ?_, fun i H v H' hi g y => ?_⟩
  · obtain ⟨p, m, e⟩ := least_is ne
    exact ⟨as, ⟨rfl, g⟩, p, m, Nat.le_of_eq e⟩
  · obtain ⟨T, row, h1, h2, h3, h4⟩ := y
    exact ⟨T, h1, h2, by rw [h3, h4 as ⟨rfl, g⟩]⟩
end ZK

set_option Elab.async false
set_option linter.all false
set_option maxRecDepth 100000
set_option maxHeartbeats 2000000
/-! min(xs, default=d), max(xs, default=d) of a list of ints. -/
namespace MN
open PySem PySem.Spec PyProof.Rows L2
section
variable {prog : Program} {w : World} {A : Around} {E : Value → Shared → Prop} {s : Shared}
theorem call_kw_tree {id : String} {b : Builtin} {args : List Value} {kw : List (Str × Value)} {Q : Value → Shared → Prop} (hk : builtinKind id = none) (hp : plainId id = true) (hb : entryFor table id = some b) (ha : argsOk id ⟨args, kw⟩)
    (hc : wpAny (model prog w) A.in1 (b ⟨args, kw⟩) (fun fin s' => match fin with
      | .done f => (match (Except.ok f : Result) with | .ok (.ret v) => Q v s' | .ok _ => False | .error e => E e s')
      | .again c' => c'.quiet = true ∧ codeAny (model prog w) A c' (fun r s' => match r with | .ok (.ret v) => Q v s' | .ok _ => False | .error e => E e s') s') E s) : wpAny (model prog w) A (call (.builtin id) args kw) Q E s := by
  refine wpAny_call (codeAny_call_builtin hp hb ?_)
  simp only [checkBuiltinCall, hk]
  cases hsig : Manifest.signature? id with
  | none => exact wpAny_pure hc
  | some sig =>
    simp only [argsOk, hsig] at ha
    have h2 : Bind.checkArgs id sig ⟨args, kw⟩ = pure () := ha
    show wpAny _ A.in1 (Bind.checkArgs id sig ⟨args, kw⟩) _ _ s
    rw [h2]; exact wpAny_pure hc
end

section
variable {prog : Program} {w : World} {A : Around} {R : Result → Shared → Prop} {I : Addr} {fp wr : List Addr} {n : Nat} {P : Nat → Value → Prop} {St : Nat → Heap → Prop} {kw : List (Str × Value)}
theorem min_turns (Wk : Walks prog w A.in1 I fp wr n P St) (bb : Nat → Nat → Bool) (cm : CmpOf prog w A.in1 .Lt P bb) (D : Addr) (nf : D ∉ fp) : ∀ (k j : Nat) (s : Shared) (vv : Value) (c : Nat), n - (j + 1) = k → j + 1 ≤ n → St (j + 1) s.heap → P (argBest bb j) vv →
    s.heap.get? D = some { cls := .type "list", dict := none, data := .seq #[vv, vv] c, slots := #[] } →
    (∀ v h' tk, P (argBest bb (n - 1)) v → (∀ b o, b ∉ wr → b ≠ D → s.heap.get? b = some o → h'.get? b = some o) → R (.ok (.ret v)) { s with heap := h', toks := tk }) → codeAny (model prog w) A (.builtin "min.loop" ⟨[.ref I, .none, .ref D], kw⟩) R s := by
  have nw : D ∉ wr := fun h => nf (Wk.sub _ h)
  have nam : (toString "min" ++ toString ".loop" : String) = "min.loop" := by decide
  intro k
  induction k with
  | zero =>
    intro j s vv c hk hj sa pb sS fin
    have last : j + 1 = n := by omega
    refine codeAny_builtin F.entry_min_loop ?_
    rw [Around.under_plainId F.plain_min_loop _]
    show wpAny _ A.in1 (seqItems? (.ref D) >>= _) _ _ s
    refine wpAny_bind (wpAny_seqItems sS rfl ?_)
    show wpAny _ A.in1 (tryCatch (pyNext (.ref I)) _ >>= _) _ _ s
    refine wpAny_bind (wpAny_tryCatch (Wk.done s _ _ (last ▸ sa) fun h' tk ke => ?_))
    have sb := ke D _ nw sS
    show wpAny _ A.in1 (updateSeq D (fun _ => #[]) >>= _) _ _ _
    refine wpAny_bind ?_
    refine wpAny_updateSeq sb rfl (wpAny_bind (wpAny_letGo (wpAny_pure ?_)))
    refine fin vv _ tk (by rw [← last]; exact pb) fun b o b1 b2 e => (Heap.get?_update_other _ _ (Ne.symm b2)).trans (ke b o b1 e)
  | succ k ih =>
    intro j s vv c hk hj sa pb sS fin
    have lt : j + 1 < n := by omega
    refine codeAny_builtin F.entry_min_loop ?_
    rw [Around.under_plainId F.plain_min_loop _]
    show wpAny _ A.in1 (seqItems? (.ref D) >>= _) _ _ s
    refine wpAny_bind (wpAny_seqItems sS rfl ?_)
    show wpAny _ A.in1 (tryCatch (pyNext (.ref I)) _ >>= _) _ _ s
    refine wpAny_bind (wpAny_tryCatch (Wk.item (j + 1) s _ _ lt sa fun v h' tk pp sa' ke => ?_))
    have sb := ke D _ nw sS
    show wpAny _ A.in1 (tryCatch (holding [v, v] (richCompare .Lt v vv >>= _)) _ >>= _) _ _ _
    refine wpAny_bind (wpAny_tryCatch (wpAny_holding (wpAny_bind (cm (j + 1) (argBest bb j) v vv _ _ _ pp pb ?_))))
    refine wpAny_bind (wpAny_holding (wpAny_truthy_bool ?_))
    refine wpAny_bind (wpAny_letGo (wpAny_pure ?_))
    cases hb : bb (j + 1) (argBest bb j) with
    | true =>
      simp only [if_true]
      refine wpAny_bind ?_
      refine wpAny_updateSeq sb rfl (wpAny_bind (wpAny_letGo ?_))
      rw [nam]
      refine wpAny_pure ⟨plainId_quiet F.plain_min_loop _, ih (j + 1) _ v _ (by omega) lt (Wk.frame _ _ _ sa' fun b bf o e => ?_) (by simp only [argBest, hb, if_true]; exact pp) (Heap.get?_update_self _ sb rfl) fun v' h'' t2 p2 k2 => ?_⟩
      · exact (Heap.get?_update_other _ _ (fun h : D = b => nf (by rw [h]; exact bf))).trans e
      · exact fin v' h'' t2 p2 fun b o b1 b2 e => k2 b o b1 b2 ((Heap.get?_update_other _ _ (Ne.symm b2)).trans (ke b o b1 e))
    | false =>
      simp only [Bool.false_eq_true, if_false]
      refine wpAny_bind (wpAny_letGo ?_)
      rw [nam]
      refine wpAny_pure ⟨plainId_quiet F.plain_min_loop _, ih (j + 1) _ vv c (by omega) lt sa' (by simp only [argBest, hb, Bool.false_eq_true, if_false]; exact pb) sb fun v' h'' t2 p2 k2 => ?_⟩
      exact fin v' h'' t2 p2 fun b o b1 b2 e => k2 b o b1 b2 (ke b o b1 e)
theorem min_begins (Wk : Walks prog w A.in1 I fp wr n P St) (bb : Nat → Nat → Bool) (cm : CmpOf prog w A.in1 .Lt P bb) (D : Addr) (nf : D ∉ fp) (pos : 0 < n) {s : Shared} {c : Nat} (sa : St 0 s.heap) (sS : s.heap.get? D = some { cls := .type "list", dict := none, data := .seq #[] c, slots := #[] })
    (fin : ∀ v h' tk, P (argBest bb (n - 1)) v → (∀ b o, b ∉ wr → b ≠ D → s.heap.get? b = some o → h'.get? b = some o) → R (.ok (.ret v)) { s with heap := h', toks := tk }) : codeAny (model prog w) A (.builtin "min.loop" ⟨[.ref I, .none, .ref D], kw⟩) R s := by
  have nw : D ∉ wr := fun h => nf (Wk.sub _ h)
  have nam : (toString "min" ++ toString ".loop" : String) = "min.loop" := by decide
  refine codeAny_builtin F.entry_min_loop ?_
  rw [Around.under_plainId F.plain_min_loop _]
  show wpAny _ A.in1 (seqItems? (.ref D) >>= _) _ _ s
  refine wpAny_bind (wpAny_seqItems sS rfl ?_)
  show wpAny _ A.in1 (tryCatch (pyNext (.ref I)) _ >>= _) _ _ s
  refine wpAny_bind (wpAny_tryCatch (Wk.item 0 s _ _ pos sa fun v h' tk pp sa' ke => ?_))
  have sb := ke D _ nw sS
  show wpAny _ A.in1 (updateSeq D (fun _ => #[v, v]) >>= _) _ _ _
  refine wpAny_bind ?_
  refine wpAny_updateSeq sb rfl ?_
  rw [nam]
  refine wpAny_pure ⟨plainId_quiet F.plain_min_loop _, min_turns Wk bb cm D nf _ 0 _ v _ rfl pos (Wk.frame _ _ _ sa' fun b bf o e => ?_) pp (Heap.get?_update_self _ sb rfl) fun v' h'' t2 p2 k2 => ?_⟩
  · exact (Heap.get?_update_other _ _ (fun h : D = b => nf (by rw [h]; exact bf))).trans e
  · exact fin v' h'' t2 p2 fun b o b1 b2 e => k2 b o b1 b2 ((Heap.get?_update_other _ _ (Ne.symm b2)).trans (ke b o b1 e))
/-- nothing is there: the default -/
theorem min_nothing (Wk : Walks prog w A.in1 I fp wr 0 P St) (D : Addr) (nf : D ∉ fp) {s : Shared} {c : Nat} {d : Value} (sa : St 0 s.heap) (sS : s.heap.get? D = some { cls := .type "list", dict := none, data := .seq #[] c, slots := #[] })
    (fin : ∀ h' tk, (∀ b o, b ∉ wr → s.heap.get? b = some o → h'.get? b = some o) → R (.ok (.ret d)) { s with heap := h', toks := tk }) : codeAny (model prog w) A (.builtin "min.loop" ⟨[.ref I, .none, .ref D], [(Str.ofString "default", d)]⟩) R s := by
  refine codeAny_builtin F.entry_min_loop ?_
  rw [Around.under_plainId F.plain_min_loop _]
  show wpAny _ A.in1 (seqItems? (.ref D) >>= _) _ _ s
  refine wpAny_bind (wpAny_seqItems sS rfl ?_)
  show wpAny _ A.in1 (tryCatch (pyNext (.ref I)) _ >>= _) _ _ s
  refine wpAny_bind (wpAny_tryCatch (Wk.done s _ _ sa fun h' tk ke => ?_))
  refine wpAny_bind (wpAny_rule (wpAny_pure ?_))
  exact fin h' tk ke
end
section
variable {prog : Program} {w : World} {A : Around} {E : Value → Shared → Prop} {s : Shared} {l : Addr} {its : List Value} {ns : List Int} {d : Value}
theorem args_min_default (a b : Value) : argsOk "min" ⟨[a], [(Str.ofString "default", b)]⟩ := by unfold argsOk; kernel_rfl
theorem min_default {Q : Value → Shared → Prop} (hh : A.handled = none) (hl : s.heap.IsList l its.toArray) (hi : IntsAre its ns) (h0 : ns = [] → ∀ h' tk, (∀ b o, s.heap.get? b = some o → h'.get? b = some o) → Q d { s with heap := h', toks := tk })
    (h : ∀ h' tk M t', (∀ b o, s.heap.get? b = some o → h'.get? b = some o) → M ∈ ns → (∀ a, a ∈ ns → M ≤ a) → Q (.int M t') { s with heap := h', toks := tk }) : wpAny (model prog w) A (call (.builtin "min") [.ref l] [(Str.ofString "default", d)]) Q E s := by
  obtain ⟨xs, e⟩ := hi.allInts.items
  have hn : numsOf (intItems xs).toList = ns := by rw [← e]; exact hi.numsOf
  rw [nums_intItems] at hn
  subst hn
  rw [e] at hl
  have nam : (toString "min" ++ toString ".loop" : String) = "min.loop" := by decide
  refine call_kw_tree F.kind_min F.plain_min F.entry_min (args_min_default _ _) ?_
  show wpAny _ _ (Builtin.Builtins.bindParams "min" ["key", "default"] 0 ⟨[], [(Str.ofString "default", d)]⟩ >>= _) _ _ s
  refine wpAny_bind (wpAny_of_eq (show Builtin.Builtins.bindParams "min" ["key", "default"] 0 ⟨[], [(Str.ofString "default", d)]⟩ = pure [none, some d] from rfl) ?_)
  refine wpAny_bind (wpAny_pure ?_)
  refine wpAny_bind (iter_intList hl fun s₂ e2 st hfp hlI => ?_)
  subst e2
  refine wpAny_bind (wpAny_newObj_type ?_)
  rw [nam]
  have Wk := Walks.list (prog := prog) (w := w) (A := A.in1) hh s.heap.objs.size l hlI (intItems xs)
  have nD : (s.heap.push { cls := .type "list_iterator", data := .fields #[.ref l, .int 0 0] }).objs.size ∉ [s.heap.objs.size, l] := fun hm => Nat.lt_irrefl _ (hfp _ hm)
  have st2 := Wk.frame 0 _ _ st fun b _ o e => Heap.get?_push_of_some (h := (s.heap.push { cls := .type "list_iterator", data := .fields #[.ref l, .int 0 0] })) { cls := .type "list", data := .seq ([] : List Value).toArray } e
  by_cases z : xs.size = 0
  · have zi : (intItems xs).size = 0 := by simpa [intItems] using z
    rw [zi] at Wk
    refine wpAny_pure ⟨plainId_quiet F.plain_min_loop _, min_nothing Wk _ nD st2 (Heap.get?_push_size _ rfl) fun h' tk k => h0 ?_ h' tk fun b o e => ?_⟩
    · have : xs = #[] := Array.eq_empty_of_size_eq_zero z
      rw [this]
      rfl
    · refine k b o (fun m => ?_) (Heap.get?_push_of_some _ (Heap.get?_push_of_some _ e))
      rw [List.mem_singleton.mp m] at e
      exact Nat.lt_irrefl _ (Heap.lt_size e)
  · have pos : 0 < (intItems xs).size := by
      have : (intItems xs).size = xs.size := by simp [intItems]
      omega
    refine wpAny_pure ⟨plainId_quiet F.plain_min_loop _, min_begins Wk _ (CmpOf.ints_lt (numAt xs) (fun _ _ => intItems_at)) _ nD pos st2 (Heap.get?_push_size _ rfl) fun v h' tk hv k => ?_⟩
    obtain ⟨t, rfl⟩ := intItems_at hv
    have sz : (intItems xs).size = xs.size := by simp [intItems]
    rw [sz] at hv ⊢
    obtain ⟨h1, h2⟩ := argBest_lt (numAt xs) (xs.size - 1)
    refine h h' tk _ t (fun b o e => ?_) ?_ fun a ha => ?_
    · refine k b o (fun m => ?_) (Nat.ne_of_lt (Nat.lt_of_lt_of_le (Heap.lt_size e) (by rw [Heap.size_push]; exact Nat.le_succ _))) (Heap.get?_push_of_some _ (Heap.get?_push_of_some _ e))
      rw [List.mem_singleton.mp m] at e
      exact Nat.lt_irrefl _ (Heap.lt_size e)
    · rw [numAt_eq]; exact PySem.getD_mem (by rw [List.length_map, Array.length_toList]; omega)
    · obtain ⟨j, hj, rfl⟩ := mem_getD ha
      rw [List.length_map, Array.length_toList] at hj
      rw [← numAt_eq]
      exact h2 j (by omega)
end

section
variable {prog : Program} {w : World} {A : Around} {R : Result → Shared → Prop} {I : Addr} {fp wr : List Addr} {n : Nat} {P : Nat → Value → Prop} {St : Nat → Heap → Prop} {kw : List (Str × Value)}
theorem max_turns (Wk : Walks prog w A.in1 I fp wr n P St) (bb : Nat → Nat → Bool) (cm : CmpOf prog w A.in1 .Gt P bb) (D : Addr) (nf : D ∉ fp) : ∀ (k j : Nat) (s : Shared) (vv : Value) (c : Nat), n - (j + 1) = k → j + 1 ≤ n → St (j + 1) s.heap → P (argBest bb j) vv →
    s.heap.get? D = some { cls := .type "list", dict := none, data := .seq #[vv, vv] c, slots := #[] } →
    (∀ v h' tk, P (argBest bb (n - 1)) v → (∀ b o, b ∉ wr → b ≠ D → s.heap.get? b = some o → h'.get? b = some o) → R (.ok (.ret v)) { s with heap := h', toks := tk }) → codeAny (model prog w) A (.builtin "max.loop" ⟨[.ref I, .none, .ref D], kw⟩) R s := by
  have nw : D ∉ wr := fun h => nf (Wk.sub _ h)
  have nam : (toString "max" ++ toString ".loop" : String) = "max.loop" := by decide
  intro k
  induction k with
  | zero =>
    intro j s vv c hk hj sa pb sS fin
    have last : j + 1 = n := by omega
    refine codeAny_builtin F.entry_max_loop ?_
    rw [Around.under_plainId F.plain_max_loop _]
    show wpAny _ A.in1 (seqItems? (.ref D) >>= _) _ _ s
    refine wpAny_bind (wpAny_seqItems sS rfl ?_)
    show wpAny _ A.in1 (tryCatch (pyNext (.ref I)) _ >>= _) _ _ s
    refine wpAny_bind (wpAny_tryCatch (Wk.done s _ _ (last ▸ sa) fun h' tk ke => ?_))
    have sb := ke D _ nw sS
    show wpAny _ A.in1 (updateSeq D (fun _ => #[]) >>= _) _ _ _
    refine wpAny_bind ?_
    refine wpAny_updateSeq sb rfl (wpAny_bind (wpAny_letGo (wpAny_pure ?_)))
    refine fin vv _ tk (by rw [← last]; exact pb) fun b o b1 b2 e => (Heap.get?_update_other _ _ (Ne.symm b2)).trans (ke b o b1 e)
  | succ k ih =>
    intro j s vv c hk hj sa pb sS fin
    have lt : j + 1 < n := by omega
    refine codeAny_builtin F.entry_max_loop ?_
    rw [Around.under_plainId F.plain_max_loop _]
    show wpAny _ A.in1 (seqItems? (.ref D) >>= _) _ _ s
    refine wpAny_bind (wpAny_seqItems sS rfl ?_)
    show wpAny _ A.in1 (tryCatch (pyNext (.ref I)) _ >>= _) _ _ s
    refine wpAny_bind (wpAny_tryCatch (Wk.item (j + 1) s _ _ lt sa fun v h' tk pp sa' ke => ?_))
    have sb := ke D _ nw sS
    show wpAny _ A.in1 (tryCatch (holding [v, v] (richCompare .Gt v vv >>= _)) _ >>= _) _ _ _
    refine wpAny_bind (wpAny_tryCatch (wpAny_holding (wpAny_bind (cm (j + 1) (argBest bb j) v vv _ _ _ pp pb ?_))))
    refine wpAny_bind (wpAny_holding (wpAny_truthy_bool ?_))
    refine wpAny_bind (wpAny_letGo (wpAny_pure ?_))
    cases hb : bb (j + 1) (argBest bb j) with
    | true =>
      simp only [if_true]
      refine wpAny_bind ?_
      refine wpAny_updateSeq sb rfl (wpAny_bind (wpAny_letGo ?_))
      rw [nam]
      refine wpAny_pure ⟨plainId_quiet F.plain_max_loop _, ih (j + 1) _ v _ (by omega) lt (Wk.frame _ _ _ sa' fun b bf o e => ?_) (by simp only [argBest, hb, if_true]; exact pp) (Heap.get?_update_self _ sb rfl) fun v' h'' t2 p2 k2 => ?_⟩
      · exact (Heap.get?_update_other _ _ (fun h : D = b => nf (by rw [h]; exact bf))).trans e
      · exact fin v' h'' t2 p2 fun b o b1 b2 e => k2 b o b1 b2 ((Heap.get?_update_other _ _ (Ne.symm b2)).trans (ke b o b1 e))
    | false =>
      simp only [Bool.false_eq_true, if_false]
      refine wpAny_bind (wpAny_letGo ?_)
      rw [nam]
      refine wpAny_pure ⟨plainId_quiet F.plain_max_loop _, ih (j + 1) _ vv c (by omega) lt sa' (by simp only [argBest, hb, Bool.false_eq_true, if_false]; exact pb) sb fun v' h'' t2 p2 k2 => ?_⟩
      exact fin v' h'' t2 p2 fun b o b1 b2 e => k2 b o b1 b2 (ke b o b1 e)
theorem max_begins (Wk : Walks prog w A.in1 I fp wr n P St) (bb : Nat → Nat → Bool) (cm : CmpOf prog w A.in1 .Gt P bb) (D : Addr) (nf : D ∉ fp) (pos : 0 < n) {s : Shared} {c : Nat} (sa : St 0 s.heap) (sS : s.heap.get? D = some { cls := .type "list", dict := none, data := .seq #[] c, slots := #[] })
    (fin : ∀ v h' tk, P (argBest bb (n - 1)) v → (∀ b o, b ∉ wr → b ≠ D → s.heap.get? b = some o → h'.get? b = some o) → R (.ok (.ret v)) { s with heap := h', toks := tk }) : codeAny (model prog w) A (.builtin "max.loop" ⟨[.ref I, .none, .ref D], kw⟩) R s := by
  have nw : D ∉ wr := fun h => nf (Wk.sub _ h)
  have nam : (toString "max" ++ toString ".loop" : String) = "max.loop" := by decide
  refine codeAny_builtin F.entry_max_loop ?_
  rw [Around.under_plainId F.plain_max_loop _]
  show wpAny _ A.in1 (seqItems? (.ref D) >>= _) _ _ s
  refine wpAny_bind (wpAny_seqItems sS rfl ?_)
  show wpAny _ A.in1 (tryCatch (pyNext (.ref I)) _ >>= _) _ _ s
  refine wpAny_bind (wpAny_tryCatch (Wk.item 0 s _ _ pos sa fun v h' tk pp sa' ke => ?_))
  have sb := ke D _ nw sS
  show wpAny _ A.in1 (updateSeq D (fun _ => #[v, v]) >>= _) _ _ _
  refine wpAny_bind ?_
  refine wpAny_updateSeq sb rfl ?_
  rw [nam]
  refine wpAny_pure ⟨plainId_quiet F.plain_max_loop _, max_turns Wk bb cm D nf _ 0 _ v _ rfl pos (Wk.frame _ _ _ sa' fun b bf o e => ?_) pp (Heap.get?_update_self _ sb rfl) fun v' h'' t2 p2 k2 => ?_⟩
  · exact (Heap.get?_update_other _ _ (fun h : D = b => nf (by rw [h]; exact bf))).trans e
  · exact fin v' h'' t2 p2 fun b o b1 b2 e => k2 b o b1 b2 ((Heap.get?_update_other _ _ (Ne.symm b2)).trans (ke b o b1 e))
/-- nothing is there: the default -/
theorem max_nothing (Wk : Walks prog w A.in1 I fp wr 0 P St) (D : Addr) (nf : D ∉ fp) {s : Shared} {c : Nat} {d : Value} (sa : St 0 s.heap) (sS : s.heap.get? D = some { cls := .type "list", dict := none, data := .seq #[] c, slots := #[] })
    (fin : ∀ h' tk, (∀ b o, b ∉ wr → s.heap.get? b = some o → h'.get? b = some o) → R (.ok (.ret d)) { s with heap := h', toks := tk }) : codeAny (model prog w) A (.builtin "max.loop" ⟨[.ref I, .none, .ref D], [(Str.ofString "default", d)]⟩) R s := by
  refine codeAny_builtin F.entry_max_loop ?_
  rw [Around.under_plainId F.plain_max_loop _]
  show wpAny _ A.in1 (seqItems? (.ref D) >>= _) _ _ s
  refine wpAny_bind (wpAny_seqItems sS rfl ?_)
  show wpAny _ A.in1 (tryCatch (pyNext (.ref I)) _ >>= _) _ _ s
  refine wpAny_bind (wpAny_tryCatch (Wk.done s _ _ sa fun h' tk ke => ?_))
  refine wpAny_bind (wpAny_rule (wpAny_pure ?_))
  exact fin h' tk ke
end
section
variable {prog : Program} {w : World} {A : Around} {E : Value → Shared → Prop} {s : Shared} {l : Addr} {its : List Value} {ns : List Int} {d : Value}
theorem args_max_default (a b : Value) : argsOk "max" ⟨[a], [(Str.ofString "default", b)]⟩ := by unfold argsOk; kernel_rfl
theorem max_default {Q : Value → Shared → Prop} (hh : A.handled = none) (hl : s.heap.IsList l its.toArray) (hi : IntsAre its ns) (h0 : ns = [] → ∀ h' tk, (∀ b o, s.heap.get? b = some o → h'.get? b = some o) → Q d { s with heap := h', toks := tk })
    (h : ∀ h' tk M t', (∀ b o, s.heap.get? b = some o → h'.get? b = some o) → M ∈ ns → (∀ a, a ∈ ns → a ≤ M) → Q (.int M t') { s with heap := h', toks := tk }) : wpAny (model prog w) A (call (.builtin "max") [.ref l] [(Str.ofString "default", d)]) Q E s := by
  obtain ⟨xs, e⟩ := hi.allInts.items
  have hn : numsOf (intItems xs).toList = ns := by rw [← e]; exact hi.numsOf
  rw [nums_intItems] at hn
  subst hn
  rw [e] at hl
  have nam : (toString "max" ++ toString ".loop" : String) = "max.loop" := by decide
  refine call_kw_tree F.kind_max F.plain_max F.entry_max (args_max_default _ _) ?_
  show wpAny _ _ (Builtin.Builtins.bindParams "max" ["key", "default"] 0 ⟨[], [(Str.ofString "default", d)]⟩ >>= _) _ _ s
  refine wpAny_bind (wpAny_of_eq (show Builtin.Builtins.bindParams "max" ["key", "default"] 0 ⟨[], [(Str.ofString "default", d)]⟩ = pure [none, some d] from rfl) ?_)
  refine wpAny_bind (wpAny_pure ?_)
  refine wpAny_bind (iter_intList hl fun s₂ e2 st hfp hlI => ?_)
  subst e2
  refine wpAny_bind (wpAny_newObj_type ?_)
  rw [nam]
  have Wk := Walks.list (prog := prog) (w := w) (A := A.in1) hh s.heap.objs.size l hlI (intItems xs)
  have nD : (s.heap.push { cls := .type "list_iterator", data := .fields #[.ref l, .int 0 0] }).objs.size ∉ [s.heap.objs.size, l] := fun hm => Nat.lt_irrefl _ (hfp _ hm)
  have st2 := Wk.frame 0 _ _ st fun b _ o e => Heap.get?_push_of_some (h := (s.heap.push { cls := .type "list_iterator", data := .fields #[.ref l, .int 0 0] })) { cls := .type "list", data := .seq ([] : List Value).toArray } e
  by_cases z : xs.size = 0
  · have zi : (intItems xs).size = 0 := by simpa [intItems] using z
    rw [zi] at Wk
    refine wpAny_pure ⟨plainId_quiet F.plain_max_loop _, max_nothing Wk _ nD st2 (Heap.get?_push_size _ rfl) fun h' tk k => h0 ?_ h' tk fun b o e => ?_⟩
    · have : xs = #[] := Array.eq_empty_of_size_eq_zero z
      rw [this]
      rfl
    · refine k b o (fun m => ?_) (Heap.get?_push_of_some _ (Heap.get?_push_of_some _ e))
      rw [List.mem_singleton.mp m] at e
      exact Nat.lt_irrefl _ (Heap.lt_size e)
  · have pos : 0 < (intItems xs).size := by
      have : (intItems xs).size = xs.size := by simp [intItems]
      omega
    refine wpAny_pure ⟨plainId_quiet F.plain_max_loop _, max_begins Wk _ (CmpOf.ints_gt (numAt xs) (fun _ _ => intItems_at)) _ nD pos st2 (Heap.get?_push_size _ rfl) fun v h' tk hv k => ?_⟩
    obtain ⟨t, rfl⟩ := intItems_at hv
    have sz : (intItems xs).size = xs.size := by simp [intItems]
    rw [sz] at hv ⊢
    obtain ⟨h1, h2⟩ := argBest_gt (numAt xs) (xs.size - 1)
    refine h h' tk _ t (fun b o e => ?_) ?_ fun a ha => ?_
    · refine k b o (fun m => ?_) (Nat.ne_of_lt (Nat.lt_of_lt_of_le (Heap.lt_size e) (by rw [Heap.size_push]; exact Nat.le_succ _))) (Heap.get?_push_of_some _ (Heap.get?_push_of_some _ e))
      rw [List.mem_singleton.mp m] at e
      exact Nat.lt_irrefl _ (Heap.lt_size e)
    · rw [numAt_eq]; exact PySem.getD_mem (by rw [List.length_map, Array.length_toList]; omega)
    · obtain ⟨j, hj, rfl⟩ := mem_getD ha
      rw [List.length_map, Array.length_toList] at hj
      rw [← numAt_eq]
      exact h2 j (by omega)
end

end MN

set_option Elab.async false
set_option linter.all false
set_option maxRecDepth 100000
set_option maxHeartbeats 2000000
/-! t[::-1] of a tuple. -/
namespace RVT
open PySem PySem.Spec PyProof.Rows L2
section
variable {prog : Program} {w : World} {A : Around} {E : Value → Shared → Prop} {s : Shared}
theorem adjust_back (n : Nat) : Builtin.Slice.sliceAdjust none none (-1) (n : Int) = ((n : Int) - 1, -1) := by
  unfold Builtin.Slice.sliceAdjust
  simp
theorem places_back (n : Nat) : Builtin.Slice.slicePlaces ((n : Int) - 1) (-1) (-1) = n := by
  unfold Builtin.Slice.slicePlaces
  simp
  omega
theorem fm_map {α β : Type} {f : α → Option β} {g : α → β} : ∀ {l : List α}, (∀ m ∈ l, f m = some (g m)) → l.filterMap f = l.map g
  | [], _ => rfl
  | a :: l, h => by rw [List.filterMap_cons_some (h a List.mem_cons_self), fm_map fun m q => h m (List.mem_cons_of_mem _ q), List.map_cons]
theorem pick_back (xs : Array Value) : ((List.range xs.size).filterMap fun (m : Nat) => xs[(((xs.size : Int) - 1) + (m : Int) * (-1)).toNat]?).toArray = xs.toList.reverse.toArray := by
  congr 1
  apply List.ext_getElem?
  intro i
  have e : ((List.range xs.size).filterMap fun (m : Nat) => xs[(((xs.size : Int) - 1) + (m : Int) * (-1)).toNat]?) = (List.range xs.size).map fun m => xs[xs.size - 1 - m]?.getD .none := by
    apply fm_map
    intro m hm
    have hm := List.mem_range.mp hm
    have : (((xs.size : Int) - 1) + (m : Int) * (-1)).toNat = xs.size - 1 - m := by omega
    rw [this, Array.getElem?_eq_getElem (by omega)]
    rfl
  rw [e, List.getElem?_map]
  by_cases hi : i < xs.size
  · rw [List.getElem?_range hi, List.getElem?_reverse (by simpa using hi), Array.length_toList]
    simp only [Option.map_some, Array.getElem?_toList]
    rw [Array.getElem?_eq_getElem (by omega)]
    rfl
  · rw [List.getElem?_eq_none (by simpa using hi), List.getElem?_eq_none (by simpa using hi)]
    rfl
theorem getItem_back {t sl : Addr} {items : Array Value} {vl vu vs : Value} {Q : Value → Shared → Prop} (ht : IsTup s.heap t items) (hs : s.heap.IsSliceOf sl vl vu vs) (pl : IsPart vl none) (pu : IsPart vu none) (ps : IsPart vs (some (-1)))
    (h : Q (.ref s.heap.objs.size) { s with heap := s.heap.push { cls := .type "tuple", data := .seq items.toList.reverse.toArray } }) (fit : items.size ≤ sizeLine) : wpAny (model prog w) A (getItem (.ref t) (.ref sl)) Q E s := by
  have ok : sizeOk (.seq items.toList.reverse.toArray) := by
    show items.toList.reverse.toArray.size ≤ sizeLine
    rw [List.size_toArray, List.length_reverse, Array.length_toList]
    exact fit
  obtain ⟨os, hos, hcs, hds⟩ := id hs
  have hTs : s.TypeIs (.ref sl) "slice" := ⟨os, hos, hcs⟩
  unfold getItem
  try with_reducible refine wpAny_holding ?_
  first | refine wpAny_bind (wpAny_pure ?_) | skip
  refine wpAny_bind (wpAny_sequenceKey ht.typeIs (by decide) ?_)
  refine wpAny_bind (wpAny_callSpecial?_slot (name := Str.ofString "__getitem__") ht.typeIs PyProof.Rows.slot_tuple_getitem
    (wpAny_call_entry PyProof.Rows.slot_tuple_getitem ht.typeIs entry_tuple_getitem ?_ (args_tuple_getitem _ _)))
  show wpAny _ _ (Builtin.Tuple.tupleItemsOf (.ref t) >>= _) _ _ s
  refine wpAny_bind (tupleItemsOf_ ht ?_)
  refine wpAny_bind (wpAny_typeOf hTs ?_)
  rw [if_pos (by decide)]
  refine wpAny_bind ?_
  unfold Builtin.Slice.sliceApplied Builtin.Slice.sliceFields
  refine wpAny_bind (wpAny_bind (wpAny_field hos hds (x := vl) rfl (wpAny_bind (wpAny_field hos hds (x := vu) rfl (wpAny_bind (wpAny_field hos hds (x := vs) rfl (wpAny_pure ?_)))))))
  refine wpAny_bind (HT.slicePart_ ps ?_)
  show wpAny _ _ (if ((-1 : Int) == 0) = true then _ else _) _ _ s
  rw [if_neg (by decide)]
  refine wpAny_bind (HT.slicePart_ pl (wpAny_bind (HT.slicePart_ pu (wpAny_bind (wpAny_pure ?_)))))
  show wpAny _ _ (match Builtin.Slice.sliceAdjust none none (-1) (items.size : Int) with | (lo, hi) => pure (lo, (-1 : Int), Builtin.Slice.slicePlaces lo hi (-1))) _ _ s
  rw [adjust_back]
  show wpAny _ _ (pure (((items.size : Int) - 1), (-1 : Int), Builtin.Slice.slicePlaces ((items.size : Int) - 1) (-1) (-1))) _ _ s
  rw [places_back]
  refine wpAny_pure ?_
  show wpAny _ _ (if (((items.size : Int) - 1) == 0 && (-1 : Int) == 1 && items.size == items.size) = true then _ else _) _ _ s
  rw [if_neg (by simp), pick_back]
  first
    | exact wpAny_bind (m := Builtin.Tuple.tupleExact _) (wpAny_newObj_type (wpAny_pure ⟨_, rfl, wpAny_pure h⟩) ok)
    | exact wpAny_bind (m := Builtin.Tuple.tupleExact _) (wpAny_newObj_type (wpAny_bind (wpAny_pure (wpAny_pure ⟨_, rfl, wpAny_pure h⟩))) ok)
    | exact wpAny_bind (wpAny_bind (m := Builtin.Tuple.tupleExact _) (wpAny_newObj_type (wpAny_pure (wpAny_pure ⟨_, rfl, wpAny_pure h⟩)) ok))
    | exact wpAny_bind (wpAny_bind (m := Builtin.Tuple.tupleExact _) (wpAny_newObj_type (wpAny_pure ⟨_, rfl, wpAny_pure h⟩) ok))
end
def tRevT (K : PySem.W.Frag) (te : TE) : TE := fun σ H Q => te σ H fun x H1 => ∃ a xs, x = .ref a ∧ SqT K H1 a xs ∧ ∀ p, H1 p = none → Q (.ref p) (upd H1 p (.tup xs.reverse))
theorem pe_revT {X : Cx} {e : Expr} {te : TE} {k : Nat} {p1 p2 p3 pos : Pos} (he : PE X e te) : PE X (.Subscript e (.Slice none none (some (.UnaryOp .USub (.Constant (.int 1) k p1) p2)) p3) pos) (tRevT X.K te) := by
  refine ⟨fun pins s σ H Q I h => ?_⟩
  refine Subscript_ (thn (he.run pins s σ H _ I h) fun v s1 ⟨x, H1, I1, r1, q1⟩ => ?_)
  obtain ⟨a, xs, ex, hx, q⟩ := q1
  subst ex
  cases r1
  have hst : PO X (some (.UnaryOp .USub (.Constant (.int 1) k p1) p2)) (tPart (tUn (rU fun i => .int (-i)) (tC (.int 1)))) := po_some (pe_un un_neg pe_int)
  refine wpAny_Slice (thn (po_none.run pins s1 σ H1 (fun o H2 => o = none ∧ H2 = H1) I1 ⟨rfl, rfl⟩) fun vl s2 ⟨l, H2, I2, pl, el, e2⟩ => ?_)
  subst el e2
  refine thn (po_none.run pins s2 σ H2 (fun o H3 => o = none ∧ H3 = H2) I2 ⟨rfl, rfl⟩) fun vu s3 ⟨u, H3, I3, pu, eu, e3⟩ => ?_
  subst eu e3
  refine thn (hst.run pins s3 σ H3 (fun o H4 => o = some (-1) ∧ H4 = H3) I3 ⟨1, rfl, -1, rfl, rfl, rfl⟩) fun vs s4 ⟨o, H4, I4, ps, eo, e4⟩ => ?_
  subst eo e4
  have I5 : Inv X pins σ H4 { s4 with heap := s4.heap.push { cls := .type "slice", data := .fields #[vl, vu, vs] } } := I4.kept (t' := s4.toks) fun b ob q => Heap.get?_push_of_some _ q
  obtain ⟨its, r, ht, hz⟩ := I5.tuple hx
  have hlen := r.length
  show wpAny (model X.prog X.w) X.A (subscriptTail e (.Slice none none (some (.UnaryOp .USub (.Constant (.int 1) k p1) p2)) p3) (.ref a) (.ref s4.heap.objs.size)) (EP X pins σ Q) X.xe { s4 with heap := s4.heap.push { cls := .type "slice", data := .fields #[vl, vu, vs] } }
  refine tail_any (ops := [.ref a, .ref s4.heap.objs.size]) ht.typeIs PyProof.Rows.slot_tuple_getitem.lookup ?_ (by with_unfolding_all rfl)
  refine getItem_back ht (Heap.IsSliceOf.new _ vl vu vs) pl pu ps ?_ (by rw [List.size_toArray]; omega)
  refine ⟨.ref _, _, I5.laid (t' := s4.toks) (o := .tup xs.reverse) (fun b ob q => Heap.get?_push_of_some _ q) (Nat.le_refl _) ?_, rfl, q _ (I5.hok.fresh (Nat.le_refl _))⟩
  exact ⟨by rw [List.length_reverse]; exact hz, _, r.reverse, IsTup.new _ _⟩
end RVT

set_option Elab.async false
set_option linter.all false
set_option maxRecDepth 100000
/-! set(l) of a list of whole numbers: what the set's order needs to be known of is kept. -/
namespace L2
open PySem PySem.Spec PyProof.Rows
/-- a set that was just made -/
abbrev so0 (w : World) : Obj := { cls := .type "set", dict := none, data := .set #[] 0 (.fresh 0 0 (!w.params.followText "set-order")) }
section
variable {P : Program} {w : World} {A : Around} {E : Value → Shared → Prop} {s : Shared}
theorem nat_beyond {n m : Nat} (e : m = n + 1) : n ≠ m := by omega
set_option maxHeartbeats 3200000 in
theorem set_of_list {a : Addr} {xs : Array Value} {ns : List Int} {Q : Value → Shared → Prop} (quiet : A.handled = none) (la : s.heap.IsList a xs) (iv : IntsAre xs.toList ns) (few : ns.length + 1 < scanBound)
    (q : ∀ (g : Heap) (tk c : Nat), SetR w g s.heap.objs.size (fun j => decide (j ∈ ns)) c → c ≤ ns.length → (∀ b o, s.heap.get? b = some o → g.get? b = some o) → Q (.ref s.heap.objs.size) { s with heap := g, toks := tk }) :
    wpAny (model P w) A (call (.type "set") [.ref a]) Q E s := by
  have size : xs.size = ns.length := (Array.length_toList (xs := xs)).symm.trans iv.length
  obtain ⟨_, _, mro⟩ := F.called_set.mro
  have made := F.called_set.made
  have sub := F.called_set.sub
  have nt := F.called_set.notType
  have cc := F.called_set.canCreate
  have tc := F.typeCall_set_1 (.ref a)
  have item : ∀ (i : Nat) (v : Value), xs[i]? = some v → ∃ k t, ns[i]? = some k ∧ v = .int k t := fun i v hv => by
    obtain ⟨t, e⟩ := IntsAre.int_at iv i v (by rw [Array.getElem?_toList]; exact hv)
    have hi := (Array.getElem?_eq_some_iff.mp hv).1
    have z : ns[i]? = some ns[i] := List.getElem?_eq_getElem (by omega)
    exact ⟨_, t, z, by rw [e, List.getD_eq_getElem?_getD, z]; rfl⟩
  refine wpAny_call (codeAny_of_tree (wpAny_pure ⟨Code.quiet_builtin _ (by decide +kernel), codeAny_builtin F.entry_type_call ?_⟩))
  rw [Around.under_plain (weight_type_call_type "set" [.ref a] []) rfl]
  repeat any_goals first | assumption | wp_step
  refine codeAny_mono (code_set_led1 (E := E) (Q₁ := fun r z => r = .ref s.heap.objs.size ∧ z = { s with heap := s.heap.push (so0 w) }) (.ref a) ⟨rfl, rfl⟩) ?_
  intro r s₁ hr
  match r, hr with
  | .error _, hr => exact hr
  | .ok .next, hr => exact hr.elim
  | .ok .brk, hr => exact hr.elim
  | .ok .cont, hr => exact hr.elim
  | .ok (.ret obj), hr =>
    obtain ⟨rfl, rfl⟩ := hr
    have at0 : (s.heap.push (so0 w)).get? s.heap.objs.size = some (so0 w) := Heap.get?_push_size _ rfl
    have typ : Shared.TypeIs { s with heap := s.heap.push (so0 w) } (.ref s.heap.objs.size) "set" := ⟨_, at0, rfl⟩
    have lk := F.called_set.init.lookup
    have bd := F.called_set.init.bind (.ref s.heap.objs.size)
    repeat any_goals first | assumption | wp_step
    refine codeAny_mono (codeAny_call_builtin (R := wants (fun v z => v = .none ∧ ∃ g tk c, z = { s with heap := g, toks := tk } ∧ SetR w g s.heap.objs.size (fun j => decide (j ∈ ns)) c ∧ c ≤ ns.length ∧
      (∀ b o, s.heap.get? b = some o → g.get? b = some o)) E) F.called_set.init.plain F.entry_set_init (check_set_init_1 typ ?_)) ?_
    · obtain ⟨⟨_, dict, _, slots⟩, got, rfl, n, rfl⟩ := la
      have inn : a < s.heap.objs.size := Heap.lt_size got
      have got1 := Heap.get?_push_of_some (so0 w) got
      have la1 : (s.heap.push (so0 w)).IsList a xs := ⟨_, got1, rfl, n, rfl⟩
      have s1 := F.sub_list_set
      have s2 := F.sub_list_frozenset
      have s3 : (Value.type "list" == Value.type "dict") = false := by decide
      unfold Builtin.«set.__init__» noKeywords Builtin.Frozenset.updateFrom
      generalize walk : pyIter = PI
      wp_walk
      subst walk
      have up : (s.heap.push (so0 w)).objs.size = s.heap.objs.size + 1 := Heap.size_push ..
      refine wpAny_pyIter_list la1 (wpAny_bind (wpAny_runValue ?_))
      refine set_update_ints ((Walks.list (A := A.in1.in1.in1) (by simp [quiet]) _ a (by rw [up]; exact Nat.ne_of_lt (Nat.lt_succ_of_lt inn)) xs).toS) s.heap.objs.size (by simp only [up, List.mem_cons, List.not_mem_nil, or_false, not_or]; exact ⟨Nat.ne_of_lt (Nat.lt_succ_self _), Nat.ne_of_gt inn⟩) ns size few item (xs.size - 0) 0 _ (by omega) (Nat.zero_le _)
        ⟨⟨_, Heap.get?_push_size _ rfl, rfl, rfl⟩, la1.push _⟩ ⟨0, Nat.le_refl 0, setR_new_at (Heap.get?_push_of_some _ at0)⟩ ?_
      rintro ⟨g, g2, d2, tk, os2⟩ c moved cl done
      obtain rfl : g2 = s.gens := moved.gens
      obtain rfl : d2 = s.drawn := moved.drawn
      obtain rfl : os2 = s.os := moved.os
      refine wpAny_pure (wpAny_pure ⟨rfl, g, tk, c, rfl, done, by omega, fun b o e => ?_⟩)
      have hb := Heap.lt_size e
      refine moved.heap b o ?_ (Heap.get?_push_of_some _ (Heap.get?_push_of_some _ e))
      simp only [up, List.mem_cons, List.not_mem_nil, or_false, not_or]
      exact ⟨Nat.ne_of_lt hb, Nat.ne_of_lt (Nat.lt_succ_of_lt hb)⟩
    · intro r₂ s₂ hr₂
      match r₂, hr₂ with
      | .error _, hr₂ => exact hr₂
      | .ok .next, hr₂ => exact hr₂.elim
      | .ok .brk, hr₂ => exact hr₂.elim
      | .ok .cont, hr₂ => exact hr₂.elim
      | .ok (.ret _), hr₂ =>
        obtain ⟨rfl, g, tk, c, rfl, done, cl, keep⟩ := hr₂
        repeat any_goals first | assumption | wp_step
        exact q _ _ _ done cl keep
end
/-- set(l) -/
def rSetLI (K : PySem.W.Frag) (w : World) : List V → Hp → VK → Prop := fun xs H Q => ∃ (l : Addr) (ns : List Int), xs = [V.ref l] ∧ SqL K H l (ns.map V.int) ∧ ns.length < 64 ∧
  ∀ a c, H a = none → c ≤ ns.length → Q (.ref a) (upd H a (SetO w a (fun j => decide (j ∈ ns)) c))
theorem cr_setLI {X : Cx} (hc : X.calm = true) : CallR X (.type "set") (rSetLI X.K X.w) := by
  intro pins s σ H xs us Q I r h
  obtain ⟨l, ns, rfl, hs, h64, q⟩ := h
  obtain ⟨its, rv, pl, hz⟩ := I.list hs
  rw [Vals.ref1 r]
  refine set_of_list (I.ok.hd hc) pl.isList (ns := ns) (by simpa using rv.ints) (by unfold scanBound; omega) fun g tk c done cl keep => ?_
  exact ⟨.ref _, upd H s.heap.objs.size (SetO X.w s.heap.objs.size (fun j => decide (j ∈ ns)) c), I.laid (t' := tk) keep (Nat.le_refl _) (setO_new done), rfl, q _ c (I.hok.fresh (Nat.le_refl _)) cl⟩
end L2

set_option Elab.async false
set_option linter.all false
set_option maxRecDepth 100000
set_option maxHeartbeats 1000000
/-! More readings told by data alone: chains of comparisons, zip, enumerate, maps, sorted. -/
namespace DL
open PySem PySem.Spec PyProof.Rows L2 ZK
section
variable {te ta tb tc : TE} {tt tu : TT} {tl tk : TA} {n : Nat} {δ : List SD} {K : Nat → PD → Prop} {KT : Nat → Bool → Prop} {KA : Nat → List PD → Prop} {Kf : PySem.W.Frag}
/-! ### a < b < c -/
theorem dw_chain {r r' : R2} {S S' : PD → PD → (PD → Prop) → Prop} (hr : RD r S) (hr' : RD r' S') (h : DW ta n δ fun n1 x => DW tb n1 δ fun n2 y => S x y fun z => ∃ k, z = .bl k ∧ if k = true then DW tc n2 δ fun n3 w => S' y w (K n3) else K n2 (.bl false)) : DW (tChain r r' ta tb tc) n δ K := by
  intro B σ H A R Q q
  refine h B σ H A R _ fun v H1 n1 x kx R1 c1 d1 => ?_
  refine kx B σ H1 A R1 _ fun w H2 n2 y ky R2 c2 d2 => ?_
  refine hr _ H2 v w x y _ _ (fun _ => R2.zdom) (R1.datGo c2 d1) d2 ky fun z H3 d hd e3 d3 => ?_
  obtain ⟨k, ek, kd⟩ := hd
  subst ek
  cases d3
  refine ⟨k, rfl, ?_⟩
  cases k with
  | true =>
    refine kd B σ H3 A (R2.ext e3) _ fun u H4 n4 dz kz R4 c4 d4 => ?_
    refine hr' _ H4 w u y dz (K n4) Q (fun _ => R4.zdom) ((R2.ext e3).datGo c4 (d2.same e3)) d4 kz fun z2 H5 d5 k5 e5 d6 => ?_
    exact q z2 H5 n4 d5 k5 (R4.ext e5) ((((c1.trans c2).trans (.of e3)).trans c4).trans (.of e5)) d6
  | false => exact q _ H3 n2 _ kd (R2.ext e3) ((c1.trans c2).trans (.of e3)) (.bl false)
/-! ### all that is owned as data -/
def asDat : List SD → List SD
  | [] => []
  | .own ds :: r => .dat (.lst ds) :: asDat r
  | a :: r => a :: asDat r
theorem wk_asDat : ∀ δ : List SD, Wk δ (asDat δ)
  | [] => trivial
  | .own ds :: r => ⟨.inr (.inr ⟨ds, rfl, rfl⟩), wk_asDat r⟩
  | .un :: r => ⟨.inl rfl, wk_asDat r⟩
  | .dat d :: r => ⟨.inl rfl, wk_asDat r⟩
  | .pot :: r => ⟨.inl rfl, wk_asDat r⟩
theorem ds_asDat {t : TS} {E : DE} (h : DS t n (asDat δ) E) : DS t n δ E := ds_wk _ h (wk_asDat δ)
/-- a look that gives a scalar -/
theorem dw_peek (h : DW te n (asDat δ) fun n1 d => d.scalar = true ∧ K n1 d) : DW te n δ K := dw_look _ (wk_asDat δ) h
theorem dt_peek (h : DT tt n (asDat δ) KT) : DT tt n δ KT := dt_look _ (wk_asDat δ) h
/-! ### a built-in with keywords -/
def RBK (r : List V → List V → Hp → VK → Prop) (S : List PD → List PD → (PD → Prop) → Prop) : Prop := ∀ (Z : Addr → Prop) (H : Hp) (xs zs : List V) (ds es : List PD) (Kd : PD → Prop) (Q : VK), (∀ b, Z b → H b ≠ none) → DatAll Z H xs ds → DatAll Z H zs es → S ds es Kd →
  (∀ v H' d, Kd d → Same H H' → Dat Z H' v d → Q v H') → r xs zs H Q
theorem dw_ckw {r : List V → List V → Hp → VK → Prop} {S : List PD → List PD → (PD → Prop) → Prop} (hr : RBK r S) (h : DA tl n δ fun n1 ds => DA tk n1 δ fun n2 es => S ds es (K n2)) : DW (tCKw r tl tk) n δ K := fun B σ H A R Q q =>
  h B σ H A R _ fun vs H1 n1 x kx R1 c1 d1 => kx B σ H1 A R1 _ fun zs H2 n2 y ky R2 c2 d2 => hr _ H2 vs zs x y (K n2) Q (fun _ => R2.zdom) (R1.allGo c2 d1) d2 ky fun z H3 d kd e3 d3 => q z H3 n2 d kd (R2.ext e3) ((c1.trans c2).trans (.of e3)) d3
end
section
variable {X : Cx} {Kf : PySem.W.Frag}
def rMinD (K : PySem.W.Frag) : List V → List V → Hp → VK → Prop := fun vs zs H Q => ∃ (a : Addr) (ns : List Int) (d : V), vs = [V.ref a] ∧ zs = [d] ∧ SqL K H a (ns.map V.int) ∧ (ns = [] → Q d H) ∧ ∀ m, m ∈ ns → (∀ y, y ∈ ns → m ≤ y) → Q (.int m) H
def rMaxD (K : PySem.W.Frag) : List V → List V → Hp → VK → Prop := fun vs zs H Q => ∃ (a : Addr) (ns : List Int) (d : V), vs = [V.ref a] ∧ zs = [d] ∧ SqL K H a (ns.map V.int) ∧ (ns = [] → Q d H) ∧ ∀ m, m ∈ ns → (∀ y, y ∈ ns → y ≤ m) → Q (.int m) H
theorem cr_minD (hc : X.calm = true) : CallRK X (.builtin "min") ["default"] (rMinD X.K) := by
  intro pins s σ H vs zs us ws Q I r rz h
  obtain ⟨a, ns, d, rfl, rfl, hs, q0, q⟩ := h
  obtain ⟨its, rv, hl, _⟩ := I.list hs
  rw [Vals.ref1 r]
  obtain ⟨w1, rfl, e1⟩ := vals1 rz
  exact MN.min_default (I.ok.hd hc) hl.isList rv.ints (fun e h' tk hk => ⟨d, H, I.kept hk, e1, q0 e⟩) fun h' tk m t' hk h1 h2 => ⟨.int _, H, I.kept hk, ⟨_, rfl⟩, q m h1 h2⟩
theorem cr_maxD (hc : X.calm = true) : CallRK X (.builtin "max") ["default"] (rMaxD X.K) := by
  intro pins s σ H vs zs us ws Q I r rz h
  obtain ⟨a, ns, d, rfl, rfl, hs, q0, q⟩ := h
  obtain ⟨its, rv, hl, _⟩ := I.list hs
  rw [Vals.ref1 r]
  obtain ⟨w1, rfl, e1⟩ := vals1 rz
  exact MN.max_default (I.ok.hd hc) hl.isList rv.ints (fun e h' tk hk => ⟨d, H, I.kept hk, e1, q0 e⟩) fun h' tk m t' hk h1 h2 => ⟨.int _, H, I.kept hk, ⟨_, rfl⟩, q m h1 h2⟩
def sMinD (xs zs : List PD) (K : PD → Prop) : Prop := ∃ (ns : List Int) (d : PD), xs = [.lst (ns.map .int)] ∧ zs = [d] ∧ K (if ns = [] then d else .int (minI ns))
def sMaxD (xs zs : List PD) (K : PD → Prop) : Prop := ∃ (ns : List Int) (d : PD), xs = [.lst (ns.map .int)] ∧ zs = [d] ∧ K (if ns = [] then d else .int (maxI ns))
theorem dat1 {Z : Addr → Prop} {H : Hp} {zs : List V} {d : PD} (h : DatAll Z H zs [d]) : ∃ v, zs = [v] ∧ Dat Z H v d := by
  cases h with
  | cons h t =>
    cases t
    exact ⟨_, rfl, h⟩
theorem min_eq {ns : List Int} {m : Int} (h1 : m ∈ ns) (h2 : ∀ y, y ∈ ns → m ≤ y) : minI ns = m := by
  have ne : ns ≠ [] := fun e => by rw [e] at h1; cases h1
  have := minI_spec ne
  have a := this.2 m h1
  have b := h2 _ this.1
  omega
theorem max_eq {ns : List Int} {m : Int} (h1 : m ∈ ns) (h2 : ∀ y, y ∈ ns → y ≤ m) : maxI ns = m := by
  have ne : ns ≠ [] := fun e => by rw [e] at h1; cases h1
  have := maxI_spec ne
  have a := this.2 m h1
  have b := h2 _ this.1
  omega
theorem rbk_minD : RBK (rMinD Kf) sMinD := by
  rintro Z H xs zs ds es Kd Q zd hx hz ⟨ns, d, rfl, rfl, k⟩ q
  obtain ⟨a, ys, rfl, h1, h2, h3, h4⟩ := lst1 hx
  obtain ⟨v, rfl, dv⟩ := dat1 hz
  have e := h4.ints
  subst e
  refine ⟨a, ns, v, rfl, rfl, .inl (.inl h1), fun e => ?_, fun m m1 m2 => ?_⟩
  · rw [if_pos e] at k
    exact q _ H _ k (fun _ _ e => e) dv
  · rw [if_neg (fun e => by rw [e] at m1; cases m1), min_eq m1 m2] at k
    exact q _ H _ k (fun _ _ e => e) (.int _)
theorem rbk_maxD : RBK (rMaxD Kf) sMaxD := by
  rintro Z H xs zs ds es Kd Q zd hx hz ⟨ns, d, rfl, rfl, k⟩ q
  obtain ⟨a, ys, rfl, h1, h2, h3, h4⟩ := lst1 hx
  obtain ⟨v, rfl, dv⟩ := dat1 hz
  have e := h4.ints
  subst e
  refine ⟨a, ns, v, rfl, rfl, .inl (.inl h1), fun e => ?_, fun m m1 m2 => ?_⟩
  · rw [if_pos e] at k
    exact q _ H _ k (fun _ _ e => e) dv
  · rw [if_neg (fun e => by rw [e] at m1; cases m1), max_eq m1 m2] at k
    exact q _ H _ k (fun _ _ e => e) (.int _)
/-! ### is, of truths -/
def rIsB : R2 := fun x y H Q => ∃ a b, x = .bl a ∧ y = .bl b ∧ Q (.bl (decide (a = b))) H
theorem op_isB : OpR X (compareOp .Is) rIsB := op_is_bl
def sIsB2 : PD → PD → (PD → Prop) → Prop
  | .bl i, .bl j, K => K (.bl (decide (i = j)))
  | _, _, _ => False
theorem rd_isB : RD rIsB sIsB2 := by
  intro Z H x y dx dy Kd Q zd hx hy hs q
  cases hx with
  | bl i =>
    cases hy with
    | bl j => exact ⟨i, j, rfl, rfl, q _ H _ hs (fun _ _ e => e) (.bl _)⟩
    | _ => exact hs.elim
  | _ => exact hs.elim
end
/-! ### zip -/
theorem paired_len {α β : Type} {F : α → β → Prop} : ∀ {xs : List α} {ys : List β}, Paired F xs ys → xs.length = ys.length
  | _, _, .nil => rfl
  | _, _, .cons _ t => congrArg Nat.succ (paired_len t)
def seqOf : PD → Option (List PD)
  | .lst xs => some xs
  | .tup xs => some xs
  | _ => none
def leastP : List (List PD) → Nat
  | [] => 0
  | [p] => p.length
  | p :: q :: r => min p.length (leastP (q :: r))
def rowP (Xs : List (List PD)) (i : Nat) : List PD := Xs.map fun xs => xs.getD i .non
def rowsP (Xs : List (List PD)) : List PD := (List.range (leastP Xs)).map fun i => .tup (rowP Xs i)
structure Held (Z : Addr → Prop) (H : Hp) (p : ArgV) (xs : List PD) : Prop where
  at_ : H p.2.1 = some (if p.1 = true then .lst p.2.2 else .tup p.2.2)
  off : ¬ Z p.2.1
  fit : p.2.2.length ≤ sizeLine
  all : DatAll Z H p.2.2 xs
theorem zargs {Z : Addr → Prop} {H : Hp} : ∀ {vs : List V} {ds : List PD} {Xs : List (List PD)}, DatAll Z H vs ds → ds.map seqOf = Xs.map some → ∃ as : List ArgV, vs = as.map (fun p => V.ref p.2.1) ∧ Paired (Held Z H) as Xs
  | _, _, [], .nil, _ => ⟨[], rfl, .nil⟩
  | _, _, _ :: _, .nil, e => by cases e
  | _, _, [], .cons _ _, e => by cases e
  | _, _, X :: Xs, .cons (d := d) h t, e => by
    obtain ⟨e1, e2⟩ := List.cons.inj e
    obtain ⟨as, r1, r2⟩ := zargs t e2
    cases h with
    | @lst a xs ds h1 h2 h3 h4 =>
      cases e1
      exact ⟨(true, a, xs) :: as, by rw [r1]; rfl, .cons ⟨h1, h2, h3, h4⟩ r2⟩
    | @tup a xs ds h1 h2 h3 h4 =>
      cases e1
      exact ⟨(false, a, xs) :: as, by rw [r1]; rfl, .cons ⟨h1, h2, h3, h4⟩ r2⟩
    | _ => cases e1
theorem held_sq {Z : Addr → Prop} {H H2 : Hp} {Kf : PySem.W.Frag} (k : ∀ b o, H b = some o → ¬ Z b → H2 b = some o) : ∀ {as : List ArgV} {Xs : List (List PD)}, Paired (Held Z H) as Xs → ∀ p ∈ as, if p.1 = true then SqL Kf H2 p.2.1 p.2.2 else SqT Kf H2 p.2.1 p.2.2
  | _, _, .nil, _, m => absurd m List.not_mem_nil
  | _, _, .cons h t, p, m => by
    rcases List.mem_cons.mp m with rfl | m
    · have := k _ _ h.at_ h.off
      by_cases b : p.1 = true
      · rw [if_pos b] at this ⊢
        exact .inl (.inl this)
      · rw [if_neg b] at this ⊢
        exact .inl (.inl this)
    · exact held_sq k t p m
theorem held_least {Z : Addr → Prop} {H : Hp} : ∀ {as : List ArgV} {Xs : List (List PD)}, Paired (Held Z H) as Xs → least as = leastP Xs
  | _, _, .nil => rfl
  | _, _, .cons (l₁ := []) h .nil => h.all.len
  | _, _, .cons (l₁ := a :: as) (l₂ := b :: bs) h t => by
    show min _ (least (a :: as)) = min _ (leastP (b :: bs))
    rw [held_least t, h.all.len]
theorem held_row {Z Z' : Addr → Prop} {H H' : Hp} {i : Nat} (k : ∀ b o, H b = some o → ¬ Z b → H' b = some o ∧ ¬ Z' b) : ∀ {as : List ArgV} {Xs : List (List PD)}, Paired (Held Z H) as Xs → (∀ p ∈ as, i < p.2.2.length) → DatAll Z' H' (rowV as i) (rowP Xs i)
  | _, _, .nil, _ => .nil
  | _, _, .cons (a := p) (b := xs) h t, l => by
    refine .cons ?_ (held_row k t fun p m => l p (List.mem_cons_of_mem _ m))
    have li := l _ List.mem_cons_self
    obtain ⟨d, e1, e2⟩ := h.all.get (List.getElem?_eq_getElem li)
    show Dat Z' H' (p.2.2.getD i .non) (xs.getD i .non)
    rw [List.getD_eq_getElem?_getD, List.getD_eq_getElem?_getD, e1, List.getElem?_eq_getElem li]
    exact e2.go k
theorem held_len {Z : Addr → Prop} {H : Hp} : ∀ {as : List ArgV} {Xs : List (List PD)}, Paired (Held Z H) as Xs → as.length = Xs.length
  | _, _, .nil => rfl
  | _, _, .cons _ t => congrArg Nat.succ (held_len t)
theorem Src.zip {Z : Addr → Prop} {H : Hp} {Kf : PySem.W.Frag} {as : List ArgV} {Xs : List (List PD)} (h : Paired (Held Z H) as Xs) (ne : as ≠ []) (few : as.length ≤ 24) : Src Z H (ItZ Kf (keysOf as)) (rowsP Xs) := by
  refine ⟨_, _, by rw [show (rowsP Xs).length = least as by simp [rowsP, held_least h]]; exact walk_zipK ne, fun H2 k => held_sq k h, ?_⟩
  rintro i H2 x H3 hi k ⟨T, rfl, nT, rfl⟩
  have il : i < least as := by simpa [rowsP, held_least h] using hi
  refine ⟨Pf.new_same nT, .tup (rowP Xs i), by rw [rowsP, List.getElem?_map, List.getElem?_range (by rw [← held_least h]; exact il)]; rfl, fun Z' w l => ?_⟩
  refine .tup upd_same (fun z => l T z nT) (by unfold rowV; rw [List.length_map]; exact Nat.le_trans few (by decide)) (held_row (fun b o e z => ⟨?_, fun y => ?_⟩) h fun p m => Nat.lt_of_lt_of_le il (least_le p m))
  · rw [upd_ne (fun q => by rw [q] at e; have := k T o e (q ▸ z); rw [nT] at this; cases this)]
    exact k b o e z
  · rcases w b y with y | y
    · exact z y
    · rw [y] at e
      cases e
section
variable {te ta tb tc : TE} {tt tu : TT} {tl tk : TA} {n : Nat} {δ : List SD} {K : Nat → PD → Prop} {KL : Nat → List PD → Prop} {Kf : PySem.W.Frag}
theorem di_zip (h : DA tl n δ fun n1 ds => ∃ Xs, ds.map seqOf = Xs.map some ∧ Xs ≠ [] ∧ Xs.length ≤ 24 ∧ KL n1 (rowsP Xs)) : DI (iZipK Kf tl) n δ KL := fun B σ H A R q z => h B σ H A R _ fun vs H1 n1 ds ⟨Xs, e, ne, few, k⟩ R1 c1 d1 => by
  obtain ⟨as, rfl, hp⟩ := zargs d1 e
  have ln := held_len hp
  have ne' : as ≠ [] := fun q => ne (List.eq_nil_of_length_eq_zero (by rw [← ln, q]; rfl))
  refine ⟨as, ⟨rfl, ne', by rw [ln]; exact few, held_sq (fun b o e _ => e) hp⟩, z _ H1 n1 _ k R1 c1 (.zip hp ne' (by rw [ln]; exact few))⟩
/-! ### enumerate -/
def enumP (xs : List PD) : List PD := (List.range xs.length).map fun i => .tup [.int (i : Nat), xs.getD i .non]
theorem Src.enum {Z : Addr → Prop} {H : Hp} {a : Addr} {vs : List V} {xs : List PD} (e : H a = some (.lst vs)) (z : ¬ Z a) (hd : DatAll Z H vs xs) : Src Z H (Ite Kf a) (enumP xs) := by
  refine ⟨_, _, by rw [show (enumP xs).length = vs.length by simp [enumP, hd.len]]; exact walk_enum (K := Kf) (a := a) (xs := vs), fun H2 k => Or.inl (Or.inl (k a _ e z)), ?_⟩
  rintro i H2 x H3 hi k ⟨T, u, v, rfl, nT, rfl, eu, ev⟩
  cases eu
  have ev : vs[i]? = some v := ev
  have il : i < xs.length := by simpa [enumP] using hi
  obtain ⟨d, e1, e2⟩ := hd.get ev
  refine ⟨Pf.new_same nT, .tup [.int (i : Nat), xs.getD i .non], by rw [enumP, List.getElem?_map, List.getElem?_range il]; rfl, fun Z' w l => ?_⟩
  refine .tup upd_same (fun z => l T z nT) (by show 2 ≤ sizeLine; decide) (.cons (.int _) (.cons ?_ .nil))
  rw [List.getD_eq_getElem?_getD, e1]
  refine e2.go fun b o e z => ⟨?_, fun y => ?_⟩
  · rw [upd_ne (fun q => by rw [q] at e; have := k T o e (q ▸ z); rw [nT] at this; cases this)]
    exact k b o e z
  · rcases w b y with y | y
    · exact z y
    · rw [y] at e
      cases e
theorem di_enum (h : DA tl n δ fun n1 ds => ∃ xs, ds = [.lst xs] ∧ KL n1 (enumP xs)) : DI (iEnum Kf tl) n δ KL := fun B σ H A R q z => h B σ H A R _ fun vs H1 n1 ds ⟨xs, e, k⟩ R1 c1 d1 => by
  subst e
  obtain ⟨a, ys, rfl, h1, h2, h3, h4⟩ := lst1 d1
  exact ⟨a, ys, rfl, .inl (.inl h1), z _ H1 n1 _ k R1 c1 (.enum h1 h2 h4)⟩
/-! ### list(zip(..)) -/
theorem rows_dat {Z Z' : Addr → Prop} {H H' : Hp} {as : List ArgV} {Xs : List (List PD)} (hp : Paired (Held Z H) as Xs) (k : ∀ b o, H b = some o → ¬ Z b → H' b = some o ∧ ¬ Z' b) (few : as.length ≤ 24) :
    ∀ {ts : List Addr} {js : List Nat}, (∀ j ∈ js, j < least as) → (∀ t ∈ ts, ¬ Z' t) → Paired (fun (t : Addr) (q : List V) => H' t = some (.tup q)) ts (js.map (rowV as)) → DatAll Z' H' (ts.map V.ref) (js.map fun i => .tup (rowP Xs i))
  | [], [], _, _, _ => .nil
  | t :: ts, [], _, _, h => by cases h
  | [], j :: js, _, _, h => by cases h
  | t :: ts, j :: js, hj, hz, h => by
    cases h with
    | cons h0 h1 =>
      refine .cons (.tup h0 (hz t List.mem_cons_self) (by unfold rowV; rw [List.length_map]; exact Nat.le_trans few (by decide)) (held_row k hp fun p m => Nat.lt_of_lt_of_le (hj j List.mem_cons_self) (least_le p m))) ?_
      exact rows_dat hp k few (fun i m => hj i (List.mem_cons_of_mem _ m)) (fun u m => hz u (List.mem_cons_of_mem _ m)) h1
def sZip (ds : List PD) (K : List PD → Prop) : Prop := ∃ Xs, ds.map seqOf = Xs.map some ∧ Xs ≠ [] ∧ Xs.length ≤ 24 ∧ leastP Xs ≤ sizeLine ∧ K (rowsP Xs)
theorem rbo_listZip : RBO (rListZip Kf) sZip := by
  rintro Z H xs ds Kd Q zd hx ⟨Xs, e, ne, few, fit, k⟩ q
  obtain ⟨as, rfl, hp⟩ := zargs hx e
  have ln := held_len hp
  have ne' : as ≠ [] := fun q => ne (List.eq_nil_of_length_eq_zero (by rw [← ln, q]; rfl))
  refine ⟨as, ⟨rfl, ne', by rw [ln]; exact few, held_sq (fun b o e _ => e) hp⟩, fun H' p ts s np nt pt ep pr off => ?_⟩
  have lt : ts.length = least as := by
    have : ts.length = (rowsV as).length := by
      exact paired_len pr
    rw [this]
    simp [rowsV]
  refine q p (ts.map V.ref) H' _ k np s (fun b h => ?_) ep (by rw [List.length_map, lt, held_least hp]; exact fit) ?_
  · cases e : H b with
    | none => rfl
    | some o => rw [s b o e] at h; cases h
  · have := rows_dat (Z' := fun b => Z b ∨ b = p) (H' := H') (ts := ts) (js := List.range (least as)) hp (fun b o e z => ⟨s b o e, fun y => y.elim z fun y => by rw [y, np] at e; cases e⟩) (by rw [ln]; exact few) (fun j m => List.mem_range.mp m) (fun t m y => y.elim (fun y => zd t y (nt t m)) fun y => pt (y ▸ m)) pr
    rw [held_least hp] at this
    exact this
/-- list(zip(*e)) -/
theorem do_listZipS (h : DW te n δ fun n1 d => ∃ ds, seqOf d = some ds ∧ sZip ds (KL n1)) : DO (fun σ H Q => te σ H fun x H1 => ∃ a xs, x = V.ref a ∧ (SqT Kf H1 a xs ∨ SqL Kf H1 a xs) ∧ rListZip Kf xs H1 Q) n δ KL := fun B σ H A R Q q =>
  h B σ H A R _ fun v H1 n1 d ⟨ds, e, k⟩ R1 c1 d1 => by
    have fin : ∀ {vs : List V}, DatAll (Zs B.Z δ A) H1 vs ds → rListZip Kf vs H1 Q := fun dv =>
      rbo_listZip _ H1 _ ds (KL n1) Q (fun _ => R1.zdom) dv k fun p ys H3 es kd f e3 back g3 l3 d3 => q p ys H3 n1 es kd (free_back R R1 c1 f) (R1.addS f e3 g3) (c1.trans (.of e3)) g3 l3 (d3.anti fun b z => by
        rcases z with z | z
        · rcases z with z | z
          · exact .inl (.inl z)
          · exact .inr z
        · exact .inl (.inr z))
    cases d1 with
    | @lst a xs _ h1 h2 h3 h4 =>
      cases e
      exact ⟨a, xs, rfl, .inr (.inl (.inl h1)), fin h4⟩
    | @tup a xs _ h1 h2 h3 h4 =>
      cases e
      exact ⟨a, xs, rfl, .inl (.inl (.inl h1)), fin h4⟩
    | _ => cases e
end
end DL

set_option Elab.async false
set_option linter.all false
set_option maxRecDepth 100000
set_option maxHeartbeats 1000000
/-! More readings told by data alone: sorted sets, maps, filters, draws in comprehensions. -/
namespace DL
open PySem PySem.Spec PyProof.Rows L2 ZK
section
variable {te ta tb tc : TE} {tt tu : TT} {tl tk : TA} {wi : TI} {g : TG} {ts vs : List Nat} {n : Nat} {δ : List SD} {K : Nat → PD → Prop} {KL : Nat → List PD → Prop} {Kf : PySem.W.Frag} {w : World}
theorem do_same {H H' : Hp} {B : Bs} {σ : L2.St} {A : Nat → Addr} {n1 : Nat} (R : Rep B n σ H δ A) (c : Chg B.p n n1 H H') (R1 : Rep B n1 σ H' δ A) {p : Addr} {ys : List V} {ds : List PD} {Q : VK} {H2 : Hp} (f : H' p = none) (e : Same H' H2) (back : ∀ b, H2 b = none → H' b = none) (g : H2 p = some (.lst ys)) (l : ys.length ≤ sizeLine)
    (hd : DatAll (fun b => Zs B.Z δ A b ∨ b = p) H2 ys ds) (kd : KL n1 ds) (q : ∀ q xs H' n' ds, KL n' ds → H q = none → Rep (B.add q) n' σ H' δ A → Chg B.p n n' H H' → H' q = some (.lst xs) → xs.length ≤ sizeLine → DatAll (Zs (B.add q).Z δ A) H' xs ds → Q (.ref q) H') : Q (.ref p) H2 :=
  q p ys H2 n1 ds kd (free_back R R1 c f) (R1.addS f e g) (c.trans (.of e)) g l (hd.anti fun b z => by
    rcases z with z | z
    · rcases z with z | z
      · exact .inl (.inl z)
      · exact .inr z
    · exact .inl (.inr z))
/-- sorted(set(xs)) of ints -/
theorem do_sortSet (h : DW te n δ fun n1 d => ∃ ns : List Int, d = .lst (ns.map .int) ∧ ns.length < 64 ∧ ∀ ms : List Int, ms.Pairwise (· < ·) → (∀ k, k ∈ ms ↔ k ∈ ns) → KL n1 (ms.map .int)) :
    DO (tCB (rSortedSet w) (tCons (tCB (rSetLI Kf w) (tCons te tNil)) tNil)) n δ KL := fun B σ H A R Q q =>
  h B σ H A R _ fun v H1 n1 d ⟨ns, e, few, k⟩ R1 c1 d1 => by
    subst e
    cases d1 with
    | @lst a ys _ h1 h2 h3 h4 =>
      have e := h4.ints
      subst e
      refine ⟨a, ns, rfl, .inl (.inl h1), few, fun b c hb cl => ⟨b, _, c, rfl, upd_same, by omega, fun ms p asc mem len hp => ?_⟩⟩
      have sm : Same H1 (upd H1 b (SetO w b (fun j => decide (j ∈ ns)) c)) := Pf.new_same hb
      have fp : H1 p = none := by
        cases e : H1 p with
        | none => rfl
        | some o => rw [sm p o e] at hp; cases hp
      refine do_same (KL := KL) R c1 R1 (H' := H1) (p := p) fp (sm.trans (Pf.new_same hp)) (fun x hx => ?_) upd_same (by rw [List.length_map, len]; exact Nat.le_trans cl (Nat.le_trans (Nat.le_of_lt few) (by decide))) .ofInts (k ms asc fun k => (mem k).trans (by simp)) q
      cases e : H1 x with
      | none => rfl
      | some o =>
        have := Pf.new_same (o := HO.lst (ms.map V.int)) hp x o (sm x o e)
        rw [this] at hx
        cases hx
/-- sorted(xs) of texts -/
def sSortS (xs : List PD) (K : List PD → Prop) : Prop := ∃ zs : List Str, xs = [.lst (zs.map .str)] ∧ zs.length < 64 ∧ ∀ ys : List Str, ys.Perm zs → K (ys.map .str)
theorem ofStrs {Z : Addr → Prop} {H : Hp} : ∀ {zs : List Str}, DatAll Z H (zs.map .str) (zs.map .str)
  | [] => .nil
  | z :: r => .cons (.str z) ofStrs
theorem rbo_sortS {Kf : PySem.W.Frag} : RBO (rSortedS Kf) sSortS := by
  rintro Z H xs ds Kd Q zd hx ⟨zs, rfl, lz, k⟩ q
  obtain ⟨a, ys, rfl, h1, h2, h3, h4⟩ := lst1 hx
  have e := h4.strs
  subst e
  refine ⟨a, zs, rfl, .inl (.inl h1), lz, fun ys p hp hs hf => ?_⟩
  exact q p _ _ _ (k ys hp) hf (new_same hf) (fun _ => upd_none) upd_same (by rw [List.length_map, hp.length_eq]; exact Nat.le_trans (Nat.le_of_lt lz) (by decide)) ofStrs
/-- t[::-1] -/
theorem dw_revT (h : DW te n δ fun n1 d => ∃ xs, d = .tup xs ∧ K n1 (.tup xs.reverse)) : DW (RVT.tRevT Kf te) n δ K := fun B σ H A R Q q => h B σ H A R _ fun v H1 n1 d ⟨xs, e, k⟩ R1 c1 d1 => by
  subst e
  cases d1 with
  | @tup a vs _ h1 h2 h3 h4 =>
    refine ⟨a, vs, rfl, .inl (.inl h1), fun p hp => ?_⟩
    have s := new_same (o := HO.tup vs.reverse) hp
    exact q _ _ n1 _ k (R1.ext s) (c1.trans (.of s)) (.tup upd_same (R1.free0 hp).2.2 (by rw [List.length_reverse]; exact h3) (h4.rev.same s))
/-! ### comprehensions -/
theorem take_one {α : Type} {xs : List α} {i : Nat} {x : α} (h : xs[i]? = some x) : xs.take (i + 1) = xs.take i ++ [x] := by
  rw [List.take_add_one, h]
  rfl
theorem lt_of_get {α : Type} {xs : List α} {i : Nat} {x : α} (h : xs[i]? = some x) : i < xs.length := (List.getElem?_eq_some_iff.mp h).1
/-- [f(x) for x in xs] -/
theorem do_map (f : PD → PD) (h : DI wi n δ fun n1 xs => xs.length ≤ sizeLine ∧ (∀ x ∈ xs, DG g ts x n1 (dwipe δ vs) fun n2 δ2 => n2 = n1 ∧ DW te n1 δ2 fun n4 y => n4 = n1 ∧ y = f x) ∧ KL n1 (xs.map f))
    (hv : noneOwn δ vs = true := by rfl) (hts : ∀ t ∈ ts, t ∈ vs := by decide) : DO (tLc wi g tYes te vs) n δ KL := by
  refine do_lc (ts := ts) ?_ hv hts
  intro B σ H A R q z
  refine h B σ H A R q fun J H1 n1 xs ⟨l, t, k⟩ R1 c1 s1 => z J H1 n1 xs ⟨fun i nb acc => nb = n1 ∧ acc = (xs.take i).map f, ⟨rfl, rfl⟩, ?_, ?_⟩ R1 c1 s1
  · rintro i x nb acc e ⟨rfl, rfl⟩
    intro B2 σ2 H2 A2 v R2 hd Q q2
    refine t x (List.mem_of_getElem? e) B2 σ2 H2 A2 v R2 hd Q fun σ3 H3 n3 δ3 ⟨e3, k3⟩ R3 c3 o3 w3 => q2 σ3 H3 n3 δ3 ?_ R3 c3 o3 w3
    subst e3
    refine dt_yes ?_
    rw [if_pos rfl]
    refine k3.mono ?_
    rintro n4 y ⟨rfl, rfl⟩
    have li := lt_of_get e
    refine ⟨by rw [List.length_map, List.length_take]; omega, rfl, ?_⟩
    rw [take_one e, List.map_append]
    rfl
  · rintro nb acc ⟨rfl, rfl⟩
    rw [List.take_length]
    exact k
/-- [f(x) for x in xs if p(x)] -/
theorem do_filter (p : PD → Bool) (f : PD → PD) (h : DI wi n δ fun n1 xs => xs.length ≤ sizeLine ∧ (∀ x ∈ xs, DG g ts x n1 (dwipe δ vs) fun n2 δ2 => n2 = n1 ∧ DT tt n1 δ2 fun n3 c => n3 = n1 ∧ c = p x ∧ (c = true → DW te n1 δ2 fun n4 y => n4 = n1 ∧ y = f x)) ∧ KL n1 ((xs.filter p).map f))
    (hv : noneOwn δ vs = true := by rfl) (hts : ∀ t ∈ ts, t ∈ vs := by decide) : DO (tLc wi g tt te vs) n δ KL := by
  refine do_lc (ts := ts) ?_ hv hts
  intro B σ H A R q z
  refine h B σ H A R q fun J H1 n1 xs ⟨l, t, k⟩ R1 c1 s1 => z J H1 n1 xs ⟨fun i nb acc => nb = n1 ∧ acc = ((xs.take i).filter p).map f, ⟨rfl, rfl⟩, ?_, ?_⟩ R1 c1 s1
  · rintro i x nb acc e ⟨rfl, rfl⟩
    intro B2 σ2 H2 A2 v R2 hd Q q2
    refine t x (List.mem_of_getElem? e) B2 σ2 H2 A2 v R2 hd Q fun σ3 H3 n3 δ3 ⟨e3, k3⟩ R3 c3 o3 w3 => q2 σ3 H3 n3 δ3 ?_ R3 c3 o3 w3
    subst e3
    refine k3.mono ?_
    rintro n5 c ⟨rfl, rfl, k5⟩
    have li := lt_of_get e
    have tl : ((xs.take i).filter p).length ≤ i := Nat.le_trans (List.length_filter_le ..) (by rw [List.length_take]; omega)
    by_cases hc : p x = true
    · rw [if_pos hc]
      refine (k5 hc).mono ?_
      rintro n4 y ⟨rfl, rfl⟩
      refine ⟨by rw [List.length_map]; omega, rfl, ?_⟩
      rw [take_one e, List.filter_append, List.map_append, List.filter_cons_of_pos hc]
      rfl
    · rw [if_neg hc]
      refine ⟨rfl, ?_⟩
      rw [take_one e, List.filter_append, List.filter_cons_of_neg hc]
      simp
  · rintro nb acc ⟨rfl, rfl⟩
    rw [List.take_length]
    exact k
/-- each item is drawn, with at most c draws -/
inductive Each (R : PD → PD → Prop) : List PD → List PD → Prop
  | nil : Each R [] []
  | cons {x y : PD} {xs ys : List PD} : R x y → Each R xs ys → Each R (x :: xs) (y :: ys)
theorem Each.snoc {R : PD → PD → Prop} {x y : PD} : ∀ {xs ys : List PD}, Each R xs ys → R x y → Each R (xs ++ [x]) (ys ++ [y])
  | _, _, .nil, r => .cons r .nil
  | _, _, .cons a t, r => .cons a (t.snoc r)
theorem Each.len {R : PD → PD → Prop} : ∀ {xs ys : List PD}, Each R xs ys → xs.length = ys.length
  | _, _, .nil => rfl
  | _, _, .cons _ t => congrArg Nat.succ t.len
theorem Each.get {R : PD → PD → Prop} : ∀ {xs ys : List PD} {i : Nat} {y : PD}, Each R xs ys → ys[i]? = some y → ∃ x, xs[i]? = some x ∧ R x y
  | _, _, _, _, .nil, h => by simp at h
  | _, _, 0, _, .cons a t, h => by
    simp at h
    subst h
    exact ⟨_, rfl, a⟩
  | _, _, i + 1, _, .cons a t, h => by
    obtain ⟨x, e, r⟩ := Each.get (i := i) t (by simpa using h)
    exact ⟨x, by simpa using e, r⟩
theorem Each.mem {R : PD → PD → Prop} {xs ys : List PD} {y : PD} (h : Each R xs ys) (m : y ∈ ys) : ∃ x ∈ xs, R x y := by
  obtain ⟨i, hi, e⟩ := List.getElem_of_mem m
  obtain ⟨x, ex, r⟩ := h.get (i := i) (y := y) (by rw [List.getElem?_eq_getElem hi, e])
  exact ⟨x, List.mem_of_getElem? ex, r⟩
theorem do_draw (c : Nat) (P : PD → PD → Prop) (h : DI wi n δ fun n1 xs => xs.length ≤ sizeLine ∧ xs.length * c ≤ n1 ∧ (∀ x ∈ xs, ∀ nb, c ≤ nb → DG g ts x nb (dwipe δ vs) fun n2 δ2 => n2 = nb ∧ DW te nb δ2 fun n4 y => n4 = nb - c ∧ P x y) ∧ ∀ ys, Each P xs ys → KL (n1 - xs.length * c) ys)
    (hv : noneOwn δ vs = true := by rfl) (hts : ∀ t ∈ ts, t ∈ vs := by decide) : DO (tLc wi g tYes te vs) n δ KL := by
  refine do_lc (ts := ts) ?_ hv hts
  intro B σ H A R q z
  refine h B σ H A R q fun J H1 n1 xs ⟨l, lc, t, k⟩ R1 c1 s1 => z J H1 n1 xs ⟨fun i nb acc => nb = n1 - i * c ∧ i ≤ xs.length ∧ Each P (xs.take i) acc, ⟨by simp, Nat.zero_le _, .nil⟩, ?_, ?_⟩ R1 c1 s1
  · rintro i x nb acc e ⟨rfl, il, ea⟩
    have li := lt_of_get e
    have room : c ≤ n1 - i * c := by
      have : (i + 1) * c ≤ xs.length * c := Nat.mul_le_mul_right c li
      rw [Nat.succ_mul] at this
      omega
    intro B2 σ2 H2 A2 v R2 hd Q q2
    refine t x (List.mem_of_getElem? e) _ room B2 σ2 H2 A2 v R2 hd Q fun σ3 H3 n3 δ3 ⟨e3, k3⟩ R3 c3 o3 w3 => q2 σ3 H3 n3 δ3 ?_ R3 c3 o3 w3
    subst e3
    refine dt_yes ?_
    rw [if_pos rfl]
    refine k3.mono ?_
    rintro n4 y ⟨rfl, py⟩
    have al := ea.len
    rw [List.length_take] at al
    refine ⟨by omega, by rw [Nat.succ_mul]; omega, li, ?_⟩
    rw [take_one e]
    exact ea.snoc py
  · rintro nb acc ⟨rfl, il, ea⟩
    rw [List.take_length] at ea
    exact k acc ea
end
end DL

set_option Elab.async false
set_option linter.all false
/-! A comprehension inside a comprehension. -/
namespace DL
open PySem PySem.Spec PyProof.Rows L2
theorem blkIn {N : List Str} {sc scope inner : Scope} {cl : List (Str × Addr)} {C : Addr} {env : Env} {own : List (Str × Nat)} (he : env.scope = sc) (h : blkC N (relS scope sc) inner own = true) :
    BlkOk N (compEnvC scope cl C env).scope inner own := by
  have e : (compEnvC scope cl C env).scope = relS scope env.scope := rfl
  rw [e, he]
  exact blkOk_by h
/-- a, b, c = x, y, z of plain local names -/
theorem ds_par3 {tl : TA} {n : Nat} {δ : List SD} {E : DE} {i j l : Nat} (h : DM tl n δ fun n1 as => as.length = 3 ∧ E.nx n1 (setsD δ [i, j, l] as)) (o : okTs δ [i, j, l] = true := by rfl) : DS (tPar3 i j l tl) n δ E := fun B σ H A R D k1 k2 k3 k4 =>
  h B σ H A R _ fun vs H1 n1 as L ⟨ll, ha⟩ f R1 c1 g => by
    have e := g.len
    match vs, e.trans ll, g with
    | [u, v, w], _, g =>
      refine ⟨u, v, w, rfl, ?_⟩
      obtain ⟨A', R', ow⟩ := R1.adopts (is := [i, j, l]) (vs := [u, v, w]) o rfl (fun q m => ⟨fun z => R.domN q z (f q m), (R.free0 (f q m)).1, R.np (f q m)⟩) g
      exact k1 _ H1 A' n1 _ ha R' (.adds (is := [i, j, l]) (as := as) R R' c1 f ow)
/-- tuple(xs), list(xs), with the fragment named -/
abbrev rTupOf (K : PySem.W.Frag) : List V → Hp → VK → Prop := fun xs H Q => ∃ p ys, xs = [.ref p] ∧ ((SqL K H p ys ∧ ∀ l, H l = none → Q (.ref l) (upd H l (.tup ys))) ∨ (SqT K H p ys ∧ Q (.ref p) H))
abbrev rLstOf (K : PySem.W.Frag) : List V → Hp → VK → Prop := fun xs H Q => ∃ p ys, xs = [.ref p] ∧ (SqL K H p ys ∨ SqT K H p ys) ∧ ∀ l, H l = none → Q (.ref l) (upd H l (.lst ys))
end DL

set_option Elab.async false
set_option linter.all false
/-! Dicts written out. -/
namespace DL
open PySem PySem.Spec PyProof.Rows L2
section
variable {tv : TE} {n : Nat} {δ : List SD} {K : Nat → PD → Prop}
theorem dw_dnew (k : K n (.dic [] [])) : DW tDNewK n δ K := fun B σ H A R Q q p f =>
  q (.ref p) _ n _ k (R.ext (new_same f)) (.of (new_same f)) (.dic (kvs := []) upd_same (R.free0 f).2.2 (Nat.zero_le _) .nil)
theorem dw_disp1 {s : Str} (h : DW tv n δ fun n1 d => K n1 (.dic [.inr s] [d])) : DW (tDisp [(tC (.str s), tv)]) n δ K := fun B σ H A R Q q p f => by
  obtain ⟨f0, f1, f2⟩ := R.free0 f
  refine h (B.add p) σ _ A (R.more f) _ fun v H2 n2 d k R2 c2 d2 => ?_
  have off := R.newOff f (k := n2) (l := n) (Nat.le_trans c2.1 R.le) R.le
  refine ⟨c2.2 p _ upd_same off, [(.inr s, v)], rfl, (by decide : 1 ≤ 15), ?_⟩
  have zz : ∀ b, Zs B.Z δ A b → Zs (B.add p).Z δ A b := fun b z => z.imp .inl id
  refine q (.ref p) _ n2 _ k ((R2.poke (.inr rfl) f0 (fun g => R.np f g)).less' f0 (R.np f) f1) ⟨c2.1, fun b o e w => ?_⟩ (.dic (kvs := [(.inr s, v)]) upd_same f2 (by decide : 1 ≤ sizeLine) (.cons ?_ .nil))
  · rw [upd_ne (ne_of_none e f)]
    exact c2.2 b o (new_same f b o e) w
  · refine d2.go fun b u e z => ⟨?_, fun y => z (zz b y)⟩
    rw [upd_ne (fun w => z (.inl (.inr w)))]
    exact e
end
end DL

set_option Elab.async false
set_option linter.all false
set_option maxRecDepth 100000
/-! The text of the program and of the law. -/
namespace DL
open PySem PySem.Spec PyProof.Rows L2
def topS (i : Nat) : Stmt := PySem.Challenge.pw_piecefacts_k26_candidates_of_anything.main.body.getD i (.Pass ⟨0, 0, 0, 0⟩)
theorem _root_.L2.Room.u64 {k : Nat} {A : Around} (r : Room k A) : A.units + 64 < cLine := by
  have := r.un
  omega
structure Txt (mg : Str → Option Value) : Prop where
  b_abs : mg "abs" = none
  b_all : mg "all" = none
  b_bool : mg "bool" = none
  b_enumerate : mg "enumerate" = none
  b_int : mg "int" = none
  b_isinstance : mg "isinstance" = none
  b_len : mg "len" = none
  b_list : mg "list" = none
  b_max : mg "max" = none
  b_min : mg "min" = none
  b_range : mg "range" = none
  b_repr : mg "repr" = none
  b_set : mg "set" = none
  b_sorted : mg "sorted" = none
  b_sum : mg "sum" = none
  b_tuple : mg "tuple" = none
  b_zip : mg "zip" = none
  g_LOWEST : ∃ u, mg "LOWEST" = some u ∧ RelV (.int (-9999)) u
  g_HIGHEST : ∃ u, mg "HIGHEST" = some u ∧ RelV (.int (9999)) u
abbrev s_is_number : Stmt := topS 3
theorem sc_is_number : FnScope ["value"] ["value"] (defScope s_is_number) := ⟨rfl, rfl, rfl, by decide +kernel, rfl, by decide +kernel, by decide +kernel⟩
abbrev s_is_between : Stmt := topS 4
theorem sc_is_between : FnScope ["value", "low", "high"] ["value", "low", "high"] (defScope s_is_between) := ⟨rfl, rfl, rfl, by decide +kernel, rfl, by decide +kernel, by decide +kernel⟩
abbrev s_is_value : Stmt := topS 5
theorem sc_is_value : FnScope ["value"] ["value"] (defScope s_is_value) := ⟨rfl, rfl, rfl, by decide +kernel, rfl, by decide +kernel, by decide +kernel⟩
abbrev s_is_row : Stmt := topS 6
theorem sc_is_row : FnScope ["value", "many", "entry"] ["value", "many"] (defScope s_is_row) := ⟨rfl, rfl, rfl, by decide +kernel, rfl, by decide +kernel, by decide +kernel⟩
abbrev s_place_of : Stmt := topS 8
theorem sc_place_of : FnScope ["cuts", "value", "point"] ["cuts", "value"] (defScope s_place_of) := ⟨rfl, rfl, rfl, by decide +kernel, rfl, by decide +kernel, by decide +kernel⟩
abbrev s_facts_of : Stmt := topS 10
theorem sc_facts_of : FnScope ["columns", "cuts", "rows", "lines", "found", "column", "points", "values"] ["columns", "cuts", "rows"] (defScope s_facts_of) := ⟨rfl, rfl, rfl, by decide +kernel, rfl, by decide +kernel, by decide +kernel⟩
abbrev s_names_in : Stmt := topS 11
theorem sc_names_in : FnScope ["facts", "column"] ["facts"] (defScope s_names_in) := ⟨rfl, rfl, rfl, by decide +kernel, rfl, by decide +kernel, by decide +kernel⟩
abbrev s_column_facts : Stmt := topS 12
theorem sc_column_facts : FnScope ["column", "points", "values", "there", "groups", "pairs", "value", "k", "group"] ["column", "points", "values"] (defScope s_column_facts) := ⟨rfl, rfl, rfl, by decide +kernel, rfl, by decide +kernel, by decide +kernel⟩
abbrev s_shows_candidate : Stmt := topS 14
theorem sc_shows_candidate : FnScope ["facts", "value", "size", "columns", "row", "column"] ["facts", "value"] (defScope s_shows_candidate) := ⟨rfl, rfl, rfl, by decide +kernel, rfl, by decide +kernel, by decide +kernel⟩
abbrev s__law_pot : Stmt := topS 16
theorem sc__law_pot : FnScope ["_law_script", "_law_k", "_law_cell", "_law_own"] ["_law_script", "_law_k"] (defScope s__law_pot) := ⟨rfl, rfl, rfl, by decide +kernel, rfl, by decide +kernel, by decide +kernel⟩
abbrev s__law_draw : Stmt := topS 17
theorem sc__law_draw : FnScope ["_law_pot_here", "_law_many", "_law_digit", "_law_prime", "_law_made"] ["_law_pot_here", "_law_many"] (defScope s__law_draw) := ⟨rfl, rfl, rfl, by decide +kernel, rfl, by decide +kernel, by decide +kernel⟩
abbrev s__law_any : Stmt := topS 18
theorem sc__law_any : FnScope ["_law_pot_here", "_law_items"] ["_law_pot_here", "_law_items"] (defScope s__law_any) := ⟨rfl, rfl, rfl, by decide +kernel, rfl, by decide +kernel, by decide +kernel⟩
abbrev s__law_mixed : Stmt := topS 19
theorem sc__law_mixed : FnScope ["_law_pot_here", "_law_items", "_law_left", "_law_found"] ["_law_pot_here", "_law_items"] (defScope s__law_mixed) := ⟨rfl, rfl, rfl, by decide +kernel, rfl, by decide +kernel, by decide +kernel⟩
abbrev s__law_names : Stmt := topS 20
theorem sc__law_names : FnScope ["_law_pot_here", "_law_many"] ["_law_pot_here", "_law_many"] (defScope s__law_names) := ⟨rfl, rfl, rfl, by decide +kernel, rfl, by decide +kernel, by decide +kernel⟩
abbrev s__law_part : Stmt := topS 21
theorem sc__law_part : FnScope ["_law_pot_here", "_law_size", "_law_spread", "_law_low", "_law_points", "_law_values", "_law_turn", "_law_value"] ["_law_pot_here", "_law_size", "_law_spread"] (defScope s__law_part) := ⟨rfl, rfl, rfl, by decide +kernel, rfl, by decide +kernel, by decide +kernel⟩
abbrev s__law_column_facts : Stmt := topS 22
theorem sc__law_column_facts : FnScope ["_law_column", "_law_cuts", "_law_values", "_law_known", "_law_ends", "_law_buckets", "_law_low", "_law_high", "_law_some", "_law_least", "_law_greatest", "_law_value"] ["_law_column", "_law_cuts", "_law_values"] (defScope s__law_column_facts) := ⟨rfl, rfl, rfl, by decide +kernel, rfl, by decide +kernel, by decide +kernel⟩
abbrev s__law_facts_of : Stmt := topS 23
theorem sc__law_facts_of : FnScope ["_law_names_here", "_law_parts", "_law_rows", "_law_found", "_law_at", "_law_name", "_law_row"] ["_law_names_here", "_law_parts", "_law_rows"] (defScope s__law_facts_of) := ⟨rfl, rfl, rfl, by decide +kernel, rfl, by decide +kernel, by decide +kernel⟩
abbrev s__law_rows_of : Stmt := topS 24
theorem sc__law_rows_of : FnScope ["_law_parts", "_law_size", "_law_at", "_law_part_here"] ["_law_parts", "_law_size"] (defScope s__law_rows_of) := ⟨rfl, rfl, rfl, by decide +kernel, rfl, by decide +kernel, by decide +kernel⟩
abbrev s__law_case : Stmt := topS 25
theorem sc__law_case : FnScope ["_law_pot_here", "_law_most", "_law_spread", "_law_size", "_law_names_here", "_law_parts", "_law_rows", "_law_name"] ["_law_pot_here", "_law_most", "_law_spread"] (defScope s__law_case) := ⟨rfl, rfl, rfl, by decide +kernel, rfl, by decide +kernel, by decide +kernel⟩
abbrev s__law_is_value : Stmt := topS 26
theorem sc__law_is_value : FnScope ["_law_value"] ["_law_value"] (defScope s__law_is_value) := ⟨rfl, rfl, rfl, by decide +kernel, rfl, by decide +kernel, by decide +kernel⟩
abbrev s__law_are_rows : Stmt := topS 27
theorem sc__law_are_rows : FnScope ["_law_value", "_law_size", "_law_width", "_law_row", "_law_one"] ["_law_value", "_law_size", "_law_width"] (defScope s__law_are_rows) := ⟨rfl, rfl, rfl, by decide +kernel, rfl, by decide +kernel, by decide +kernel⟩
abbrev s__law_is_candidate : Stmt := topS 28
theorem sc__law_is_candidate : FnScope ["_law_names_here", "_law_parts", "_law_facts", "_law_value"] ["_law_names_here", "_law_parts", "_law_facts", "_law_value"] (defScope s__law_is_candidate) := ⟨rfl, rfl, rfl, by decide +kernel, rfl, by decide +kernel, by decide +kernel⟩
abbrev s__law_mixed_columns : Stmt := topS 29
theorem sc__law_mixed_columns : FnScope ["_law_pot_here", "_law_rows", "_law_columns", "_law_at", "_law_row", "_law_column"] ["_law_pot_here", "_law_rows"] (defScope s__law_mixed_columns) := ⟨rfl, rfl, rfl, by decide +kernel, rfl, by decide +kernel, by decide +kernel⟩
abbrev s__law_odd : Stmt := topS 30
theorem sc__law_odd : FnScope ["_law_pot_here", "_law_value", "_law_some"] ["_law_pot_here", "_law_value"] (defScope s__law_odd) := ⟨rfl, rfl, rfl, by decide +kernel, rfl, by decide +kernel, by decide +kernel⟩
abbrev s__law_changed : Stmt := topS 31
theorem sc__law_changed : FnScope ["_law_pot_here", "_law_value", "_law_deep", "_law_at"] ["_law_pot_here", "_law_value", "_law_deep"] (defScope s__law_changed) := ⟨rfl, rfl, rfl, by decide +kernel, rfl, by decide +kernel, by decide +kernel⟩
abbrev s__law_right : Stmt := topS 32
theorem sc__law_right : FnScope ["_law_pot_here", "_law_names_here", "_law_parts", "_law_rows", "_law_facts", "_law_some", "_law_turn", "_law_value", "_law_row"] ["_law_pot_here"] (defScope s__law_right) := ⟨rfl, rfl, rfl, by decide +kernel, rfl, by decide +kernel, by decide +kernel⟩
abbrev s_law : Stmt := topS 33
theorem sc_law : FnScope ["_law_script", "_law_k", "_law_pot_here", "_law_turn"] ["_law_script"] (defScope s_law) := ⟨rfl, rfl, rfl, by decide +kernel, rfl, by decide +kernel, by decide +kernel⟩
end DL

set_option Elab.async false
set_option linter.all false
namespace DL
open PySem PySem.Spec PyProof.Rows L2 ZK
section
variable {K : PD → Prop} {i j : Int} {xs ys : List PD} {d e x : PD}
theorem s_addI (k : K (.int (i + j))) : sAdd (.int i) (.int j) K := k
theorem s_addL (l : xs.length + ys.length ≤ sizeLine) (k : K (.lst (xs ++ ys))) : sAdd (.lst xs) (.lst ys) K := ⟨l, k⟩
theorem s_addT (l : xs.length + ys.length ≤ sizeLine) (k : K (.tup (xs ++ ys))) : sAdd (.tup xs) (.tup ys) K := ⟨l, k⟩
theorem s_ixL (h : atI xs i = some x) (k : K x) : sIx (.lst xs) (.int i) K := ⟨x, h, k⟩
theorem s_ixT (h : atI xs i = some x) (k : K x) : sIx (.tup xs) (.int i) K := ⟨x, h, k⟩
theorem s_I {C : Int → Int → Prop} {g : Int → Int → PD} (c : C i j) (k : K (g i j)) : sI C g (.int i) (.int j) K := ⟨c, k⟩
theorem s_I0 {g : Int → Int → PD} (k : K (g i j)) : sI0 g (.int i) (.int j) K := k
theorem s_neg (k : K (.int (-i))) : sNeg (.int i) K := k
theorem s_eq (a : okE d = true) (b : okE e = true) (k : K (.bl (PyData.eqv d.py e.py))) : sEq d e K := ⟨a, b, k⟩
theorem s_ne (a : okE d = true) (b : okE e = true) (k : K (.bl (!PyData.eqv d.py e.py))) : sNe d e K := ⟨a, b, k⟩
theorem s_lenL (k : K (.int xs.length)) : sLen [.lst xs] K := k
theorem s_lenT (k : K (.int xs.length)) : sLen [.tup xs] K := k
theorem s_isI (b : d.base = true) (k : K (.bl d.isInt)) : sIsI [d, .ty "int"] K := ⟨rfl, b, k⟩
theorem s_isB (b : d.base = true) (k : K (.bl d.isBool)) : sIsB [d, .ty "bool"] K := ⟨rfl, b, k⟩
theorem s_isT (b : d.base = true) (k : K (.bl d.isTup)) : sIsT [d, .ty "tuple"] K := ⟨rfl, b, k⟩
theorem s_isS (b : d.base = true) (k : K (.bl d.isStr)) : sIsS [d, .ty "str"] K := ⟨rfl, b, k⟩
theorem s_slL {lo hi : Option Int} (k : K (.lst (cutP xs lo hi))) : sSl (.lst xs) lo hi K := k
theorem s_slT {lo hi : Option Int} (k : K (.tup (cutP xs lo hi))) : sSl (.tup xs) lo hi K := k
theorem s_isBB {a b : Bool} (k : K (.bl (decide (a = b)))) : sIsB2 (.bl a) (.bl b) K := k
theorem s_tupL (k : K (.tup xs)) : sTup [.lst xs] K := k
theorem s_tupT (k : K (.tup xs)) : sTup [.tup xs] K := k
theorem s_lsT {KK : List PD → Prop} (k : KK xs) : sList [.tup xs] KK := k
theorem s_lsL {KK : List PD → Prop} (k : KK xs) : sList [.lst xs] KK := k
theorem s_sum {ns : List Int} (k : K (.int ns.sum)) : sSum [.lst (ns.map .int)] K := ⟨ns, rfl, k⟩
theorem s_2 {g : Int → Int → Int} (k : K (.int (g i j))) : s2 g [.int i, .int j] K := k
theorem s_minD {ns : List Int} (k : K (if ns = [] then d else .int (minI ns))) : sMinD [.lst (ns.map .int)] [d] K := ⟨ns, d, rfl, rfl, k⟩
theorem s_maxD {ns : List Int} (k : K (if ns = [] then d else .int (maxI ns))) : sMaxD [.lst (ns.map .int)] [d] K := ⟨ns, d, rfl, rfl, k⟩
theorem s_bl {b : Bool} {KT : Bool → Prop} (k : KT b) : ∃ k, PD.bl b = .bl k ∧ KT k := ⟨_, rfl, k⟩
theorem s_int {KT : Int → Prop} (k : KT i) : ∃ k, PD.int i = .int k ∧ KT k := ⟨_, rfl, k⟩
theorem s_lst {KT : List PD → Prop} (k : KT xs) : ∃ k, PD.lst xs = .lst k ∧ KT k := ⟨_, rfl, k⟩
theorem s_tup {KT : List PD → Prop} (k : KT xs) : ∃ k, PD.tup xs = .tup k ∧ KT k := ⟨_, rfl, k⟩
theorem s_cons {KT : PD → List PD → Prop} (k : KT x xs) : ∃ a r, x :: xs = a :: r ∧ KT a r := ⟨_, _, rfl, k⟩
theorem s_if {c : Bool} {P Q : Prop} (a : c = true → P) (b : c = false → Q) : if c = true then P else Q := by
  cases c with
  | true => exact a rfl
  | false => exact b rfl
end
section
variable {tt : TT} {te : TE} {n : Nat} {δ : List SD}
/-- .. of a value by position -/
theorem dg_at {i : Nat} {x : PD} {K : Nat → List SD → Prop} (h : notOwn δ[i]? = true ∧ K n (δ.set i (.dat x))) : DG (gName i) [i] x n δ K := dg_name h.2 h.1
theorem dgs_nl {K : Nat → List SD → Prop} {xs : List PD} (h : xs = [] ∧ K n δ) : DGs gNil [] xs n δ K := dgs_nil h.1 h.2
theorem dgs_1 {i : Nat} {gs : TGs} {us : List Nat} {K : Nat → List SD → Prop} {xs : List PD} (h : ∃ x r, xs = x :: r ∧ DG (gName i) [i] x n δ fun n1 δ1 => DGs gs us r n1 δ1 K) : DGs (gCons (gName i) gs) (i :: us) xs n δ K := dgs_cons (ts := [i]) h
theorem dw_at {i : Nat} {K : Nat → PD → Prop} (h : ∃ d, δ[i]? = some (SD.dat d) ∧ K n d) : DW (tVar i) n δ K := let ⟨_, e, k⟩ := h; dw_var e k
end
/-- one step of a reading that only one rule fits -/
local macro_rules | `(tactic| walk_at "dl1") => `(tactic| with_reducible first
  | refine ds_seq ?_ | refine ds_ret ?_ | refine ds_retN ?_ | refine ds_next ?_ | refine ds_if ?_ | refine ds_brk ?_ | refine ds_cont ?_
  | refine dw_int ?_ | refine dw_bl ?_ | refine dw_str ?_ | refine dw_ty ?_ | refine dw_non ?_ | refine dw_dnew ?_ | refine dw_disp1 ?_
  | refine dw_op rd_add ?_ | refine dw_op rd_ix ?_ | refine dw_op rd_eq ?_ | refine dw_op rd_ne ?_ | refine dw_op rd_isB ?_ | refine dw_op rd_B0 ?_ | refine dw_op rd_I0 ?_ | refine dw_op rd_I ?_ | refine dw_un ru_neg ?_
  | refine dw_chain rd_B0 rd_B0 ?_
  | refine dw_cb rb_len ?_ | refine dw_cb rb_sum ?_ | refine dw_cb rb_min ?_ | refine dw_cb rb_max ?_ | refine dw_cb rb_2 ?_ | refine dw_cb rb_1 ?_ | refine dw_cb rb_int ?_ | refine dw_cb rb_all ?_ | refine dw_cb rb_any ?_ | refine dw_cb rb_tup ?_ | refine dw_cb rb_isI ?_ | refine dw_cb rb_isB ?_ | refine dw_cb rb_isT ?_ | refine dw_cb rb_isS ?_ | refine dw_cb rb_repr ?_
  | refine dw_ckw rbk_minD ?_ | refine dw_ckw rbk_maxD ?_
  | refine dw_sl rsl_all ?_ | refine dp_no ?_ | refine dp_part ?_
  | refine dw_tup ?_ | refine dw_if ?_ | refine dw_andV ?_ | refine dw_orV ?_ | refine dw_notV ?_ | refine dw_isN ?_ | refine dw_notN ?_
  | refine dt_test ?_ | refine dt_B ?_ | refine dt_and ?_ | refine dt_or ?_ | refine dt_not ?_ | refine dt_yes ?_
  | refine da_nil ?_ | refine da_cons ?_
  | refine dg_tup ?_ | refine dgs_1 ?_ | refine dgs_cons ?_
  | refine s_addI ?_ | refine s_I0 ?_ | refine s_neg ?_ | refine s_lenL ?_ | refine s_lenT ?_ | refine s_slL ?_ | refine s_slT ?_ | refine s_isBB ?_ | refine s_tupL ?_ | refine s_tupT ?_ | refine s_sum ?_ | refine s_lsT ?_ | refine s_lsL ?_ | refine s_2 ?_ | refine s_minD ?_ | refine s_maxD ?_
  | refine s_bl ?_ | refine s_int ?_ | refine s_lst ?_ | refine s_tup ?_ | refine s_cons ?_)
/-- a slot is read, is given -/
local macro_rules | `(tactic| walk_at "dlv") => `(tactic| ((with_reducible refine dw_at ?_); refine ⟨_, rfl, ?_⟩))
local macro_rules | `(tactic| walk_at "dlg") => `(tactic| ((with_reducible refine dg_at ?_); refine ⟨rfl, ?_⟩))
local macro_rules | `(tactic| walk_at "dln") => `(tactic| ((with_reducible refine dgs_nl ?_); refine ⟨rfl, ?_⟩))
local macro_rules | `(tactic| walk_at "dls") => `(tactic| first | walk_at "dl1" | walk_at "dlv" | walk_at "dlg" | walk_at "dln")
local macro_rules | `(tactic| walk_at "dl") => `(tactic| repeat walk_at "dls")

set_option Elab.async false
set_option linter.all false
/-! Values, rows, facts: what the program's defs compute, as plain functions. -/
section
open PySem PySem.Spec PyProof.Rows L2 ZK
/-- a value of a row -/
def oV : Option Int → PD
  | none => .non
  | some i => .int i
def isNum (d : PD) : Bool := d.isInt && !d.isBool
def betw (d : PD) (lo hi : Int) : Bool := isNum d && match d with
  | .int i => decide (lo ≤ i) && decide (i ≤ hi)
  | _ => false
def isVal (d : PD) : Bool := d.isN || betw d (-9999) 9999
abbrev tInts (xs : List Int) : PD := .tup (xs.map .int)
abbrev lInts (xs : List Int) : PD := .lst (xs.map .int)
abbrev tVals (xs : List (Option Int)) : PD := .tup (xs.map oV)
abbrev lVals (xs : List (Option Int)) : PD := .lst (xs.map oV)
def there (vs : List (Option Int)) : List Int := vs.filterMap id
def placeOf (cuts : List Int) (v : Int) : Nat := (cuts.filter fun p => decide (p ≤ v)).length
def group (cuts : List Int) (xs : List Int) (k : Nat) : List Int := xs.filter fun v => decide ((placeOf cuts v : Int) = k)
def minV (xs : List Int) : PD := if xs = [] then .non else .int (minI xs)
def maxV (xs : List Int) : PD := if xs = [] then .non else .int (maxI xs)
def pairP (xs : List Int) : PD := .tup [.int xs.length, .int xs.sum]
/-- the facts of a column -/
def colFacts (c : PD) (cuts : List Int) (vs : List (Option Int)) : PD :=
  .tup [c, tInts cuts, .int ((vs.length : Int) - ((there vs).length : Int)), minV (there vs), maxV (there vs), .tup ((List.range (cuts.length + 1)).map fun k => pairP (group cuts (there vs) k))]
theorem filter_oV : ∀ vs : List (Option Int), ((vs.map oV).filter fun d => !d.isN) = (there vs).map .int
  | [] => rfl
  | none :: r => filter_oV r
  | some i :: r => by
    show PD.int i :: ((r.map oV).filter fun d => !d.isN) = PD.int i :: (there r).map .int
    rw [filter_oV r]
theorem there_len (vs : List (Option Int)) : (there vs).length ≤ vs.length := List.length_filterMap_le ..
theorem eqv_int (i j : Int) : PyData.eqv (.int i) (.int j) = decide (i = j) := by
  simp [PyData.eqv]
  rfl
end

set_option Elab.async false
set_option linter.all false
set_option maxRecDepth 100000
section
open PySem PySem.Spec PyProof.Rows L2 ZK
section
variable {base : Heap} {P : Program} {w : World} {mg : Str → Option Value} {K : PySem.W.Frag}
def a1 : PD → List PD := fun d => [d]
def pBase : PD → Prop := fun d => d.base = true
theorem ok_is_number {f : Addr} {fd : FuncData} (F : Fun K "is_number" "is_number" s_is_number f fd) (T : Txt mg) : Pf.FnG P w K mg base 1 f fd ["value"] (SpT a1 pBase fun d => .bl (isNum d)) := by
  refine okP F sc_is_number (fun _ => rfl) (by decide) fun cdv A outer s H E hr => ⟨_, (pss_one (ps_ret (pe_and (pe_callB (call_isT (T := "int")) (by rfl) T.b_isinstance (by decide +kernel) (pa_cons (pv 0) (pa_cons (pe_bltn (v := .ty "int") (u := .type "int") (by rfl) T.b_int (by decide +kernel) rfl) pa_nil))) (pe_one (pe_not (pe_callB (call_isT (T := "bool")) (by rfl) T.b_isinstance (by decide +kernel) (pa_cons (pv 0) (pa_cons (pe_bltn (v := .ty "bool") (u := .type "bool") (by rfl) T.b_bool (by decide +kernel) rfl) pa_nil)))))))), fun d hd => ?_⟩
  show DS _ 0 [.dat d] _
  walk_at "dl"
  refine s_isI hd ?_
  walk_at "dl"
  unfold isNum
  refine s_if (fun e => ?_) fun e => ?_
  · walk_at "dl"
    refine s_isB hd ?_
    walk_at "dl"
    rw [e]
    rfl
  · rw [e]
    rfl
def aBetw : PD × Int × Int → List PD := fun x => [x.1, .int x.2.1, .int x.2.2]
theorem ok_is_between {f : Addr} {fd : FuncData} (F : Fun K "is_between" "is_between" s_is_between f fd) (T : Txt mg) (C_is_number : Pf.Cal P w K mg base 1 "is_number" (SpT a1 pBase fun d => .bl (isNum d))) :
    Pf.FnG P w K mg base 2 f fd ["value", "low", "high"] (SpT aBetw (fun x => pBase x.1) fun x => .bl (betw x.1 x.2.1 x.2.2)) := by
  refine okP F sc_is_between (fun _ => rfl) (by decide) fun cdv A outer s H E hr => ⟨_, (pss_one (ps_ret (pe_and (Pf.pe_c C_is_number hr (by decide) (by rfl) (pa_cons (pv 0) pa_nil)) (pe_one (pe_chain op_le op_le (pv 1) (pv 0) (pv 2)))))), fun ⟨d, lo, hi⟩ hd => ?_⟩
  show DS _ 0 [.dat d, .dat (.int lo), .dat (.int hi)] _
  walk_at "dl"
  refine dw_call ?_
  walk_at "dl"
  refine ⟨d, rfl, hd, ?_⟩
  walk_at "dl"
  unfold betw
  refine s_if (fun e => ?_) fun e => ?_
  · rw [e]
    cases d with
    | int i =>
      walk_at "dl"
      refine s_if (fun e => ?_) fun e => ?_
      · walk_at "dl"
        show PD.bl (decide (i ≤ hi)) = PD.bl (true && (decide (lo ≤ i) && decide (i ≤ hi)))
        rw [e]
        rfl
      · show PD.bl false = PD.bl (true && (decide (lo ≤ i) && decide (i ≤ hi)))
        rw [e]
        rfl
    | bl b => cases e
    | _ => cases e
  · rw [e]
    rfl
theorem ok_is_value {f : Addr} {fd : FuncData} (F : Fun K "is_value" "is_value" s_is_value f fd) (T : Txt mg) (C_is_between : Pf.Cal P w K mg base 2 "is_between" (SpT aBetw (fun x => pBase x.1) fun x => .bl (betw x.1 x.2.1 x.2.2))) :
    Pf.FnG P w K mg base 3 f fd ["value"] (SpT a1 pBase fun d => .bl (isVal d)) := by
  refine okP F sc_is_value (fun _ => rfl) (by decide) fun cdv A outer s H E hr => ⟨_, (pss_one (ps_ret (pe_or (pe_cmp (pc_isN (pv 0))) (pe_one (Pf.pe_c C_is_between hr (by decide) (by rfl) (pa_cons (pv 0) (pa_cons (C8.pe_gc (by rfl) T.g_LOWEST) (pa_cons (C8.pe_gc (by rfl) T.g_HIGHEST) pa_nil)))))))), fun d hd => ?_⟩
  show DS _ 0 [.dat d] _
  walk_at "dl"
  unfold isVal
  refine s_if (fun e => ?_) fun e => ?_
  · rw [e]
    rfl
  · refine dw_call ?_
    walk_at "dl"
    refine ⟨(d, -9999, 9999), rfl, hd, ?_⟩
    show PD.bl _ = PD.bl _
    rw [e]
    rfl
def aPlace : List Int × Int → List PD := fun x => [tInts x.1, .int x.2]
def pFew : List Int → Prop := fun cs => cs.length ≤ 1000
theorem filter_ints (p : Int → Bool) (q : PD → Bool) (h : ∀ i, q (.int i) = p i) : ∀ xs : List Int, (xs.map PD.int).filter q = (xs.filter p).map .int
  | [] => rfl
  | i :: r => by
    rw [List.map_cons]
    cases e : p i with
    | true => rw [List.filter_cons_of_pos (by rw [h]; exact e), List.filter_cons_of_pos e, filter_ints p q h r, List.map_cons]
    | false => rw [List.filter_cons_of_neg (by rw [h, e]; exact Bool.false_ne_true), List.filter_cons_of_neg (by rw [e]; exact Bool.false_ne_true), filter_ints p q h r]
def leP (v : Int) : PD → Bool
  | .int p => decide (p ≤ v)
  | _ => false
theorem ok_place_of {f : Addr} {fd : FuncData} (F : Fun K "place_of" "place_of" s_place_of f fd) (T : Txt mg) :
    Pf.FnG P w K mg base 1 f fd ["cuts", "value"] (SpT aPlace (fun x => pFew x.1) fun x => .int (placeOf x.1 x.2)) := by
  refine okP F sc_place_of (fun _ => rfl) (by decide) fun cdv A outer s H E hr => ⟨_, (pss_one (ps_ret (pe_callB call_lenA (by rfl) T.b_len (by decide +kernel) (pa_cons (pe_lc (own := [("point", 2)]) (g := gName 2) rfl sc_place_of.nd (pi_tup (pv 0)) (blkOk_by (own := [("point", 2)]) (N := ["cuts", "value", "point"]) (sc := defScope s_place_of) (by decide +kernel)) (fun _ _ _ _ _ => (pg_name (i := 2) sc_place_of.nd rfl (Or.inl rfl))) (fun _ _ _ _ _ => pts_one (pt_cmpR op_le (pv 2) (pv 1) (nomark _))) (fun _ _ _ _ _ => (pv 2))) pa_nil)))), fun ⟨cs, v⟩ hd => ?_⟩
  show DS _ 0 [.dat (tInts cs), .dat (.int v), .un] _
  walk_at "dl"
  refine dw_of_do (do_filter (ts := [2]) (leP v) id (di_tup ?_))
  walk_at "dl"
  refine ⟨Nat.le_trans (Nat.le_of_eq (List.length_map ..)) (Nat.le_trans hd (by decide)), fun x hx => ?_, ?_⟩
  · obtain ⟨p, _, rfl⟩ := List.mem_map.mp hx
    walk_at "dl"
    refine ⟨rfl, ?_⟩
    walk_at "dl"
    exact ⟨rfl, rfl, fun _ => dw_at ⟨_, rfl, rfl, rfl⟩⟩
  · walk_at "dl"
    rw [List.map_id, filter_ints (fun p => decide (p ≤ v)) (leP v) (fun _ => rfl), List.length_map]
    rfl
def aCol : PD × List Int × List (Option Int) → List PD := fun x => [x.1, tInts x.2.1, tVals x.2.2]
def pCol : PD × List Int × List (Option Int) → Prop := fun x => x.2.1.length ≤ 20 ∧ x.2.2.length ≤ 1000
end
end

set_option Elab.async false
set_option linter.all false
set_option maxRecDepth 100000
section
open PySem PySem.Spec PyProof.Rows L2 ZK
section
variable {base : Heap} {P : Program} {w : World} {mg : Str → Option Value} {K : PySem.W.Frag}
theorem rngL_eq (m : Nat) : rngL 0 m = (List.range m).map fun k : Nat => PD.int (k : Int) := by
  unfold rngL
  exact List.map_congr_left fun k _ => by rw [Int.zero_add]
def grpP (cs : List Int) (k : PD) : PD → Bool
  | .int v => PyData.eqv (.int (placeOf cs v)) k.py
  | _ => false
def grp (cs xs : List Int) : PD → PD
  | .int k => .lst ((xs.filter fun v => decide ((placeOf cs v : Int) = k)).map .int)
  | _ => .non
theorem grp_eq (cs xs : List Int) (k : Int) : (xs.map PD.int).filter (grpP cs (.int k)) = (xs.filter fun v => decide ((placeOf cs v : Int) = k)).map .int :=
  filter_ints _ _ (fun v => eqv_int _ _) xs
def pairOf : PD → PD
  | .lst xs => .tup [.int xs.length, .int (xs.map fun d => match d with | .int i => i | _ => 0).sum]
  | _ => .non
theorem pairOf_ints (ns : List Int) : pairOf (.lst (ns.map .int)) = .tup [.int ns.length, .int ns.sum] := by
  show PD.tup [PD.int ((ns.map PD.int).length : Nat), PD.int _] = _
  rw [List.length_map, List.map_map]
  have e : ns.map ((fun d : PD => match d with | .int i => i | _ => 0) ∘ PD.int) = ns := (List.map_congr_left fun i _ => rfl).trans (List.map_id _)
  rw [e]
theorem ok_column_facts {f : Addr} {fd : FuncData} (F : Fun K "column_facts" "column_facts" s_column_facts f fd) (T : Txt mg) (C_place_of : Pf.Cal P w K mg base 1 "place_of" (SpT aPlace (fun x => pFew x.1) fun x => .int (placeOf x.1 x.2))) :
    Pf.FnG P w K mg base 2 f fd ["column", "points", "values"] (SpT aCol pCol fun x => colFacts x.1 x.2.1 x.2.2) := by
  refine okP F sc_column_facts (fun _ => rfl) (by decide) fun cdv A outer s H E hr => ⟨_, (pss_cons (ps_set (i := 3) sc_column_facts.nd rfl (Or.inr rfl) (pe_lc (own := [("value", 6)]) (g := gName 6) rfl sc_column_facts.nd (pi_tup (pv 2)) (blkOk_by (own := [("value", 6)]) (N := ["column", "points", "values", "there", "groups", "pairs", "value", "k", "group"]) (sc := defScope s_column_facts) (by decide +kernel)) (fun _ _ _ _ _ => (pg_name (i := 6) sc_column_facts.nd rfl (Or.inl rfl))) (fun _ _ _ _ _ => pts_one (pt_cmp (pc_notN (pv 6)))) (fun _ _ _ _ _ => (pv 6))))
        (pss_cons (ps_setLc (i := 4) (own := [("k", 7)]) (g := gName 7) (tt := tYes) rfl sc_column_facts.nd rfl rfl (sw_true rfl rfl rfl (by decide +kernel)) (pi_range1 (by rfl) T.b_range (pa_cons (pe_op op_addA (pe_callB call_lenA (by rfl) T.b_len (by decide +kernel) (pa_cons (pv 1) pa_nil)) pe_int) pa_nil)) (blkOk_by (own := [("k", 7)]) (N := ["column", "points", "values", "there", "groups", "pairs", "value", "k", "group"]) (sc := defScope s_column_facts) (by decide +kernel)) (fun _ _ _ _ _ => (pg_name (i := 7) sc_column_facts.nd rfl (Or.inr rfl))) (fun _ _ _ _ _ => pts_nil) (fun _ _ _ _ _ => (pe_lc (own := [("value", 6)]) (g := gName 6) rfl sc_column_facts.nd (show PI _ _ _ (iList K _) from (pi_list (pv 3))) (blkIn (own := [("value", 6)]) (N := ["column", "points", "values", "there", "groups", "pairs", "value", "k", "group"]) (sc := defScope s_column_facts) rfl (by decide +kernel)) (fun _ _ _ _ _ => (pg_name (i := 6) sc_column_facts.nd rfl (Or.inl rfl))) (fun _ _ _ _ _ => pts_one (pt_cmpR (show OpR _ _ (rEqD K) from op_eqD hr.2.u64) (Pf.pe_c C_place_of hr (by decide) (by rfl) (pa_cons (pv 1) (pa_cons (pv 6) pa_nil))) (pv 7) (nomark _))) (fun _ _ _ _ _ => (pv 6)))))
        (pss_cons (ps_set (i := 5) sc_column_facts.nd rfl (Or.inl rfl) (pe_callTy call_tuple_of (by rfl) T.b_tuple (by decide +kernel) (pa_cons (pe_lc (own := [("group", 8)]) (g := gName 8) (tt := tYes) rfl sc_column_facts.nd (pi_list (pv 4)) (blkOk_by (own := [("group", 8)]) (N := ["column", "points", "values", "there", "groups", "pairs", "value", "k", "group"]) (sc := defScope s_column_facts) (by decide +kernel)) (fun _ _ _ _ _ => (pg_name (i := 8) sc_column_facts.nd rfl (Or.inl rfl))) (fun _ _ _ _ _ => pts_nil) (fun _ _ _ _ _ => (pe_tup (pa_cons (pe_callB (show CallR _ _ (rLenA K) from call_lenA) (by rfl) T.b_len (by decide +kernel) (pa_cons (pv 8) pa_nil)) (pa_cons (pe_callB (show CallR _ _ (rSum K) from cr_sum rfl) (by rfl) T.b_sum (by decide +kernel) (pa_cons (pv 8) pa_nil)) pa_nil))))) pa_nil)))
        (pss_one (ps_ret (pe_tup (pa_cons (pv 0) (pa_cons (pv 1) (pa_cons (pe_op op_sub (pe_callB call_lenA (by rfl) T.b_len (by decide +kernel) (pa_cons (pv 2) pa_nil)) (pe_callB call_lenA (by rfl) T.b_len (by decide +kernel) (pa_cons (pv 3) pa_nil))) (pa_cons (pe_callBK (cr_minD rfl) (by rfl) T.b_min (by decide +kernel) (pa_cons (pv 3) pa_nil) (pk_cons pe_non pk_nil)) (pa_cons (pe_callBK (cr_maxD rfl) (by rfl) T.b_max (by decide +kernel) (pa_cons (pv 3) pa_nil) (pk_cons pe_non pk_nil)) (pa_cons (pv 5) pa_nil)))))))))))), fun ⟨c, cs, vs⟩ ⟨h1, h2⟩ => ?_⟩
  show DS _ 0 [.dat c, .dat (tInts cs), .dat (tVals vs), .un, .un, .un, .un, .un, .un] _
  walk_at "dl"
  refine ds_asg (ts := [3]) (dw_of_do (do_filter (ts := [6]) (fun d => !d.isN) id (di_tup ?_)))
  walk_at "dl"
  refine ⟨Nat.le_trans (Nat.le_of_eq (List.length_map ..)) (Nat.le_trans h2 (by decide)), fun x hx => ?_, ?_⟩
  · walk_at "dl"
    refine ⟨rfl, ?_⟩
    walk_at "dl"
    exact ⟨rfl, rfl, fun _ => dw_at ⟨_, rfl, rfl, rfl⟩⟩
  rw [List.map_id, filter_oV]
  walk_at "dl"
  refine ds_asg (ts := [4]) (dw_of_do (do_map (ts := [7]) (grp cs (there vs)) (di_rng1 ?_)))
  walk_at "dl"
  have lt : (there vs).length ≤ sizeLine := Nat.le_trans (there_len vs) (Nat.le_trans h2 (by decide))
  have h1' : cs.length ≤ 20 := h1
  rw [List.length_map]
  refine ⟨_, rfl, by omega, by omega, by rw [rngL_len]; have : sizeLine = 16777216 := rfl; omega, fun x hx => ?_, ?_⟩
  · rw [rngL_eq] at hx
    obtain ⟨k, _, rfl⟩ := List.mem_map.mp hx
    walk_at "dl"
    refine ⟨rfl, ?_⟩
    refine dw_of_do (do_filter (ts := [6]) (grpP cs (.int k)) id (di_list ?_))
    walk_at "dl"
    refine ⟨by rw [List.length_map]; exact lt, fun x hx => ?_, ?_⟩
    · obtain ⟨v, _, rfl⟩ := List.mem_map.mp hx
      walk_at "dl"
      refine ⟨rfl, ?_⟩
      walk_at "dl"
      refine dw_call ?_
      walk_at "dl"
      refine ⟨(cs, v), rfl, (Nat.le_trans h1 (by decide) : cs.length ≤ 1000), ?_⟩
      walk_at "dl"
      refine s_eq rfl rfl ?_
      exact s_bl ⟨rfl, rfl, fun _ => dw_at ⟨_, rfl, rfl, rfl⟩⟩
    · rw [List.map_id, grp_eq]
      exact ⟨rfl, rfl⟩
  rw [rngL_eq, List.map_map]
  walk_at "dl"
  refine ds_asg (ts := [5]) ?_
  walk_at "dl"
  refine dw_of_do (do_map (ts := [8]) pairOf (di_list ?_))
  walk_at "dl"
  refine ⟨by rw [List.length_map, List.length_range]; have : sizeLine = 16777216 := rfl; omega, fun x hx => ?_, ?_⟩
  · obtain ⟨k, _, rfl⟩ := List.mem_map.mp hx
    show DG _ _ (PD.lst ((group cs (there vs) k).map PD.int)) _ _ _
    walk_at "dl"
    refine ⟨rfl, ?_⟩
    walk_at "dl"
    refine ⟨(by decide : 2 ≤ sizeLine), rfl, ?_⟩
    show _ = pairOf (PD.lst ((group cs (there vs) k).map PD.int))
    rw [pairOf_ints, List.length_map]
  walk_at "dl"
  refine ⟨(by decide : 6 ≤ sizeLine), ?_⟩
  show _ = colFacts c cs vs
  unfold colFacts minV maxV
  rw [List.length_map, List.length_map, List.map_map]
  have e : (↑cs.length + 1 : Int).toNat = cs.length + 1 := rfl
  rw [e]
  have e2 : (pairOf ∘ grp cs (there vs) ∘ fun k : Nat => PD.int ↑k) = fun k : Nat => pairP (group cs (there vs) k) := funext fun k => pairOf_ints _
  rw [e2]
end
end

set_option Elab.async false
set_option linter.all false
set_option maxRecDepth 100000
section
open PySem PySem.Spec PyProof.Rows L2 ZK
section
variable {base : Heap} {P : Program} {w : World} {mg : Str → Option Value} {K : PySem.W.Frag}
theorem at_k {α : Type} {xs : List α} {k : Nat} {x : α} (h : xs[k]? = some x) : atI xs (k : Int) = some x := by
  have l := (List.getElem?_eq_some_iff.mp h).1
  unfold atI ixN
  rw [if_pos (by omega)]
  rw [if_pos (by omega : (k : Int) < (xs.length : Int))]
  exact h
theorem at_hd {α : Type} (x : α) (r : List α) : atI (x :: r) 0 = some x := at_k (k := 0) rfl
theorem eqvI (i j : Int) : PyData.eqv (PD.int i).py (PD.int j).py = decide (i = j) := eqv_int i j
def okV : Option Int → Bool
  | none => true
  | some i => decide (-9999 ≤ i) && decide (i ≤ 9999)
theorem isVal_oV (o : Option Int) : isVal (oV o) = okV o := by
  cases o with
  | none => rfl
  | some i => rfl
theorem oV_base (o : Option Int) : (oV o).base = true := by
  cases o <;> rfl
def isRow (m : Int) : PD → Bool
  | .tup ys => decide ((ys.length : Int) = m) && ys.all isVal
  | _ => false
def isRows (z m : Int) : PD → Bool
  | .tup xs => decide ((xs.length : Int) = z) && xs.all (isRow m)
  | _ => false
def bRow (d : PD) : Prop := d.base = true ∧ ∀ ys, d = .tup ys → ys.length ≤ 1000 ∧ ∀ y ∈ ys, y.base = true
def bRows (d : PD) : Prop := d.base = true ∧ ∀ xs, d = .tup xs → xs.length ≤ 1000 ∧ ∀ x ∈ xs, bRow x
def aRow : PD × Int → List PD := fun x => [x.1, .int x.2]
theorem ok_is_row {f : Addr} {fd : FuncData} (F : Fun K "is_row" "is_row" s_is_row f fd) (T : Txt mg) (C_is_value : Pf.Cal P w K mg base 3 "is_value" (SpT a1 pBase fun d => .bl (isVal d))) :
    Pf.FnG P w K mg base 4 f fd ["value", "many"] (SpT aRow (fun x => bRow x.1) fun x => .bl (isRow x.2 x.1)) := by
  refine okP F sc_is_row (fun _ => rfl) (by decide) fun cdv A outer s H E hr => ⟨_, (pss_one (ps_ret (pe_and (pe_callB (call_isT (T := "tuple")) (by rfl) T.b_isinstance (by decide +kernel) (pa_cons (pv 0) (pa_cons (pe_bltn (v := .ty "tuple") (u := .type "tuple") (by rfl) T.b_tuple (by decide +kernel) rfl) pa_nil))) (pe_and (pe_cmpR (op_eqD hr.2.u64) (pe_callB call_lenA (by rfl) T.b_len (by decide +kernel) (pa_cons (pv 0) pa_nil)) (pv 1) (nomark _)) (pe_one (pe_callB (cr_all rfl) (by rfl) T.b_all (by decide +kernel) (pa_cons (pe_lc (own := [("entry", 2)]) (g := gName 2) (tt := tYes) rfl sc_is_row.nd (pi_tup (pv 0)) (blkOk_by (own := [("entry", 2)]) (N := ["value", "many", "entry"]) (sc := defScope s_is_row) (by decide +kernel)) (fun _ _ _ _ _ => (pg_name (i := 2) sc_is_row.nd rfl (Or.inl rfl))) (fun _ _ _ _ _ => pts_nil) (fun _ _ _ _ _ => (Pf.pe_c C_is_value hr (by decide) (by rfl) (pa_cons (pv 2) pa_nil)))) pa_nil))))))), fun ⟨d, m⟩ ⟨hb, hd⟩ => ?_⟩
  show DS _ 0 [.dat d, .dat (.int m), .un] _
  walk_at "dl"
  refine s_isT hb ?_
  walk_at "dl"
  refine s_if (fun e => ?_) fun e => ?_
  · obtain ⟨ys, rfl⟩ : ∃ ys, d = .tup ys := by
      cases d with
      | tup ys => exact ⟨ys, rfl⟩
      | _ => cases e
    obtain ⟨h1, h2⟩ := hd ys rfl
    walk_at "dl"
    refine s_eq rfl rfl ?_
    rw [eqvI]
    walk_at "dl"
    refine s_if (fun e => ?_) fun e => ?_
    · walk_at "dl"
      refine dw_of_do (do_map (ts := [2]) (fun d => .bl (isVal d)) (di_tup ?_))
      walk_at "dl"
      refine ⟨Nat.le_trans h1 (by decide), fun x hx => ?_, ?_⟩
      · walk_at "dl"
        refine ⟨rfl, ?_⟩
        refine dw_call ?_
        walk_at "dl"
        exact ⟨_, rfl, h2 x hx, rfl, rfl⟩
      · walk_at "dl"
        refine ⟨ys.map isVal, by rw [List.map_map]; rfl, ?_⟩
        show PD.bl _ = PD.bl (decide ((ys.length : Int) = m) && ys.all isVal)
        rw [e, List.all_map]
        rfl
    · show PD.bl _ = PD.bl (decide ((ys.length : Int) = m) && ys.all isVal)
      rw [e]
      rfl
  · show PD.bl _ = PD.bl (isRow m d)
    cases d with
    | tup ys => cases e
    | _ => rfl
/-- facts: a number of rows, and of each column the name, the cut points and the rest -/
abbrev colP (x : PD × List Int × List PD) : PD := .tup (x.1 :: tInts x.2.1 :: x.2.2)
abbrev facP (n : Int) (L : List (PD × List Int × List PD)) : PD := .tup [.int n, .tup (L.map colP)]
def aFac : Int × List (PD × List Int × List PD) → List PD := fun x => [facP x.1 x.2]
def pFac : Int × List (PD × List Int × List PD) → Prop := fun x => x.2.length ≤ 20
def fst : PD → PD
  | .tup (d :: _) => d
  | _ => .non
theorem ok_names_in {f : Addr} {fd : FuncData} (F : Fun K "names_in" "names_in" s_names_in f fd) (T : Txt mg) :
    Pf.FnG P w K mg base 1 f fd ["facts"] (SpT aFac pFac fun x => .lst (x.2.map fun c => c.1)) := by
  refine okP F sc_names_in (fun _ => rfl) (by decide) fun cdv A outer s H E hr => ⟨_, (pss_one (ps_ret (pe_lc (own := [("column", 1)]) (g := gName 1) (tt := tYes) rfl sc_names_in.nd (pi_tup (pe_ix ix_seq (pv 0) pe_int (fun _ _ => rfl))) (blkOk_by (own := [("column", 1)]) (N := ["facts", "column"]) (sc := defScope s_names_in) (by decide +kernel)) (fun _ _ _ _ _ => (pg_name (i := 1) sc_names_in.nd rfl (Or.inl rfl))) (fun _ _ _ _ _ => pts_nil) (fun _ _ _ _ _ => (pe_ix (show IxR _ (rIx K) from ix_seq) (pv 1) pe_int (fun _ _ => rfl)))))), fun ⟨m, L⟩ h1 => ?_⟩
  have h1 : L.length ≤ 20 := h1
  show DS _ 0 [.dat (facP m L), .un] _
  walk_at "dl"
  refine dw_of_do (do_map (ts := [1]) fst (di_tup ?_))
  walk_at "dl"
  refine s_ixT (x := .tup (L.map colP)) rfl ?_
  walk_at "dl"
  refine ⟨by rw [List.length_map]; exact Nat.le_trans h1 (by decide), fun x hx => ?_, ?_⟩
  · obtain ⟨c, _, rfl⟩ := List.mem_map.mp hx
    walk_at "dl"
    refine ⟨rfl, ?_⟩
    walk_at "dl"
    exact s_ixT (at_hd _ _) ⟨rfl, rfl⟩
  · show PD.lst _ = PD.lst _
    rw [List.map_map]
    rfl
def aFo : List PD × List (List Int) × List (List (Option Int)) → List PD := fun x => [.tup x.1, .tup (x.2.1.map tInts), .tup (x.2.2.map tVals)]
/-- so many columns: names, cut points, rows -/
def pFo (m : Nat) : List PD × List (List Int) × List (List (Option Int)) → Prop := fun x =>
  x.1.length = m ∧ x.2.1.length = m ∧ 1 ≤ m ∧ m ≤ 20 ∧ (∀ c ∈ x.2.1, c.length ≤ 20) ∧ x.2.2 ≠ [] ∧ x.2.2.length ≤ 24 ∧ ∀ r ∈ x.2.2, r.length = m
def colAt (rows : List (List (Option Int))) (j : Nat) : List (Option Int) := rows.map fun r => r.getD j none
def factsOf (m : Nat) (names : List PD) (cuts : List (List Int)) (rows : List (List (Option Int))) : PD :=
  .tup [.int rows.length, .tup ((List.range m).map fun j => colFacts (names.getD j .non) (cuts.getD j []) (colAt rows j))]
def unI : PD → Int
  | .int i => i
  | _ => 0
def unO : PD → Option Int
  | .int i => some i
  | _ => none
def unL : PD → List PD
  | .tup xs => xs
  | _ => []
def colOf : PD → PD
  | .tup [c, p, v] => colFacts c ((unL p).map unI) ((unL v).map unO)
  | _ => .non
theorem unI_t (cs : List Int) : (unL (tInts cs)).map unI = cs := by
  show (cs.map PD.int).map unI = cs
  rw [List.map_map]
  exact (List.map_congr_left fun i _ => rfl).trans (List.map_id _)
theorem unO_t (vs : List (Option Int)) : (unL (tVals vs)).map unO = vs := by
  show (vs.map oV).map unO = vs
  rw [List.map_map]
  exact (List.map_congr_left fun o _ => by cases o <;> rfl).trans (List.map_id _)
theorem leastP_all {m : Nat} : ∀ {Xs : List (List PD)}, Xs ≠ [] → (∀ x ∈ Xs, x.length = m) → leastP Xs = m
  | [], h, _ => absurd rfl h
  | [p], _, h => h p List.mem_cons_self
  | p :: q :: r, _, h => by
    show min p.length (leastP (q :: r)) = m
    rw [leastP_all (Xs := q :: r) (fun e => by cases e) fun x hx => h x (List.mem_cons_of_mem _ hx), h p List.mem_cons_self, Nat.min_self]
theorem getD_map {α β : Type} (g : α → β) (a : α) (b : β) (h : g a = b) : ∀ (xs : List α) (j : Nat), (xs.map g).getD j b = g (xs.getD j a)
  | [], j => by
    simp
    exact h.symm
  | x :: r, 0 => rfl
  | x :: r, j + 1 => getD_map g a b h r j
theorem getD_map' {α β : Type} (g : α → β) (a : α) (b : β) {xs : List α} {j : Nat} (h : j < xs.length) : (xs.map g).getD j b = g (xs.getD j a) := by
  rw [List.getD_eq_getElem?_getD, List.getD_eq_getElem?_getD, List.getElem?_map, List.getElem?_eq_getElem h]
  rfl
theorem rows_eq {m : Nat} {ns : List PD} {cs : List (List Int)} {rs : List (List (Option Int))} (h1 : ns.length = m) (h2 : cs.length = m) (h3 : leastP (rs.map fun r => r.map oV) = m) :
    rowsP [ns, cs.map tInts, rowsP (rs.map fun r => r.map oV)] = (List.range m).map fun j => .tup [ns.getD j .non, tInts (cs.getD j []), tVals (colAt rs j)] := by
  have l3 : (rowsP (rs.map fun r => r.map oV)).length = m := by
    unfold rowsP
    rw [List.length_map, List.length_range, h3]
  have l : leastP [ns, cs.map tInts, rowsP (rs.map fun r => r.map oV)] = m := leastP_all (fun e => by cases e) fun x hx => by
    rcases List.mem_cons.mp hx with rfl | hx
    · exact h1
    rcases List.mem_cons.mp hx with rfl | hx
    · rw [List.length_map, h2]
    rw [List.mem_singleton.mp hx, l3]
  show (List.range (leastP [ns, cs.map tInts, rowsP (rs.map fun r => r.map oV)])).map _ = _
  rw [l]
  refine List.map_congr_left fun j hj => ?_
  have hj := List.mem_range.mp hj
  show PD.tup [ns.getD j .non, (cs.map tInts).getD j .non, (rowsP (rs.map fun r => r.map oV)).getD j .non] = _
  have e1 : (cs.map tInts).getD j .non = tInts (cs.getD j []) := getD_map' tInts [] .non (by omega)
  have e2 : (rowsP (rs.map fun r => r.map oV)).getD j .non = tVals (colAt rs j) := by
    have e3 : (rowsP (rs.map fun r => r.map oV)).getD j .non = .tup (rowP (rs.map fun r => r.map oV) j) := by
      unfold rowsP
      rw [h3, List.getD_eq_getElem?_getD, List.getElem?_map, List.getElem?_range hj]
      rfl
    rw [e3]
    unfold rowP tVals colAt
    rw [List.map_map, List.map_map]
    congr 1
    exact List.map_congr_left fun r _ => getD_map oV none .non rfl r j
  rw [e1, e2]
theorem ok_facts_of {m : Nat} {f : Addr} {fd : FuncData} (F : Fun K "facts_of" "facts_of" s_facts_of f fd) (T : Txt mg) (C_column_facts : Pf.Cal P w K mg base 2 "column_facts" (SpT aCol pCol fun x => colFacts x.1 x.2.1 x.2.2)) :
    Pf.FnG P w K mg base 3 f fd ["columns", "cuts", "rows"] (SpT aFo (pFo m) fun x => factsOf m x.1 x.2.1 x.2.2) := by
  refine okP F sc_facts_of (fun _ => rfl) (by decide) fun cdv A outer s H E hr => ⟨_, (pss_cons (ps_set (i := 3) sc_facts_of.nd rfl (Or.inl rfl) (ZK.pe_listZipS rfl (by rfl) T.b_list (by rfl) T.b_zip (pv 2)))
        (pss_cons (ps_setLc (i := 4) (own := [("column", 5), ("points", 6), ("values", 7)]) (g := gTup K 3 (gCons (gName 5) (gCons (gName 6) (gCons (gName 7) gNil)))) (tt := tYes) rfl sc_facts_of.nd rfl rfl (sw_true rfl rfl rfl (by decide +kernel)) (ZK.pi_zipK (by rfl) T.b_zip (pa_cons (pv 0) (pa_cons (pv 1) (pa_cons (pv 3) pa_nil)))) (blkOk_by (own := [("column", 5), ("points", 6), ("values", 7)]) (N := ["columns", "cuts", "rows", "lines", "found", "column", "points", "values"]) (sc := defScope s_facts_of) (by decide +kernel)) (fun _ _ _ _ _ => (pg_tup (n := 3) rfl (pgs_cons (pg_name (i := 5) sc_facts_of.nd rfl (Or.inl rfl)) (pgs_cons (pg_name (i := 6) sc_facts_of.nd rfl (Or.inl rfl)) (pgs_cons (pg_name (i := 7) sc_facts_of.nd rfl (Or.inl rfl)) pgs_nil))))) (fun _ _ _ _ _ => pts_nil) (fun _ _ _ _ _ => (Pf.pe_c C_column_facts hr (by decide) (by rfl) (pa_cons (pv 5) (pa_cons (pv 6) (pa_cons (pv 7) pa_nil))))))
        (pss_one (ps_ret (pe_tup (pa_cons (pe_callB call_lenA (by rfl) T.b_len (by decide +kernel) (pa_cons (pv 2) pa_nil)) (pa_cons (pe_callTy call_tuple_of (by rfl) T.b_tuple (by decide +kernel) (pa_cons (pv 4) pa_nil)) pa_nil))))))), fun ⟨ns, cs, rs⟩ ⟨h1, h2, h3, h4, h5, h6, h7, h8⟩ => ?_⟩
  show DS _ 0 [.dat (.tup ns), .dat (.tup (cs.map tInts)), .dat (.tup (rs.map tVals)), .un, .un, .un, .un, .un] _
  have h1 : ns.length = m := h1
  have h2 : cs.length = m := h2
  have h5 : ∀ c ∈ cs, c.length ≤ 20 := h5
  have h6 : rs ≠ [] := h6
  have h7 : rs.length ≤ 24 := h7
  have h8 : ∀ r ∈ rs, r.length = m := h8
  walk_at "dl"
  refine ds_asg (ts := [3]) (dw_of_do (do_listZipS ?_))
  walk_at "dl"
  have lr : leastP (rs.map fun r => r.map oV) = m := leastP_all (fun e => h6 (List.map_eq_nil_iff.mp e)) fun x hx => by
    obtain ⟨r, hr, rfl⟩ := List.mem_map.mp hx
    rw [List.length_map, h8 r hr]
  refine ⟨_, rfl, rs.map fun r => r.map oV, by rw [List.map_map, List.map_map]; rfl, fun e => h6 (List.map_eq_nil_iff.mp e), by rw [List.length_map]; exact h7, by rw [lr]; exact Nat.le_trans h4 (by decide), ?_⟩
  walk_at "dl"
  refine ds_asg (ts := [4]) (dw_of_do ?_)
  refine do_map (ts := [5, 6, 7]) colOf ?_
  refine di_zip ?_
  walk_at "dl"
  refine ⟨[ns, cs.map tInts, rowsP (rs.map fun r => r.map oV)], rfl, fun e => (by cases e), (by decide : 3 ≤ 24), ?_⟩
  rw [rows_eq h1 h2 lr]
  refine ⟨by rw [List.length_map, List.length_range]; exact Nat.le_trans h4 (by decide), fun x hx => ?_, ?_⟩
  · obtain ⟨j, hj, rfl⟩ := List.mem_map.mp hx
    have hj := List.mem_range.mp hj
    have e : cs.getD j [] ∈ cs := by
      rw [List.getD_eq_getElem?_getD, List.getElem?_eq_getElem (by omega)]
      exact List.getElem_mem _
    walk_at "dl"
    refine ⟨rfl, ?_⟩
    walk_at "dl"
    refine ⟨rfl, ?_⟩
    refine dw_call ?_
    walk_at "dl"
    refine ⟨(ns.getD j .non, cs.getD j [], colAt rs j), rfl, ⟨h5 _ e, by unfold colAt; rw [List.length_map]; omega⟩, rfl, ?_⟩
    show _ = colFacts _ ((unL (tInts _)).map unI) ((unL (tVals _)).map unO)
    rw [unI_t, unO_t]
  rw [List.map_map]
  walk_at "dl"
  refine ⟨(by decide : 2 ≤ sizeLine), ?_⟩
  show _ = factsOf m ns cs rs
  unfold factsOf
  rw [List.length_map]
  have e2 : ∀ j ∈ List.range m, (colOf ∘ fun j => PD.tup [ns.getD j .non, tInts (cs.getD j []), tVals (colAt rs j)]) j = colFacts (ns.getD j .non) (cs.getD j []) (colAt rs j) := fun j _ => by
    show colFacts _ ((unL (tInts _)).map unI) ((unL (tVals _)).map unO) = _
    rw [unI_t, unO_t]
  rw [List.map_congr_left e2]
end
end

set_option Elab.async false
set_option linter.all false
set_option maxRecDepth 100000
section
open PySem PySem.Spec PyProof.Rows L2 ZK
section
variable {base : Heap} {P : Program} {w : World} {mg : Str → Option Value} {K : PySem.W.Frag}
theorem range_getD {α : Type} (d : α) {m : Nat} {xs : List α} (h : xs.length = m) : (List.range m).map (fun j => xs.getD j d) = xs := by
  subst h
  refine List.ext_getElem (by rw [List.length_map, List.length_range]) fun i h1 h2 => ?_
  rw [List.getElem_map, List.getElem_range, List.getD_eq_getElem?_getD, List.getElem?_eq_getElem h2]
  rfl
/-- plain and flat enough to be compared -/
def plN (d : PD) : Prop := d.plain = true ∧ d.py.canLay0 = true ∧ d.py.depth = 0
abbrev aSc : List PD × List (List Int) × List (List (Option Int)) × PD → Nat → List PD := fun x m => [factsOf m x.1 x.2.1 x.2.2.1, x.2.2.2]
def pSc (m : Nat) : List PD × List (List Int) × List (List (Option Int)) × PD → Prop := fun x =>
  pFo m (x.1, x.2.1, x.2.2.1) ∧ (∀ d ∈ x.1, plN d) ∧ bRows x.2.2.2
def unRows (d : PD) : List (List (Option Int)) := (unL d).map fun r => (unL r).map unO
theorem unRows_t (rs : List (List (Option Int))) : unRows (.tup (rs.map tVals)) = rs := by
  show (rs.map tVals).map (fun r => (unL r).map unO) = rs
  rw [List.map_map]
  exact (List.map_congr_left fun r _ => unO_t r).trans (List.map_id _)
theorem val_is {y : PD} (h : isVal y = true) : oV (unO y) = y ∧ okV (unO y) = true := by
  cases y with
  | int i => exact ⟨rfl, h⟩
  | non => exact ⟨rfl, rfl⟩
  | bl b => cases h
  | _ => cases h
theorem vals_is {ys : List PD} (h : ys.all isVal = true) : ∃ r : List (Option Int), ys = r.map oV ∧ r.all okV = true := by
  have hh := List.all_eq_true.mp h
  refine ⟨ys.map unO, ?_, ?_⟩
  · rw [List.map_map]
    exact ((List.map_congr_left (g := id) fun y hy => (val_is (hh y hy)).1).trans (List.map_id _)).symm
  · refine List.all_eq_true.mpr fun o ho => ?_
    obtain ⟨y, hy, rfl⟩ := List.mem_map.mp ho
    exact (val_is (hh y hy)).2
theorem row_is {m : Int} {d : PD} (h : isRow m d = true) : ∃ r : List (Option Int), d = tVals r ∧ (r.length : Int) = m ∧ r.all okV = true := by
  cases d with
  | tup ys =>
    have h : (decide ((ys.length : Int) = m) && ys.all isVal) = true := h
    rw [Bool.and_eq_true, decide_eq_true_eq] at h
    obtain ⟨r, rfl, ok⟩ := vals_is h.2
    exact ⟨r, rfl, by rw [← h.1, List.length_map], ok⟩
  | _ => cases h
theorem rows_is {z m : Int} {d : PD} (h : isRows z m d = true) : ∃ rs : List (List (Option Int)), d = .tup (rs.map tVals) ∧ (rs.length : Int) = z ∧ ∀ r ∈ rs, (r.length : Int) = m ∧ r.all okV = true := by
  cases d with
  | tup xs =>
    have h : (decide ((xs.length : Int) = z) && xs.all (isRow m)) = true := h
    rw [Bool.and_eq_true, decide_eq_true_eq] at h
    have hh := List.all_eq_true.mp h.2
    have e : ∀ x ∈ xs, tVals ((unL x).map unO) = x ∧ (((unL x).map unO).length : Int) = m ∧ ((unL x).map unO).all okV = true := fun x hx => by
      obtain ⟨r, rfl, l, ok⟩ := row_is (hh x hx)
      rw [unO_t]
      exact ⟨rfl, l, ok⟩
    refine ⟨xs.map fun x => (unL x).map unO, ?_, by rw [← h.1, List.length_map], fun r hr => ?_⟩
    · rw [List.map_map]
      exact congrArg PD.tup ((List.map_congr_left (g := id) fun x hx => (e x hx).1).trans (List.map_id _)).symm
    · obtain ⟨x, hx, rfl⟩ := List.mem_map.mp hr
      exact (e x hx).2
  | _ => cases h
def isCand (m : Nat) (ns : List PD) (cs : List (List Int)) (rs0 : List (List (Option Int))) (d : PD) : Bool :=
  isRows rs0.length m d && PyData.eqv (factsOf m ns cs (unRows d)).py (factsOf m ns cs rs0).py
/-- plain, and not deeper than so much -/
def fl (n : Nat) (d : PD) : Prop := d.plain = true ∧ d.py.canLay0 = true ∧ d.py.depth ≤ n
theorem fl_int {n : Nat} {i : Int} : fl n (.int i) := ⟨rfl, rfl, Nat.zero_le _⟩
theorem fl_non {n : Nat} : fl n .non := ⟨rfl, rfl, Nat.zero_le _⟩
theorem fl_all {n : Nat} : ∀ {xs : List PD}, (∀ x ∈ xs, fl n x) → PD.plainAll xs = true ∧ PyData.canLayAll0 (PD.pyAll xs) = true ∧ PyData.depthAll (PD.pyAll xs) ≤ n
  | [], _ => ⟨rfl, rfl, Nat.zero_le _⟩
  | x :: xs, h => by
    obtain ⟨a, b, c⟩ := h x List.mem_cons_self
    obtain ⟨p, q, r⟩ := fl_all (xs := xs) fun y hy => h y (List.mem_cons_of_mem _ hy)
    refine ⟨?_, ?_, ?_⟩
    · show (PD.plain x && PD.plainAll xs) = true
      rw [a, p]
      rfl
    · show (PyData.canLay0 (PD.py x) && PyData.canLayAll0 (PD.pyAll xs)) = true
      rw [b, q]
      rfl
    · show max (PyData.depth (PD.py x)) (PyData.depthAll (PD.pyAll xs)) ≤ n
      exact Nat.max_le.mpr ⟨c, r⟩
theorem fl_tup {n : Nat} {xs : List PD} (h : ∀ x ∈ xs, fl n x) : fl (n + 1) (.tup xs) := by
  obtain ⟨a, b, c⟩ := fl_all h
  exact ⟨a, b, Nat.succ_le_succ c⟩
theorem fl_ints {n : Nat} (is : List Int) : fl (n + 1) (tInts is) := fl_tup fun x hx => by
  obtain ⟨i, _, rfl⟩ := List.mem_map.mp hx
  exact fl_int
theorem fl_ok {n : Nat} {d : PD} (h : fl n d) (l : n ≤ 64) : okE d = true := by
  obtain ⟨a, b, c⟩ := h
  show (d.plain && (d.py.canLay0 && decide (d.py.depth ≤ 64))) = true
  rw [a, b, decide_eq_true (Nat.le_trans c l)]
  rfl
theorem fl_minV {n : Nat} (is : List Int) : fl n (minV is) := by
  unfold minV
  split
  · exact fl_non
  · exact fl_int
theorem fl_maxV {n : Nat} (is : List Int) : fl n (maxV is) := by
  unfold maxV
  split
  · exact fl_non
  · exact fl_int
theorem fl_col {c : PD} {cs : List Int} {vs : List (Option Int)} (h : plN c) : fl 3 (colFacts c cs vs) := fl_tup fun x hx => by
  simp only [List.mem_cons, List.not_mem_nil, or_false] at hx
  rcases hx with rfl | rfl | rfl | rfl | rfl | rfl
  · exact ⟨h.1, h.2.1, by rw [h.2.2]; exact Nat.zero_le _⟩
  · exact fl_ints _
  · exact fl_int
  · exact fl_minV _
  · exact fl_maxV _
  · refine fl_tup fun x hx => ?_
    obtain ⟨k, _, rfl⟩ := List.mem_map.mp hx
    refine fl_tup fun x hx => ?_
    simp only [List.mem_cons, List.not_mem_nil, or_false] at hx
    rcases hx with rfl | rfl
    · exact fl_int
    · exact fl_int
theorem plN_non : plN .non := ⟨rfl, rfl, rfl⟩
theorem fl_facts {m : Nat} {ns : List PD} {cs : List (List Int)} {rs : List (List (Option Int))} (h : ∀ d ∈ ns, plN d) : fl 5 (factsOf m ns cs rs) := fl_tup fun x hx => by
  simp only [List.mem_cons, List.not_mem_nil, or_false] at hx
  rcases hx with rfl | rfl
  · exact fl_int
  refine fl_tup fun x hx => ?_
  obtain ⟨j, _, rfl⟩ := List.mem_map.mp hx
  refine fl_col ?_
  rw [List.getD_eq_getElem?_getD]
  cases e : ns[j]? with
  | none => exact plN_non
  | some d => exact h d (List.mem_of_getElem? e)
theorem okE_facts {m : Nat} {ns : List PD} {cs : List (List Int)} {rs : List (List (Option Int))} (h : ∀ d ∈ ns, plN d) : okE (factsOf m ns cs rs) = true := fl_ok (fl_facts h) (by decide)
def snd : PD → PD
  | .tup (_ :: d :: _) => d
  | _ => .non
def Ls (m : Nat) (ns : List PD) (cs : List (List Int)) (rs : List (List (Option Int))) : List (PD × List Int × List PD) :=
  (List.range m).map fun j => (ns.getD j .non, cs.getD j [], let vs := colAt rs j
    [.int ((vs.length : Int) - ((there vs).length : Int)), minV (there vs), maxV (there vs), .tup ((List.range ((cs.getD j []).length + 1)).map fun k => pairP (group (cs.getD j []) (there vs) k))])
theorem facts_facP {m : Nat} {ns : List PD} {cs : List (List Int)} {rs : List (List (Option Int))} : factsOf m ns cs rs = facP rs.length (Ls m ns cs rs) := by
  unfold factsOf facP Ls
  rw [List.map_map]
  rfl
theorem Ls_len {m : Nat} {ns : List PD} {cs : List (List Int)} {rs : List (List (Option Int))} : (Ls m ns cs rs).length = m := by
  unfold Ls
  rw [List.length_map, List.length_range]
theorem ok_shows_candidate {m : Nat} {f : Addr} {fd : FuncData} (F : Fun K "shows_candidate" "shows_candidate" s_shows_candidate f fd) (T : Txt mg) (C_is_row : Pf.Cal P w K mg base 4 "is_row" (SpT aRow (fun x => bRow x.1) fun x => .bl (isRow x.2 x.1)))
    (C_names_in : Pf.Cal P w K mg base 1 "names_in" (SpT aFac pFac fun x => .lst (x.2.map fun c => c.1))) (C_facts_of : Pf.Cal P w K mg base 3 "facts_of" (SpT aFo (pFo m) fun x => factsOf m x.1 x.2.1 x.2.2)) :
    Pf.FnG P w K mg base 5 f fd ["facts", "value"] (SpT (fun x => aSc x m) (pSc m) fun x => .bl (isCand m x.1 x.2.1 x.2.2.1 x.2.2.2)) := by
  refine okP F sc_shows_candidate (fun _ => rfl) (by decide) fun cdv A outer s H E hr => ⟨_, (pss_cons (ps_asg (pv 0) (pg_tup (n := 2) rfl (pgs_cons (pg_name (i := 2) sc_shows_candidate.nd rfl (Or.inl rfl)) (pgs_cons (pg_name (i := 3) sc_shows_candidate.nd rfl (Or.inr rfl)) pgs_nil))))
        (pss_cons (ps_if (PW.pt (pw_or (pt_not (pt_val (pe_callB (call_isT (T := "tuple")) (by rfl) T.b_isinstance (by decide +kernel) (pa_cons (pv 1) (pa_cons (pe_bltn (v := .ty "tuple") (u := .type "tuple") (by rfl) T.b_tuple (by decide +kernel) rfl) pa_nil))))) (pw_or1 (pt_cmpR (op_neD hr.2.u64) (pe_callB call_lenA (by rfl) T.b_len (by decide +kernel) (pa_cons (pv 1) pa_nil)) (pv 2) (nomark _))))) (pss_one (ps_ret pe_bl)) pss_nil)
        (pss_cons (ps_if (pt_not (pt_val (pe_callB (cr_all rfl) (by rfl) T.b_all (by decide +kernel) (pa_cons (pe_lc (own := [("row", 4)]) (g := gName 4) (tt := tYes) rfl sc_shows_candidate.nd (pi_tup (pv 1)) (blkOk_by (own := [("row", 4)]) (N := ["facts", "value", "size", "columns", "row", "column"]) (sc := defScope s_shows_candidate) (by decide +kernel)) (fun _ _ _ _ _ => (pg_name (i := 4) sc_shows_candidate.nd rfl (Or.inl rfl))) (fun _ _ _ _ _ => pts_nil) (fun _ _ _ _ _ => (Pf.pe_c C_is_row hr (by decide) (by rfl) (pa_cons (pv 4) (pa_cons (pe_callB (show CallR _ _ (rLenA K) from call_lenA) (by rfl) T.b_len (by decide +kernel) (pa_cons (pv 3) pa_nil)) pa_nil))))) pa_nil)))) (pss_one (ps_ret pe_bl)) pss_nil)
        (pss_one (ps_ret (pe_cmpR (op_eqD hr.2.u64) (Pf.pe_c C_facts_of hr (by decide) (by rfl) (pa_cons (pe_callTy call_tuple_of (by rfl) T.b_tuple (by decide +kernel) (pa_cons (Pf.pe_c C_names_in hr (by decide) (by rfl) (pa_cons (pv 0) pa_nil)) pa_nil)) (pa_cons (pe_callTy call_tuple_of (by rfl) T.b_tuple (by decide +kernel) (pa_cons (pe_lc (own := [("column", 5)]) (g := gName 5) (tt := tYes) rfl sc_shows_candidate.nd (pi_tup (pv 3)) (blkOk_by (own := [("column", 5)]) (N := ["facts", "value", "size", "columns", "row", "column"]) (sc := defScope s_shows_candidate) (by decide +kernel)) (fun _ _ _ _ _ => (pg_name (i := 5) sc_shows_candidate.nd rfl (Or.inl rfl))) (fun _ _ _ _ _ => pts_nil) (fun _ _ _ _ _ => (pe_ix (show IxR _ (rIx K) from ix_seq) (pv 5) pe_int (fun _ _ => rfl)))) pa_nil)) (pa_cons (pv 1) pa_nil)))) (pv 0) (nomark _))))))), fun ⟨ns, cs, r0, d⟩ ⟨⟨h1, h2, h3, h4, h5, h6, h7, h8⟩, hn, hb, hd⟩ => ?_⟩
  show DS _ 0 [.dat (factsOf m ns cs r0), .dat d, .un, .un, .un, .un] _
  have h1 : ns.length = m := h1
  have h2 : cs.length = m := h2
  have h5 : ∀ c ∈ cs, c.length ≤ 20 := h5
  have h6 : r0 ≠ [] := h6
  have h7 : r0.length ≤ 24 := h7
  have h8 : ∀ r ∈ r0, r.length = m := h8
  rw [facts_facP]
  walk_at "dl"
  refine ds_asg (ts := [2, 3]) ?_
  walk_at "dl"
  refine ⟨rfl, ?_⟩
  walk_at "dl"
  refine s_isT hb ?_
  walk_at "dl"
  refine s_if (fun e => ?_) fun e => ?_
  · refine s_if (fun _ => ?_) fun z => by cases z
    walk_at "dl"
    show PD.bl false = PD.bl (isCand m ns cs r0 d)
    cases d with
    | tup xs => cases e
    | _ => rfl
  obtain ⟨xs, rfl⟩ : ∃ xs, d = .tup xs := by
    cases d with
    | tup xs => exact ⟨xs, rfl⟩
    | _ => cases e
  obtain ⟨h9, h10⟩ := hd xs rfl
  walk_at "dl"
  refine s_ne rfl rfl ?_
  rw [eqvI]
  walk_at "dl"
  have un : isCand m ns cs r0 (.tup xs) = ((decide ((xs.length : Int) = (r0.length : Int)) && xs.all (isRow m)) && PyData.eqv (factsOf m ns cs (unRows (.tup xs))).py (factsOf m ns cs r0).py) := rfl
  refine s_if (fun e => ?_) fun e => ?_
  · walk_at "dl"
    show PD.bl false = PD.bl (isCand m ns cs r0 (.tup xs))
    rw [un]
    rw [Bool.not_eq_true'] at e
    rw [e]
    rfl
  rw [Bool.not_eq_false'] at e
  rw [e, Bool.true_and] at un
  walk_at "dl"
  refine dw_of_do (do_map (ts := [4]) (fun x => .bl (isRow m x)) (di_tup ?_))
  walk_at "dl"
  refine ⟨Nat.le_trans h9 (by decide), fun x hx => ?_, ?_⟩
  · walk_at "dl"
    refine ⟨rfl, ?_⟩
    refine dw_call ?_
    walk_at "dl"
    exact ⟨(x, m), by unfold aRow; rw [List.length_map, Ls_len], h10 x hx, rfl, rfl⟩
  walk_at "dl"
  refine ⟨xs.map (isRow m), by rw [List.map_map]; rfl, ?_⟩
  rw [List.all_map]
  walk_at "dl"
  refine s_if (fun e => ?_) fun e => ?_
  · have ne : (xs.all (isRow m)) = false := by
      have : (xs.all (id ∘ isRow m)) = false := by
        rw [Bool.not_eq_true'] at e
        exact e
      exact this
    walk_at "dl"
    show PD.bl false = PD.bl (isCand m ns cs r0 (.tup xs))
    rw [un, ne]
    rfl
  have al : (xs.all (isRow m)) = true := by
    rw [Bool.not_eq_false'] at e
    exact e
  rw [al, Bool.true_and] at un
  obtain ⟨rs, er, le, hrs⟩ := rows_is (z := (r0.length : Int)) (m := m) (d := .tup xs) (by
    show (decide ((xs.length : Int) = (r0.length : Int)) && xs.all (isRow m)) = true
    rw [al, ‹decide ((xs.length : Int) = (r0.length : Int)) = true›]
    rfl)
  cases er
  have le : rs.length = r0.length := by omega
  walk_at "dl"
  refine dw_call ?_
  walk_at "dl"
  refine dw_call ?_
  walk_at "dl"
  refine ⟨(r0.length, Ls m ns cs r0), rfl, (by show (Ls m ns cs r0).length ≤ 20; rw [Ls_len]; exact h4), ?_⟩
  walk_at "dl"
  refine dw_of_do (do_map (ts := [5]) snd (di_tup ?_))
  walk_at "dl"
  refine ⟨by rw [List.length_map, Ls_len]; exact Nat.le_trans h4 (by decide), fun x hx => ?_, ?_⟩
  · obtain ⟨c, _, rfl⟩ := List.mem_map.mp hx
    walk_at "dl"
    refine ⟨rfl, ?_⟩
    walk_at "dl"
    exact s_ixT (at_k (k := 1) rfl) ⟨rfl, rfl⟩
  walk_at "dl"
  have e1 : (Ls m ns cs r0).map (fun c => c.1) = ns := by
    unfold Ls
    rw [List.map_map]
    exact range_getD .non h1
  have e2 : ((Ls m ns cs r0).map colP).map snd = cs.map tInts := by
    have e3 : (Ls m ns cs r0).map (fun c => c.2.1) = cs := by
      unfold Ls
      rw [List.map_map]
      exact range_getD [] h2
    rw [← e3, List.map_map, List.map_map, e3]
    rfl
  rw [e1, e2]
  refine ⟨(ns, cs, rs), rfl, ⟨h1, h2, h3, h4, h5, fun z => h6 (List.eq_nil_of_length_eq_zero (by rw [← le]; exact congrArg List.length (show rs = [] from z))), (by show rs.length ≤ 24; omega), fun r hr => (by have := (hrs r hr).1; omega)⟩, ?_⟩
  rw [← facts_facP]
  walk_at "dl"
  refine s_eq (okE_facts hn) (okE_facts hn) ?_
  show PD.bl _ = PD.bl (isCand m ns cs r0 (.tup (rs.map tVals)))
  rw [un, unRows_t]
end
end

set_option Elab.async false
set_option linter.all false
set_option maxRecDepth 100000
/-! The law's own draws. -/
section
open PySem PySem.Spec PyProof.Rows L2 Pf
local macro_rules | `(tactic| walk_at "rd") => `(tactic| simp only [tC1, tCK, tB, rNe, rEq, tChain, gTupV, gCons, gNil, Nat.sub_self, Nat.reduceSub, List.replicate_zero, List.replicate_succ, tTest, tIfS, tIf, tNot, tAnd, tOr, tAndV, tOrV, tNotV, tDrop, tNext, rIxV, rIxP,
  gSub, rSetL, tSl, tPart, tNoPart, rSl1, tAsg2, ipI, tDNewK, tBM, rAppend, wipe, rAllB, rAnyB, iTup, iList, RZ.iZipA, iRng1, iRng2, tYes, upd_same, at0, at1, at2, at20, at21, ixN30, ixN32, HO.lst.injEq, HO.tup.injEq, Nat.reduceAdd, tSeq, tAsg, tPar, tAug, tOp, tVar, tC, tCB, tCons, tNil, rI, rI0, rU, tUn, gName, tRet, tLst, tLstM, tTup, L2.start, List.map_cons, List.map_nil, List.length_cons, List.length_nil, List.replicate, List.cons_append,
  List.nil_append, List.set_cons_zero, List.set_cons_succ, List.getElem?_cons_zero, List.getElem?_cons_succ, Option.some.injEq, V.int.injEq, V.ref.injEq, V.bl.injEq, V.str.injEq, List.cons.injEq, exists_eq_left', exists_eq_left, exists_and_left, exists_and_right, and_true, true_and, reduceCtorEq, false_and,
  exists_false, or_false, false_or, exists_const, exists_eq, exists_eq', Bool.not_true, Bool.not_false, Bool.false_eq_true, if_true, if_false, ite_true, ite_false])
section
variable {base : Heap} {P : Program} {w : World} {mg : Str → Option Value} {K : PySem.W.Frag}
theorem pot_c6b (c : Int) : CMul (c % 2305843009213693951) 74021 := Or.inr (by decide)
theorem pot_c8b {k : Nat} (hk : k ≤ 63) : CMul (9137 * (k : Int)) (k : Int) := Or.inr (by omega)
def sp_pot (K : PySem.W.Frag) : Sp := fun vs H Q _ => ∃ (a : Addr) (ns : List Int) (k : Nat), vs = [.ref a, .int k] ∧ SqL K H a (ns.map V.int) ∧ ns.length ≤ 63 ∧ k ≤ 63 ∧ ∀ H' p, Same H H' → H p = none → Pf.Pot H' p 0 → Q (.ref p) H'
theorem ok_pot {f : Addr} {fd : FuncData} (F : Fun K "_law_pot" "_law_pot" s__law_pot f fd) (T : Txt mg) : FnG P w K mg base 1 f fd ["_law_script", "_law_k"] (sp_pot K) := by
  refine okG F sc__law_pot (fun vs H Q E h => ?_) (fun cdv A outer s H vs Q E hg hr h => ?_)
  · obtain ⟨a, ns, k, rfl, _⟩ := h
    rfl
  · obtain ⟨a, ns, k, rfl, hS, hlen, hk, q⟩ := h
    replace hr := And.intro hg hr
    refine ⟨_, (pss_cons (ps_set (i := 2) sc__law_pot.nd rfl (Or.inl rfl) (pe_ifExp (pt_cmpR op_lt (pv 1) (pe_callB call_len_seq (by rfl) T.b_len (by decide +kernel) (pa_cons (pv 0) pa_nil)) (nomark _)) (pe_ix ix_list (pv 0) (pv 1) (fun _ _ => rfl)) (pe_op op_add (pe_op op_mul pe_int (pv 1)) pe_int)))
        (pss_cons (ps_set (i := 3) sc__law_pot.nd rfl (Or.inl rfl) (pe_op op_mul (pe_op op_mod (pe_callTy call_intI (by rfl) T.b_int (by decide +kernel) (pa_cons (pe_callB call_abs (by rfl) T.b_abs (by decide +kernel) (pa_cons (pv 2) pa_nil)) pa_nil)) (pe_op op_powW (pe_op op_powW pe_int pe_int) pe_int)) (pe_callTy call_int1 (by rfl) T.b_int (by decide +kernel) (pa_cons (pe_cmpR op_ge (pe_callB call_abs (by rfl) T.b_abs (by decide +kernel) (pa_cons (pv 2) pa_nil)) (pe_op op_powW pe_int pe_int) (nomark _)) pa_nil))))
        (pss_one (ps_ret (pe_lst (pa_cons (pv 3) (pa_cons (pe_op op_mod (pe_callTy call_intI (by rfl) T.b_int (by decide +kernel) (pa_cons (pe_op op_add (pe_op op_add (pe_op op_mul (pe_op op_mod (pe_callTy call_intI (by rfl) T.b_int (by decide +kernel) (pa_cons (pv 2) pa_nil)) pe_int) pe_int) (pe_op op_mul (pe_op op_mul pe_int (pv 1)) (pv 1))) pe_int) pa_nil)) pe_int) (pa_cons pe_int pa_nil)))))))), ?_⟩
    refine ⟨.int k, rfl, .ref a, rfl, a, _, rfl, .inl hS, (k : Int), _, rfl, rfl, _, rfl, ?_⟩
    refine ite2 (fun e => ?_) (fun e => ?_)
    · have hlt : k < ns.length := by
        have := of_decide_eq_true e
        rw [List.length_map] at this
        omega
      refine ⟨.ref a, rfl, .int k, rfl, a, _, (k : Int), _, rfl, rfl, hS, cell_at hlt, ?_⟩
      generalize ns[k] = c
      walk_at "rd"
      refine ⟨pot_c1, pot_c2, pot_c3, pot_c4, pot_c5, by decide, pot_c6b c, pot_c7 9137 (by decide) hk, pot_c8b hk, by decide, by decide, fun p hp => q _ p (new_same hp) hp (pot_made H p _ _ _)⟩
    · walk_at "rd"
      refine ⟨pot_c7 13 (by decide) hk, pot_c1, pot_c2, pot_c3, pot_c4, pot_c5, by decide, pot_c6b _, pot_c7 9137 (by decide) hk, pot_c8b hk, by decide, by decide, fun p hp => q _ p (new_same hp) hp (pot_made H p _ _ _)⟩
def sp_draw : Sp := fun vs H Q _ => ∃ (p : Addr) (many : Int) (m : Nat), vs = [.ref p, .int many] ∧ Pf.Pot H p m ∧ m < 1000000 ∧ 1 ≤ many ∧ many.natAbs < 2 ^ 200 ∧
  ∀ (H' : Hp) (r : Int), Kp p H H' → Pf.Pot H' p (m + 1) → 0 ≤ r → r < many → Q (.int r) H'
theorem ok_draw {f : Addr} {fd : FuncData} (F : Fun K "_law_draw" "_law_draw" s__law_draw f fd) (T : Txt mg) : FnG P w K mg base 1 f fd ["_law_pot_here", "_law_many"] sp_draw := by
  refine okG F sc__law_draw (fun vs H Q E h => ?_) (fun cdv A outer s H vs Q E hg hr h => ?_)
  · obtain ⟨p, many, m, rfl, _⟩ := h
    rfl
  · obtain ⟨p, many, m, rfl, ⟨a, b, c, e, h1, h2, h3, h4, h5, h6⟩, hm, hn, hn2, q⟩ := h
    replace hr := And.intro hg hr
    refine ⟨_, (pss_cons (ps_if (pt_cmpR op_gt (pe_ix ix_v (pv 0) pe_int (fun _ _ => rfl)) pe_int (nomark _)) (pss_cons (ps_set (i := 2) sc__law_draw.nd rfl (Or.inl rfl) (pe_op op_mod (pe_callTy call_intI (by rfl) T.b_int (by decide +kernel) (pa_cons (pe_ix ix_v (pv 0) pe_int (fun _ _ => rfl)) pa_nil)) (pv 1)))
        (pss_cons (ps_asg (pe_op op_fdivW (pe_ix ix_v (pv 0) pe_int (fun _ _ => rfl)) (pv 1)) (pg_sub (pv 0) pe_int set_list))
        (pss_one (ps_ret (pv 2))))) pss_nil)
        (pss_cons (ps_asg (pe_op op_add (pe_ix ix_v (pv 0) pe_int (fun _ _ => rfl)) pe_int) (pg_sub (pv 0) pe_int set_list))
        (pss_cons (ps_set (i := 3) sc__law_draw.nd rfl (Or.inl rfl) (pe_ix ix_v (pe_lst (pa_cons pe_int (pa_cons pe_int (pa_cons pe_int (pa_cons pe_int (pa_cons pe_int pa_nil)))))) (pe_op op_mod (pe_callTy call_intI (by rfl) T.b_int (by decide +kernel) (pa_cons (pe_ix ix_v (pv 0) pe_int (fun _ _ => rfl)) pa_nil)) pe_int) (fun _ _ => rfl)))
        (pss_cons (ps_set (i := 4) sc__law_draw.nd rfl (Or.inl rfl) (pe_op op_mod (pe_callTy call_intI (by rfl) T.b_int (by decide +kernel) (pa_cons (pe_op op_pow (pe_op op_add (pe_op op_add (pe_ix ix_v (pv 0) pe_int (fun _ _ => rfl)) (pe_op op_mul (pe_op op_mul pe_int (pe_ix ix_v (pv 0) pe_int (fun _ _ => rfl))) (pe_ix ix_v (pv 0) pe_int (fun _ _ => rfl)))) pe_int) pe_int) pa_nil)) (pv 3)))
        (pss_cons (ps_set (i := 4) sc__law_draw.nd rfl (Or.inl rfl) (pe_op op_mod (pe_callTy call_intI (by rfl) T.b_int (by decide +kernel) (pa_cons (pe_op op_mul (pv 4) (pe_op op_add (pe_op op_mod (pe_callTy call_intI (by rfl) T.b_int (by decide +kernel) (pa_cons (pv 4) pa_nil)) pe_int) (pe_op op_mul pe_int (pe_ix ix_v (pv 0) pe_int (fun _ _ => rfl))))) pa_nil)) pe_int))
        (pss_one (ps_ret (pe_op op_mod (pe_callTy call_intI (by rfl) T.b_int (by decide +kernel) (pa_cons (pe_op op_fdivW (pv 4) pe_int) pa_nil)) (pv 1))))))))), ?_⟩
    walk_at "rd"
    simp only [e, Option.some.injEq, HO.lst.injEq, exists_eq_left']
    walk_at "rd"
    refine ite2 (fun g => ?_) (fun g => ?_)
    · refine ⟨hn, wide_div hn hn2 (by decide) (by decide), q _ _ Kp.put ⟨_, _, _, upd_same, Int.ediv_nonneg h1 (by omega), ?_, h3, h4, h5, by omega⟩ (Int.emod_nonneg _ (by omega)) (Int.emod_lt_of_pos _ hn)⟩
      have le : a / many ≤ a := Int.ediv_le_self _ h1
      have ge := Int.ediv_nonneg h1 (show 0 ≤ many by omega)
      exact wide_le ge le h2
    · refine ⟨by decide, fun r nr => ?_⟩
      have npr : p ≠ r := fun z => by
        rw [z, upd_same] at nr
        cases nr
      have e2 : ∀ o, upd (upd H p (HO.lst [V.int a, V.int b, V.int (c + 1)])) r o p = some (.lst [V.int a, V.int b, V.int (c + 1)]) := fun o => by rw [upd_ne npr, upd_same]
      simp only [e2, Option.some.injEq, HO.lst.injEq, exists_eq_left']
      walk_at "rd"
      obtain ⟨d, d0, d1, ed⟩ := five (Int.emod_nonneg (c + 1) (by decide : (5 : Int) ≠ 0)) (Int.emod_lt_of_pos (c + 1) (by decide))
      simp only [ed, Option.some.injEq, exists_eq_left', e2, HO.lst.injEq]
      walk_at "rd"
      have t0 : 0 ≤ c + 1 := by omega
      have t1 : c + 1 ≤ 1000000 := by omega
      have t2 : (c + 1) * (c + 1) ≤ 1000000 * 1000000 := Int.mul_le_mul t1 t1 t0 (by decide)
      have t3 : 0 ≤ (c + 1) * (c + 1) := Int.mul_nonneg t0 t0
      have t4 : 99991 * (c + 1) * (c + 1) = 99991 * ((c + 1) * (c + 1)) := Int.mul_assoc _ _ _
      have m0 := Int.emod_nonneg ((b + 99991 * (c + 1) * (c + 1) + 61) ^ Int.toNat 3) (show d ≠ 0 by omega)
      have m1 := Int.emod_lt_of_pos ((b + 99991 * (c + 1) * (c + 1) + 61) ^ Int.toNat 3) d0
      refine ⟨by decide, Or.inl (by decide), Or.inr (by omega), ⟨by decide, by decide, by omega⟩, d0, by decide, Or.inl (by decide), Or.inl (by omega), by decide, ⟨by decide, by decide⟩, hn,
        q _ _ (Kp.trans Kp.put (Kp.new nr)) ⟨_, _, _, e2 _, h1, h2, h3, h4, t0, by omega⟩ (Int.emod_nonneg _ (by omega)) (Int.emod_lt_of_pos _ hn)⟩

theorem _root_.Pf.FnG.weak {k : Nat} {f : Addr} {fd : FuncData} {ps : List Str} {sp sp' : Sp} (F : FnG P w K mg base k f fd ps sp) (h : ∀ vs H Q E, sp' vs H Q E → sp vs H Q E) : FnG P w K mg base k f fd ps sp' :=
  ⟨fun vs H Q E s => F.size vs H Q E (h vs H Q E s), fun A outer s H args us vs Q E hg hr e b r z => F.goes A outer s H args us vs Q E hg hr e b r (h vs H Q E z)⟩
def aDraw : Int → List PD := fun m => [.int m]
def pDraw : Int → Prop := fun m => 1 ≤ m ∧ m.natAbs < 2 ^ 200
def oDraw : Int → PD → Prop := fun m d => ∃ r : Int, d = .int r ∧ 0 ≤ r ∧ r < m
theorem ok_drawN {f : Addr} {fd : FuncData} (F : Fun K "_law_draw" "_law_draw" s__law_draw f fd) (T : Txt mg) : FnG P w K mg base 1 f fd ["_law_pot_here", "_law_many"] (SpN 1 aDraw pDraw oDraw) := (ok_draw F T).weak fun vs H Q E h => by
  obtain ⟨Z, p, us, m, x, rfl, zp, zd, hp, lm, hd, ⟨h1, h2⟩, q⟩ := h
  cases hd with
  | cons a b =>
    cases b
    cases a
    exact ⟨p, x, m, rfl, hp, by omega, h1, h2, fun H' r k p1 r0 r1 => q _ H' (.int r) ⟨r, rfl, r0, r1⟩ k p1 (.int r)⟩
end
end

set_option Elab.async false
set_option linter.all false
set_option maxRecDepth 100000
section
open PySem PySem.Spec PyProof.Rows L2 ZK
section
variable {base : Heap} {P : Program} {w : World} {mg : Str → Option Value} {K : PySem.W.Frag}
def aAny : List PD → List PD := fun xs => [.lst xs]
def pAny : List PD → Prop := fun xs => xs ≠ [] ∧ xs.length ≤ 1000
def oAny : List PD → PD → Prop := fun xs d => d ∈ xs
theorem ok_any {f : Addr} {fd : FuncData} (F : Fun K "_law_any" "_law_any" s__law_any f fd) (T : Txt mg) (C__law_draw : Pf.Cal P w K mg base 1 "_law_draw" (SpN 1 aDraw pDraw oDraw)) :
    Pf.FnG P w K mg base 2 f fd ["_law_pot_here", "_law_items"] (SpN 1 aAny pAny oAny) := by
  refine okN F sc__law_any (fun _ => rfl) (by decide) (by decide) fun cdv A outer s H E hr => ⟨_, (pss_one (ps_ret (pe_ix ix_seq (pv 1) (Pf.pe_c C__law_draw hr (by decide) (by rfl) (pa_cons (pv 0) (pa_cons (pe_callB call_lenA (by rfl) T.b_len (by decide +kernel) (pa_cons (pv 1) pa_nil)) pa_nil))) (fun _ _ => rfl)))), fun xs ⟨h1, h2⟩ => ?_⟩
  show DS _ 1 [.pot, .dat (.lst xs)] _
  walk_at "dl"
  refine dw_callN rfl ?_
  walk_at "dl"
  have l0 : 0 < xs.length := List.length_pos_iff.mpr h1
  refine ⟨(xs.length : Int), rfl, ⟨by omega, by rw [Int.natAbs_natCast]; exact Nat.lt_of_le_of_lt h2 (by decide)⟩, by decide, by decide, fun d ⟨r, e, r0, r1⟩ => ?_⟩
  subst e
  obtain ⟨k, rfl⟩ := Int.eq_ofNat_of_zero_le r0
  have lk : k < xs.length := by omega
  exact s_ixL (at_k (List.getElem?_eq_getElem lk)) (List.getElem_mem lk)
theorem fl_lst {n : Nat} {xs : List PD} (h : ∀ x ∈ xs, fl n x) : fl (n + 1) (.lst xs) := by
  obtain ⟨a, b, c⟩ := fl_all h
  exact ⟨a, b, Nat.succ_le_succ c⟩
theorem eqv_nil (xs : List PD) : PyData.eqv (PD.lst xs).py (PD.lst []).py = xs.isEmpty := by
  show PyData.eqv (.list (PD.pyAll xs)) (.list []) = _
  rw [PyData.eqv]
  cases xs with
  | nil => rfl
  | cons x r => rfl
theorem perm_erase {α : Type} : ∀ {xs : List α} {k : Nat} (h : k < xs.length), ([xs[k]] ++ xs.eraseIdx k).Perm xs
  | x :: r, 0, _ => List.Perm.refl _
  | x :: r, k + 1, h => by
    have hk : k < r.length := Nat.lt_of_succ_lt_succ h
    have ih := perm_erase (xs := r) (k := k) hk
    exact (List.Perm.swap x r[k] (r.eraseIdx k)).trans (ih.cons x)
def aMix : List PD → List PD := fun xs => [.lst xs]
def pMix : List PD → Prop := fun xs => xs.length ≤ 24 ∧ ∀ x ∈ xs, fl 3 x
def oMix : List PD → PD → Prop := fun xs d => ∃ ys, d = .lst ys ∧ ys.Perm xs
theorem ok_mixed {f : Addr} {fd : FuncData} (F : Fun K "_law_mixed" "_law_mixed" s__law_mixed f fd) (T : Txt mg) (C__law_draw : Pf.Cal P w K mg base 1 "_law_draw" (SpN 1 aDraw pDraw oDraw)) :
    Pf.FnG P w K mg base 2 f fd ["_law_pot_here", "_law_items"] (SpN 24 aMix pMix oMix) := by
  refine okN F sc__law_mixed (fun _ => rfl) (by decide) (by decide) fun cdv A outer s H E hr => ⟨_, (pss_cons (ps_par (i := 2) (j := 3) (by rfl) sc__law_mixed.nd rfl rfl (by decide) rfl rfl (pa_cons (pe_callTy call_list_of (by rfl) T.b_list (by decide +kernel) (pa_cons (pv 1) pa_nil)) (pa_cons (pe_lst pa_nil) pa_nil)) (by rfl))
        (pss_cons (ps_while PassesOwn.never (pt_cmpR (op_neD hr.2.u64) (pv 2) (pe_lst pa_nil) (nomark _)) (pss_one (ps_expr (pe_bm PySem.F.plainAttrs_list PySem.F.slot_list_append PySem.F.type_list_append mt_append (pv 3) (pa_cons (pe_bm PySem.F.plainAttrs_list PySem.F.slot_list_pop PySem.F.type_list_pop mt_popAt (pv 2) (pa_cons (Pf.pe_c C__law_draw hr (by decide) (by rfl) (pa_cons (pv 0) (pa_cons (pe_callB call_lenA (by rfl) T.b_len (by decide +kernel) (pa_cons (pv 2) pa_nil)) pa_nil))) pa_nil)) pa_nil)))))
        (pss_one (ps_ret (pv 3))))), fun xs h1 => ?_⟩
  show DS _ 24 [.pot, .dat (.lst xs), .un, .un] _
  obtain ⟨h1, h2⟩ := h1
  walk_at "dl"
  refine ds_par ?_
  refine dm_own (do_cb rbo_list ?_)
  walk_at "dl"
  refine dm_own (do_lst ?_)
  walk_at "dl"
  refine ⟨by decide, dm_nil ⟨rfl, ?_⟩⟩
  show DS _ 24 [.pot, .dat (.lst xs), .own xs, .own []] _
  walk_at "dl"
  refine ds_while (fun m nb δ => ∃ left found, m = left.length ∧ δ = [.pot, .dat (.lst xs), .own left, .own found] ∧ left.length ≤ nb ∧ (found ++ left).Perm xs) xs.length ⟨xs, [], rfl, rfl, h1, List.Perm.refl _⟩ ?_
  rintro m nb δ1 ⟨left, found, rfl, rfl, l1, pm⟩
  have ll : left.length ≤ 24 := by
    have := pm.length_eq
    rw [List.length_append] at this
    omega
  have lf : found.length ≤ 24 := by
    have := pm.length_eq
    rw [List.length_append] at this
    omega
  have fx : ∀ x ∈ left, fl 3 x := fun x hx => h2 x (pm.mem_iff.mp (List.mem_append_right _ hx))
  refine dt_peek ?_
  show DT _ nb [.pot, .dat (.lst xs), .dat (.lst left), .dat (.lst found)] _
  walk_at "dl"
  refine dw_of_do (do_lst ?_)
  walk_at "dl"
  refine ⟨(by decide : 0 ≤ sizeLine), ?_⟩
  refine s_ne (fl_ok (fl_lst fx) (by decide)) rfl ?_
  rw [eqv_nil]
  walk_at "dl"
  refine s_if (fun e => ?_) fun e => ?_
  · have l0 : left ≠ [] := fun z => by
      rw [z] at e
      cases e
    have lp : 0 < left.length := List.length_pos_iff.mpr l0
    refine ds_appendPop (i := 3) (j := 2) (ds := found) (es := left) rfl rfl (by decide) (Nat.lt_of_le_of_lt ll (by decide)) ?_
    refine dw_callN rfl ?_
    refine da_cons ?_
    refine dw_peek ?_
    show DW _ nb [.pot, .dat (.lst xs), .dat (.lst left), .dat (.lst found)] _
    walk_at "dl"
    refine ⟨rfl, ?_⟩
    walk_at "dl"
    refine ⟨(left.length : Int), rfl, ⟨by omega, by rw [Int.natAbs_natCast]; exact Nat.lt_of_le_of_lt ll (by decide)⟩, by decide, by omega, fun d ⟨r, e, r0, r1⟩ => ?_⟩
    subst e
    obtain ⟨k, rfl⟩ := Int.eq_ofNat_of_zero_le r0
    have lk : k < left.length := by omega
    refine ⟨k, left[k], rfl, List.getElem?_eq_getElem lk, Nat.lt_of_le_of_lt lf (by decide), ?_⟩
    show ∃ m' ε, _
    refine ⟨(left.eraseIdx k).length, [.pot, .dat (.lst xs), .own (left.eraseIdx k), .own (found ++ [left[k]])], by rw [List.length_eraseIdx_of_lt lk]; omega, .refl _, left.eraseIdx k, found ++ [left[k]], rfl, rfl, by rw [List.length_eraseIdx_of_lt lk]; omega, ?_⟩
    rw [List.append_assoc]
    exact (List.Perm.append_left found (perm_erase lk)).trans pm
  · have l0 : left = [] := by
      cases left with
      | nil => rfl
      | cons x r => cases e
    subst l0
    show DS (tRet (tVar 3)) nb _ _
    refine ds_asDat ?_
    show DS _ nb [.pot, .dat (.lst xs), .dat (.lst []), .dat (.lst found)] _
    walk_at "dl"
    rw [List.append_nil] at pm
    exact ⟨found, rfl, pm⟩
end
end

set_option Elab.async false
set_option linter.all false
set_option maxRecDepth 100000
section
open PySem PySem.Spec PyProof.Rows L2 ZK
section
variable {base : Heap} {P : Program} {w : World} {mg : Str → Option Value} {K : PySem.W.Frag}
theorem cut_hi {xs : List PD} {m : Nat} : cutP xs none (some (m : Int)) = xs.take m := by
  unfold cutP
  have e1 : HT.sIx xs.length 0 none = 0 := rfl
  have e2 : HT.sIx xs.length xs.length (some (m : Int)) = min m xs.length := HT.sIx_nat ..
  rw [e1, e2]
  rw [List.drop_zero, Nat.sub_zero]
  rcases Nat.le_total m xs.length with h | h
  · rw [Nat.min_eq_left h]
  · rw [Nat.min_eq_right h, List.take_of_length_le (Nat.le_refl _), List.take_of_length_le h]
theorem perm_strs {zs : List Str} {ys : List PD} (h : ys.Perm (zs.map .str)) : ∃ ws : List Str, ys = ws.map .str ∧ ws.Perm zs := by
  have u : ∀ d : PD, d ∈ ys → d = .str (match d with | .str s => s | _ => "") := fun d m => by
    obtain ⟨s, _, rfl⟩ := List.mem_map.mp (h.mem_iff.mp m)
    rfl
  refine ⟨ys.map fun d => match d with | .str s => s | _ => "", ?_, ?_⟩
  · rw [List.map_map]
    exact ((List.map_congr_left (f := id) (g := PD.str ∘ fun d => match d with | .str s => s | _ => "") fun d m => u d m).symm.trans (List.map_id _)).symm
  · have := h.map fun d => match d with | .str s => s | _ => ("" : Str)
    rw [List.map_map] at this
    have e : zs.map ((fun d : PD => match d with | .str s => s | _ => ("" : Str)) ∘ PD.str) = zs := (List.map_congr_left (g := id) fun s _ => rfl).trans (List.map_id _)
    rw [e] at this
    exact this
abbrev CDraw (P : Program) (w : World) (K : PySem.W.Frag) (mg : Str → Option Value) (base : Heap) : Prop := Pf.Cal P w K mg base 1 "_law_draw" (SpN 1 aDraw pDraw oDraw)
abbrev CAny (P : Program) (w : World) (K : PySem.W.Frag) (mg : Str → Option Value) (base : Heap) : Prop := Pf.Cal P w K mg base 2 "_law_any" (SpN 1 aAny pAny oAny)
abbrev CMixed (P : Program) (w : World) (K : PySem.W.Frag) (mg : Str → Option Value) (base : Heap) : Prop := Pf.Cal P w K mg base 2 "_law_mixed" (SpN 24 aMix pMix oMix)
def aNam : Nat → List PD := fun m => [.int m]
def pNam : Nat → Prop := fun m => 1 ≤ m ∧ m ≤ 3
def oNam : Nat → PD → Prop := fun m d => ∃ ns : List Str, d = .lst (ns.map .str) ∧ ns.length = m ∧ ∀ x ∈ ns, plN (.str x)
theorem ok_names {f : Addr} {fd : FuncData} (F : Fun K "_law_names" "_law_names" s__law_names f fd) (T : Txt mg) (C__law_mixed : CMixed P w K mg base) :
    Pf.FnG P w K mg base 3 f fd ["_law_pot_here", "_law_many"] (SpN 24 aNam pNam oNam) := by
  refine okN F sc__law_names (fun _ => rfl) (by decide) (by decide) fun cdv A outer s H E hr => ⟨_, (pss_one (ps_ret (pe_callB cr_sortedS (by rfl) T.b_sorted (by decide +kernel) (pa_cons (pe_slice sl_all (Pf.pe_c C__law_mixed hr (by decide) (by rfl) (pa_cons (pv 0) (pa_cons (pe_lst (pa_cons pe_str (pa_cons pe_str (pa_cons pe_str (pa_cons pe_str (pa_cons pe_str pa_nil)))))) pa_nil))) po_none (po_some (pv 1))) pa_nil)))), fun m ⟨h1, h2⟩ => ?_⟩
  show DS _ 24 [.pot, .dat (.int m)] _
  walk_at "dl"
  refine dw_of_do (do_cb rbo_sortS ?_)
  walk_at "dl"
  refine dw_callN rfl ?_
  walk_at "dl"
  refine dw_of_do (do_lst ?_)
  walk_at "dl"
  refine ⟨(by decide : 5 ≤ sizeLine), ?_⟩
  walk_at "dl"
  refine ⟨_, rfl, ⟨(by decide : 5 ≤ 24), ?_⟩, by decide, by decide, fun d ⟨ys, e, pm⟩ => ?_⟩
  · intro x hx
    simp only [List.mem_cons, List.not_mem_nil, or_false] at hx
    rcases hx with rfl | rfl | rfl | rfl | rfl <;> exact ⟨rfl, by decide +kernel, Nat.zero_le _⟩
  subst e
  walk_at "dl"
  obtain ⟨ws, rfl, pw⟩ := perm_strs (zs := ["a", "bc", "kind", "size", "z"]) pm
  rw [cut_hi, ← List.map_take]
  have lw : ws.length = 5 := pw.length_eq
  refine ⟨ws.take m, rfl, by rw [List.length_take, lw]; omega, fun ys py => ⟨ys, rfl, by rw [py.length_eq, List.length_take, lw]; omega, fun x hx => ?_⟩⟩
  have hx := pw.mem_iff.mp (List.mem_of_mem_take (py.mem_iff.mp hx))
  simp only [List.mem_cons, List.not_mem_nil, or_false] at hx
  rcases hx with rfl | rfl | rfl | rfl | rfl <;> exact ⟨rfl, by decide +kernel, rfl⟩
theorem each_ints {p : Int → Prop} : ∀ {xs ys : List PD}, Each (fun _ y => ∃ v : Int, y = .int v ∧ p v) xs ys → ∃ ns : List Int, ys = ns.map .int ∧ (∀ v ∈ ns, p v) ∧ ns.length = xs.length
  | _, _, .nil => ⟨[], rfl, fun _ h => (by cases h), rfl⟩
  | _, _, .cons ⟨v, e, pv⟩ t => by
    obtain ⟨ns, rfl, h, l⟩ := each_ints t
    subst e
    exact ⟨v :: ns, rfl, fun u hu => (List.mem_cons.mp hu).elim (fun e => e ▸ pv) (h u), congrArg Nat.succ l⟩
theorem short_of : ∀ {ms ns : List Int}, ms.Pairwise (· < ·) → (∀ k ∈ ms, k ∈ ns) → ms.length ≤ ns.length
  | [], _, _, _ => Nat.zero_le _
  | m :: r, ns, h, s => by
    obtain ⟨h1, h2⟩ := List.pairwise_cons.mp h
    have mm := s m List.mem_cons_self
    have ih := short_of (ms := r) (ns := ns.erase m) h2 fun k hk => (List.mem_erase_of_ne (by have := h1 k hk; omega)).mpr (s k (List.mem_cons_of_mem _ hk))
    rw [List.length_erase_of_mem mm] at ih
    have := List.length_pos_of_mem mm
    rw [List.length_cons]
    omega
def aPart : Int × Int → List PD := fun x => [.int x.1, .int x.2]
def pPart : Int × Int → Prop := fun x => (1 ≤ x.1 ∧ x.1 ≤ 20) ∧ 2 ≤ x.2 ∧ x.2 ≤ 10
/-- cut points, values of a column -/
def goodC (cs : List Int) : Prop := cs.Pairwise (· < ·) ∧ (∀ c ∈ cs, -9999 < c ∧ c < 10000) ∧ cs.length ≤ 20
def oPart : Int × Int → PD → Prop := fun x d => ∃ (low : Int) (cs : List Int) (vs : List (Option Int)), d = .tup [.int low, .int x.2, tInts cs, lVals vs] ∧ goodC cs ∧ (vs.length : Int) = x.1 ∧ vs.all okV = true
theorem ok_part {f : Addr} {fd : FuncData} (F : Fun K "_law_part" "_law_part" s__law_part f fd) (T : Txt mg) (C__law_draw : CDraw P w K mg base) (C__law_any : CAny P w K mg base) :
    Pf.FnG P w K mg base 3 f fd ["_law_pot_here", "_law_size", "_law_spread"] (SpN 50 aPart pPart oPart) := by
  refine okN F sc__law_part (fun _ => rfl) (by decide) (by decide) fun cdv A outer s H E hr => ⟨_, (pss_cons (ps_set (i := 3) sc__law_part.nd rfl (Or.inr rfl) (Pf.pe_c C__law_any hr (by decide) (by rfl) (pa_cons (pv 0) (pa_cons (pe_lst (pa_cons pe_int (pa_cons (pe_un un_neg pe_int) (pa_cons (pe_un un_neg pe_int) (pa_cons pe_int (pa_cons pe_int pa_nil)))))) pa_nil))))
        (pss_cons (ps_setLc (i := 4) (own := [("_law_turn", 6)]) (g := gName 6) (tt := tYes) rfl sc__law_part.nd rfl rfl (sw_true rfl rfl rfl (by decide +kernel)) (pi_range1 (by rfl) T.b_range (pa_cons (Pf.pe_c C__law_any hr (by decide) (by rfl) (pa_cons (pv 0) (pa_cons (pe_lst (pa_cons pe_int (pa_cons pe_int (pa_cons pe_int (pa_cons pe_int pa_nil))))) pa_nil))) pa_nil)) (blkOk_by (own := [("_law_turn", 6)]) (N := ["_law_pot_here", "_law_size", "_law_spread", "_law_low", "_law_points", "_law_values", "_law_turn", "_law_value"]) (sc := defScope s__law_part) (by decide +kernel)) (fun _ _ _ _ _ => (pg_name (i := 6) sc__law_part.nd rfl (Or.inl rfl))) (fun _ _ _ _ _ => pts_nil) (fun _ _ _ _ _ => (pe_op (show OpR _ _ (rAddA K) from op_addA) (pe_op (show OpR _ _ (rAddA K) from op_addA) (pv 3) pe_int) (Pf.pe_c C__law_draw hr (by decide) (by rfl) (pa_cons (pv 0) (pa_cons (pe_callB (call_max2 rfl) (by rfl) T.b_max (by decide +kernel) (pa_cons pe_int (pa_cons (pe_op op_sub (pv 2) pe_int) pa_nil))) pa_nil))))))
        (pss_cons (ps_set (i := 5) sc__law_part.nd rfl (Or.inl rfl) (pe_lst pa_nil))
        (pss_cons (ps_for PassesOwn.never rfl (pi_range1 (by rfl) T.b_range (pa_cons (pv 1) pa_nil)) (pg_name (i := 6) sc__law_part.nd rfl (Or.inl rfl)) (pss_cons (ps_set (i := 7) sc__law_part.nd rfl (Or.inl rfl) (pe_op op_addA (pv 3) (Pf.pe_c C__law_draw hr (by decide) (by rfl) (pa_cons (pv 0) (pa_cons (pv 2) pa_nil)))))
        (pss_one (ps_expr (pe_bm PySem.F.plainAttrs_list PySem.F.slot_list_append PySem.F.type_list_append mt_append (pv 5) (pa_cons (pe_ifExp (pt_cmpR (op_eqD hr.2.u64) (Pf.pe_c C__law_draw hr (by decide) (by rfl) (pa_cons (pv 0) (pa_cons pe_int pa_nil))) pe_int (nomark _)) pe_non (pv 7)) pa_nil))))))
        (pss_one (ps_ret (pe_tup (pa_cons (pv 3) (pa_cons (pv 2) (pa_cons (pe_callTy call_tuple_of (by rfl) T.b_tuple (by decide +kernel) (pa_cons (pe_callB (cr_sortedSet rfl) (by rfl) T.b_sorted (by decide +kernel) (pa_cons (pe_callTy (cr_setLI rfl) (by rfl) T.b_set (by decide +kernel) (pa_cons (pv 4) pa_nil)) pa_nil)) pa_nil)) (pa_cons (pv 5) pa_nil))))))))))), fun ⟨sz, sp⟩ ⟨⟨h1, h2⟩, h3, h4⟩ => ?_⟩
  show DS _ 50 [.pot, .dat (.int sz), .dat (.int sp), .un, .un, .un, .un, .un] _
  walk_at "dl"
  have h1 : 1 ≤ sz := h1
  have h2 : sz ≤ 20 := h2
  have h3 : 2 ≤ sp := h3
  have h4 : sp ≤ 10 := h4
  refine ds_asg (ts := [3]) ?_
  refine dw_callN rfl ?_
  walk_at "dl"
  refine dw_of_do (do_lst ?_)
  walk_at "dl"
  refine ⟨(by decide : 5 ≤ sizeLine), ?_⟩
  walk_at "dl"
  refine ⟨_, rfl, ⟨fun z => (by cases z), (by decide : 5 ≤ 1000)⟩, by decide, by decide, fun d hd => ?_⟩
  obtain ⟨low, rfl, l1, l2⟩ : ∃ low : Int, d = .int low ∧ -9999 ≤ low ∧ low ≤ 9989 := by
    simp only [oAny, List.mem_cons, List.not_mem_nil, or_false] at hd
    rcases hd with rfl | rfl | rfl | rfl | rfl
    · exact ⟨_, rfl, by decide, by decide⟩
    · exact ⟨_, rfl, by decide, by decide⟩
    · exact ⟨_, rfl, by decide, by decide⟩
    · exact ⟨_, rfl, by decide, by decide⟩
    · exact ⟨_, rfl, by decide, by decide⟩
  walk_at "dl"
  refine ds_asg (ts := [4]) (dw_of_do ?_)
  refine do_draw (ts := [6]) 1 (fun _ y => ∃ v : Int, y = .int v ∧ -9999 < v ∧ v < 10000) (di_rng1 ?_)
  walk_at "dl"
  refine dw_callN rfl ?_
  walk_at "dl"
  refine dw_of_do (do_lst ?_)
  walk_at "dl"
  refine ⟨(by decide : 4 ≤ sizeLine), ?_⟩
  walk_at "dl"
  refine ⟨_, rfl, ⟨fun z => (by cases z), (by decide : 4 ≤ 1000)⟩, by decide, by decide, fun d hd => ?_⟩
  obtain ⟨k, rfl, l3⟩ : ∃ k : Nat, d = .int k ∧ k ≤ 4 := by
    simp only [oAny, List.mem_cons, List.not_mem_nil, or_false] at hd
    rcases hd with rfl | rfl | rfl | rfl
    · exact ⟨0, rfl, by decide⟩
    · exact ⟨1, rfl, by decide⟩
    · exact ⟨2, rfl, by decide⟩
    · exact ⟨4, rfl, by decide⟩
  walk_at "dl"
  have tn : ((k : Int)).toNat = k := rfl
  refine ⟨_, rfl, by omega, by omega, ?_⟩
  rw [tn, rngL_len]
  refine ⟨Nat.le_trans l3 (by decide), by omega, fun x hx nb b1 => ?_, fun ys ey => ?_⟩
  · walk_at "dl"
    refine ⟨rfl, ?_⟩
    walk_at "dl"
    refine dw_callN rfl ?_
    walk_at "dl"
    generalize hg : (if sp - 1 > 1 then sp - 1 else 1) = g
    have g1 : 1 ≤ g := by rw [← hg]; split <;> omega
    have g2 : g ≤ 9 := by rw [← hg]; split <;> omega
    refine ⟨g, rfl, ⟨g1, by omega⟩, by decide, b1, fun d ⟨r, e, r0, r1⟩ => ?_⟩
    subst e
    walk_at "dl"
    exact ⟨rfl, _, rfl, by omega, by omega⟩
  walk_at "dl"
  obtain ⟨ns, rfl, hns, lns⟩ := each_ints ey
  rw [rngL_len] at lns
  refine ds_own (do_lst ?_) (by decide : 5 < 8) rfl
  walk_at "dl"
  refine ⟨(by decide : 0 ≤ sizeLine), ?_⟩
  show DS _ (48 - k * 1) [.pot, .dat (.int sz), .dat (.int sp), .dat (.int low), .dat (.lst (ns.map .int)), .own [], .un, .un] _
  walk_at "dl"
  obtain ⟨z, rfl⟩ := Int.eq_ofNat_of_zero_le (show 0 ≤ sz by omega)
  refine ds_for (ts := [6]) (di_rng1 ?_)
  walk_at "dl"
  refine ⟨_, rfl, by omega, by omega, fun i nb δ => ∃ vs : List (Option Int), vs.length = i ∧ vs.all okV = true ∧ nb = 48 - k * 1 - 2 * i ∧ δ = [.pot, .dat (.int z), .dat (.int sp), .dat (.int low), .dat (.lst (ns.map .int)), .own (vs.map oV), .un, .un], ⟨[], rfl, rfl, rfl, rfl⟩, ?_, ?_⟩
  · rintro i x nb δ1 hx ⟨vs, rfl, ok, rfl, rfl⟩
    have il := (List.getElem?_eq_some_iff.mp hx).1
    rw [rngL_len] at il
    have il : vs.length < z := il
    walk_at "dl"
    refine ds_asg (ts := [7]) ?_
    walk_at "dl"
    refine dw_callN rfl ?_
    walk_at "dl"
    refine ⟨sp, rfl, ⟨by omega, by omega⟩, by decide, by omega, fun d ⟨r, e, r0, r1⟩ => ?_⟩
    subst e
    walk_at "dl"
    show DS _ _ [.pot, .dat (.int z), .dat (.int sp), .dat (.int low), .dat (.lst (ns.map .int)), .own (vs.map oV), .dat x, .dat (.int (low + r))] _
    refine ds_append (i := 5) (ds := vs.map oV) rfl ?_
    walk_at "dl"
    refine dw_callN rfl ?_
    walk_at "dl"
    refine ⟨6, rfl, ⟨by decide, by decide⟩, by decide, by omega, fun d ⟨q, e, q0, q1⟩ => ?_⟩
    subst e
    walk_at "dl"
    refine s_eq rfl rfl ?_
    walk_at "dl"
    have wk : ∀ d : List PD, Wk [.pot, .dat (.int z), .dat (.int sp), .dat (.int low), .dat (.lst (ns.map .int)), .own d, .dat x, .dat (.int (low + r))] [.pot, .dat (.int z), .dat (.int sp), .dat (.int low), .dat (.lst (ns.map .int)), .own d, .un, .un] := fun d =>
      ⟨.inl rfl, .inl rfl, .inl rfl, .inl rfl, .inl rfl, .inl rfl, .inr (.inl rfl), .inr (.inl rfl), trivial⟩
    have ap : (vs.map oV).length < sizeLine := by rw [List.length_map]; exact Nat.lt_of_lt_of_le (show vs.length < 20 by omega) (by decide)
    refine s_if (fun e => ?_) fun e => ?_
    · walk_at "dl"
      refine ⟨ap, _, wk _, vs ++ [none], by rw [List.length_append]; rfl, by rw [List.all_append, ok]; rfl, by omega, by rw [List.map_append]; rfl⟩
    · walk_at "dl"
      refine ⟨ap, _, wk _, vs ++ [some (low + r)], by rw [List.length_append]; rfl, ?_, by omega, by rw [List.map_append]; rfl⟩
      rw [List.all_append, ok]
      show (true && ((decide (-9999 ≤ low + r) && decide (low + r ≤ 9999)) && true)) = true
      rw [decide_eq_true (show -9999 ≤ low + r by omega), decide_eq_true (show low + r ≤ 9999 by omega)]
      rfl
  · rintro nb δ1 ⟨vs, lv, ok, rfl, rfl⟩
    rw [rngL_len] at lv
    have lv : vs.length = z := lv
    show DS (tRet _) _ _ _
    refine ds_asDat ?_
    show DS _ _ [.pot, .dat (.int z), .dat (.int sp), .dat (.int low), .dat (.lst (ns.map .int)), .dat (.lst (vs.map oV)), .un, .un] _
    walk_at "dl"
    refine dw_of_do (do_sortSet ?_)
    walk_at "dl"
    refine ⟨ns, rfl, by omega, fun ms sm mm => ?_⟩
    walk_at "dl"
    refine ⟨(by decide : 4 ≤ sizeLine), low, ms, vs, rfl, ⟨sm, fun c hc => hns c ((mm c).mp hc), Nat.le_trans (short_of sm fun c hc => (mm c).mp hc) (by omega)⟩, by omega, ok⟩
end
end

set_option Elab.async false
set_option linter.all false
/-! Buckets by their ends are buckets by place. -/
section
open PySem PySem.Spec PyProof.Rows L2 ZK
def endsOf (lo : Int) (cs : List Int) : List Int := lo :: (cs ++ [10000])
theorem ends_ge {lo : Int} {cs : List Int} (h : ∀ c ∈ cs, lo < c ∧ c < 10000) (l : lo < 10000) : ∀ {k : Nat}, k ≤ cs.length + 1 → lo ≤ (endsOf lo cs).getD k 0 := fun {k} hk => by
  have kl : k < (endsOf lo cs).length := by
    unfold endsOf
    rw [List.length_cons, List.length_append]
    show k < cs.length + 1 + 1
    omega
  rw [List.getD_eq_getElem?_getD, List.getElem?_eq_getElem kl]
  have m : (endsOf lo cs)[k] ∈ endsOf lo cs := List.getElem_mem kl
  show lo ≤ (endsOf lo cs)[k]
  generalize (endsOf lo cs)[k] = e at m
  rcases List.mem_cons.mp m with rfl | m
  · exact Int.le_refl _
  rcases List.mem_append.mp m with m | m
  · exact Int.le_of_lt (h e m).1
  · rw [List.mem_singleton.mp m]
    exact Int.le_of_lt l
theorem place_ends (v : Int) (hv : v < 10000) : ∀ (cs : List Int) (lo : Int), cs.Pairwise (· < ·) → (∀ c ∈ cs, lo < c ∧ c < 10000) → lo ≤ v → ∀ k, k ≤ cs.length →
    ((decide ((endsOf lo cs).getD k 0 ≤ v) && decide (v < (endsOf lo cs).getD (k + 1) 0)) = decide ((placeOf cs v : Int) = (k : Int)))
  | [], lo, _, _, hl, k, hk => by
    have : k = 0 := Nat.le_zero.mp hk
    subst this
    show (decide (lo ≤ v) && decide (v < 10000)) = decide ((0 : Int) = 0)
    rw [decide_eq_true hl, decide_eq_true hv]
    rfl
  | c :: r, lo, hp, hb, hl, k, hk => by
    obtain ⟨h1, h2⟩ := List.pairwise_cons.mp hp
    have hc := hb c List.mem_cons_self
    have hr : ∀ x ∈ r, c < x ∧ x < 10000 := fun x hx => ⟨h1 x hx, (hb x (List.mem_cons_of_mem _ hx)).2⟩
    by_cases hcv : c ≤ v
    · have pe : placeOf (c :: r) v = placeOf r v + 1 := by
        unfold placeOf
        rw [List.filter_cons_of_pos (p := fun p => decide (p ≤ v)) (decide_eq_true hcv), List.length_cons]
      cases k with
      | zero =>
        rw [pe]
        have e1 : (endsOf lo (c :: r)).getD (0 + 1) 0 = c := rfl
        rw [e1, decide_eq_false (show ¬ v < c by omega), Bool.and_false, decide_eq_false (show ¬ ((placeOf r v + 1 : Nat) : Int) = ((0 : Nat) : Int) by omega)]
      | succ k =>
        have ih := place_ends v hv r c h2 hr hcv k (Nat.le_of_succ_le_succ hk)
        have e1 : ∀ j, (endsOf lo (c :: r)).getD (j + 1) 0 = (endsOf c r).getD j 0 := fun j => rfl
        rw [e1, e1, ih, pe]
        have : ((placeOf r v : Int) = (k : Int)) ↔ (((placeOf r v + 1 : Nat) : Int) = ((k + 1 : Nat) : Int)) := by omega
        exact decide_eq_decide.mpr this
    · have pe : placeOf (c :: r) v = 0 := by
        unfold placeOf
        rw [List.filter_eq_nil_iff.mpr fun x hx => ?_]
        · rfl
        · rcases List.mem_cons.mp hx with rfl | hx
          · rw [decide_eq_true_eq]
            exact hcv
          · rw [decide_eq_true_eq]
            have := h1 x hx
            omega
      rw [pe]
      cases k with
      | zero =>
        show (decide (lo ≤ v) && decide (v < c)) = decide ((0 : Int) = 0)
        rw [decide_eq_true hl, decide_eq_true (show v < c by omega)]
        rfl
      | succ k =>
        have e1 : (endsOf lo (c :: r)).getD (k + 1) 0 = (endsOf c r).getD k 0 := rfl
        have := ends_ge (k := k) hr hc.2 (Nat.le_succ_of_le (Nat.le_of_succ_le_succ hk))
        rw [e1, decide_eq_false (show ¬ (endsOf c r).getD k 0 ≤ v by omega), Bool.false_and, decide_eq_false (show ¬ ((0 : Nat) : Int) = ((k + 1 : Nat) : Int) by omega)]
end

set_option Elab.async false
set_option linter.all false
set_option maxRecDepth 100000
section
open PySem PySem.Spec PyProof.Rows L2 ZK
section
variable {base : Heap} {P : Program} {w : World} {mg : Str → Option Value} {K : PySem.W.Frag}
theorem cut_lo {xs : List PD} {m : Nat} : cutP xs (some (m : Int)) none = xs.drop m := by
  unfold cutP
  have e1 : HT.sIx xs.length 0 (some (m : Int)) = min m xs.length := HT.sIx_nat ..
  have e2 : HT.sIx xs.length xs.length none = xs.length := rfl
  rw [e1, e2]
  rcases Nat.le_total m xs.length with h | h
  · rw [Nat.min_eq_left h, List.take_of_length_le (by rw [List.length_drop]; exact Nat.le_refl _)]
  · rw [Nat.min_eq_right h, List.drop_of_length_le (Nat.le_refl _), List.drop_of_length_le h, List.take_nil]
def inP (lo hi : Int) : PD → Bool
  | .int v => decide (lo ≤ v) && decide (v < hi)
  | _ => false
theorem there_ok {vs : List (Option Int)} (h : vs.all okV = true) {v : Int} (hv : v ∈ there vs) : -9999 ≤ v ∧ v ≤ 9999 := by
  obtain ⟨o, ho, e⟩ := List.mem_filterMap.mp hv
  have e : o = some v := e
  subst e
  have := List.all_eq_true.mp h _ ho
  have : (decide (-9999 ≤ v) && decide (v ≤ 9999)) = true := this
  rw [Bool.and_eq_true, decide_eq_true_eq, decide_eq_true_eq] at this
  exact this
def aLc : PD × List Int × List (Option Int) → List PD := fun x => [x.1, tInts x.2.1, lVals x.2.2]
def pLc : PD × List Int × List (Option Int) → Prop := fun x => goodC x.2.1 ∧ x.2.2.length ≤ 1000 ∧ x.2.2.all okV = true
theorem ok_lcf {f : Addr} {fd : FuncData} (F : Fun K "_law_column_facts" "_law_column_facts" s__law_column_facts f fd) (T : Txt mg) :
    Pf.FnG P w K mg base 1 f fd ["_law_column", "_law_cuts", "_law_values"] (SpT aLc pLc fun x => colFacts x.1 x.2.1 x.2.2) := by
  refine okP F sc__law_column_facts (fun _ => rfl) (by decide) fun cdv A outer s H E hr => ⟨_, (pss_cons (ps_par3 (i := 3) (j := 4) (l := 5) rfl sc__law_column_facts.nd rfl rfl rfl (by decide) (by decide) (by decide) rfl rfl rfl (pa_cons (pe_lc (own := [("_law_value", 11)]) (g := gName 11) rfl sc__law_column_facts.nd (pi_list (pv 2)) (blkOk_by (own := [("_law_value", 11)]) (N := ["_law_column", "_law_cuts", "_law_values", "_law_known", "_law_ends", "_law_buckets", "_law_low", "_law_high", "_law_some", "_law_least", "_law_greatest", "_law_value"]) (sc := defScope s__law_column_facts) (by decide +kernel)) (fun _ _ _ _ _ => (pg_name (i := 11) sc__law_column_facts.nd rfl (Or.inl rfl))) (fun _ _ _ _ _ => pts_one (pt_cmp (pc_notN (pv 11)))) (fun _ _ _ _ _ => (pv 11))) (pa_cons (pe_op op_addA (pe_op op_addA (pe_lst (pa_cons (pe_un un_neg pe_int) pa_nil)) (pe_callTy call_list_of (by rfl) T.b_list (by decide +kernel) (pa_cons (pv 1) pa_nil))) (pe_lst (pa_cons pe_int pa_nil))) (pa_cons (pe_lst pa_nil) pa_nil))) (by rfl))
        (pss_cons (ps_for PassesOwn.never rfl (ZK.pi_zipK (by rfl) T.b_zip (pa_cons (pv 4) (pa_cons (pe_slice sl_all (pv 4) (po_some pe_int) po_none) pa_nil))) (pg_tup (n := 2) rfl (pgs_cons (pg_name (i := 6) sc__law_column_facts.nd rfl (Or.inr rfl)) (pgs_cons (pg_name (i := 7) sc__law_column_facts.nd rfl (Or.inr rfl)) pgs_nil))) (pss_cons (ps_setLc (i := 8) (own := [("_law_value", 11)]) (g := gName 11) rfl sc__law_column_facts.nd rfl rfl (sw_true rfl rfl rfl (by decide +kernel)) (pi_list (pv 3)) (blkOk_by (own := [("_law_value", 11)]) (N := ["_law_column", "_law_cuts", "_law_values", "_law_known", "_law_ends", "_law_buckets", "_law_low", "_law_high", "_law_some", "_law_least", "_law_greatest", "_law_value"]) (sc := defScope s__law_column_facts) (by decide +kernel)) (fun _ _ _ _ _ => (pg_name (i := 11) sc__law_column_facts.nd rfl (Or.inl rfl))) (fun _ _ _ _ _ => pts_one (pt_chain op_le op_lt (pv 6) (pv 11) (pv 7))) (fun _ _ _ _ _ => (pv 11)))
        (pss_one (ps_expr (pe_bm PySem.F.plainAttrs_list PySem.F.slot_list_append PySem.F.type_list_append mt_append (pv 5) (pa_cons (pe_tup (pa_cons (pe_callB call_lenA (by rfl) T.b_len (by decide +kernel) (pa_cons (pv 8) pa_nil)) (pa_cons (pe_callB (cr_sum rfl) (by rfl) T.b_sum (by decide +kernel) (pa_cons (pv 8) pa_nil)) pa_nil))) pa_nil))))))
        (pss_cons (ps_asg (pe_ifExp (pt_cmpR (op_neD hr.2.u64) (pv 3) (pe_lst pa_nil) (nomark _)) (pe_tup (pa_cons (pe_callB (cr_min rfl) (by rfl) T.b_min (by decide +kernel) (pa_cons (pv 3) pa_nil)) (pa_cons (pe_callB (cr_max rfl) (by rfl) T.b_max (by decide +kernel) (pa_cons (pv 3) pa_nil)) pa_nil))) (pe_tup (pa_cons pe_non (pa_cons pe_non pa_nil)))) (pg_tup (n := 2) rfl (pgs_cons (pg_name (i := 9) sc__law_column_facts.nd rfl (Or.inl rfl)) (pgs_cons (pg_name (i := 10) sc__law_column_facts.nd rfl (Or.inl rfl)) pgs_nil))))
        (pss_one (ps_ret (pe_tup (pa_cons (pv 0) (pa_cons (pv 1) (pa_cons (pe_op op_sub (pe_callB call_lenA (by rfl) T.b_len (by decide +kernel) (pa_cons (pv 2) pa_nil)) (pe_callB call_lenA (by rfl) T.b_len (by decide +kernel) (pa_cons (pv 3) pa_nil))) (pa_cons (pv 9) (pa_cons (pv 10) (pa_cons (pe_callTy call_tuple_of (by rfl) T.b_tuple (by decide +kernel) (pa_cons (pv 5) pa_nil)) pa_nil)))))))))))), fun ⟨c, cs, vs⟩ ⟨⟨h1, h2, h3⟩, h4, h5⟩ => ?_⟩
  show DS _ 0 ([.dat c, .dat (tInts cs), .dat (lVals vs)] ++ List.replicate _ .un) _
  show DS _ 0 [.dat c, .dat (tInts cs), .dat (lVals vs), .un, .un, .un, .un, .un, .un, .un, .un, .un] _
  have h1 : cs.Pairwise (· < ·) := h1
  have h2 : ∀ c ∈ cs, -9999 < c ∧ c < 10000 := h2
  have h3 : cs.length ≤ 20 := h3
  have h4 : vs.length ≤ 1000 := h4
  have h5 : vs.all okV = true := h5
  have lt : (there vs).length ≤ 1000 := Nat.le_trans (there_len vs) h4
  walk_at "dl"
  refine ds_par3 ?_
  refine dm_dat (dw_of_do (do_filter (ts := [11]) (fun d => !d.isN) id (di_list ?_)))
  walk_at "dl"
  refine ⟨by rw [List.length_map]; exact Nat.le_trans h4 (by decide), fun x hx => ?_, ?_⟩
  · walk_at "dl"
    refine ⟨rfl, ?_⟩
    walk_at "dl"
    exact ⟨rfl, rfl, fun _ => dw_at ⟨_, rfl, rfl, rfl⟩⟩
  rw [List.map_id, filter_oV]
  refine dm_dat ?_
  walk_at "dl"
  refine dw_of_do (do_lst ?_)
  walk_at "dl"
  refine ⟨(by decide : 1 ≤ sizeLine), ?_⟩
  refine dw_of_do (do_cb rbo_list ?_)
  walk_at "dl"
  refine s_addL (by rw [List.length_map]; exact Nat.le_trans (Nat.add_le_add_left h3 1) (by decide)) ?_
  refine dw_of_do (do_lst ?_)
  walk_at "dl"
  refine ⟨(by decide : 1 ≤ sizeLine), ?_⟩
  refine s_addL (by rw [List.length_append, List.length_map]; exact Nat.le_trans (Nat.add_le_add_right (Nat.add_le_add_left h3 1) 1) (by decide)) ?_
  have ee : [PD.int (-9999)] ++ cs.map PD.int ++ [PD.int 10000] = (endsOf (-9999) cs).map .int := by
    unfold endsOf
    rw [List.map_cons, List.map_append]
    rfl
  rw [ee]
  have el : (endsOf (-9999) cs).length = cs.length + 2 := by
    unfold endsOf
    rw [List.length_cons, List.length_append]
    rfl
  refine dm_own (do_lst ?_)
  walk_at "dl"
  refine ⟨(by decide : 0 ≤ sizeLine), dm_nil ⟨rfl, ?_⟩⟩
  show DS _ 0 [.dat c, .dat (tInts cs), .dat (lVals vs), .dat (lInts (there vs)), .dat (lInts (endsOf (-9999) cs)), .own [], .un, .un, .un, .un, .un, .un] _
  walk_at "dl"
  refine ds_for (ts := [6, 7]) (di_zip ?_)
  walk_at "dl"
  refine ⟨[(endsOf (-9999) cs).map .int, ((endsOf (-9999) cs).map PD.int).drop 1], ?_, fun e => (by cases e), (by decide : 2 ≤ 24), ?_⟩
  · show [some _, some (cutP _ (some ((1 : Nat) : Int)) none)] = _
    rw [cut_lo]
    rfl
  have er : rowsP [(endsOf (-9999) cs).map PD.int, ((endsOf (-9999) cs).map PD.int).drop 1] = (List.range (cs.length + 1)).map fun k => .tup [.int ((endsOf (-9999) cs).getD k 0), .int ((endsOf (-9999) cs).getD (k + 1) 0)] := by
    have l1 : leastP [(endsOf (-9999) cs).map PD.int, ((endsOf (-9999) cs).map PD.int).drop 1] = cs.length + 1 := by
      show min _ (List.length _) = _
      rw [List.length_drop, List.length_map, el]
      omega
    show (List.range (leastP [(endsOf (-9999) cs).map PD.int, ((endsOf (-9999) cs).map PD.int).drop 1])).map _ = _
    rw [l1]
    refine List.map_congr_left fun k hk => ?_
    have hk := List.mem_range.mp hk
    show PD.tup [((endsOf (-9999) cs).map PD.int).getD k .non, (((endsOf (-9999) cs).map PD.int).drop 1).getD k .non] = _
    have e1 : (((endsOf (-9999) cs).map PD.int).drop 1).getD k .non = ((endsOf (-9999) cs).map PD.int).getD (k + 1) .non := by
      rw [List.getD_eq_getElem?_getD, List.getD_eq_getElem?_getD, List.getElem?_drop, Nat.add_comm 1 k]
    rw [e1, getD_map' PD.int 0 .non (by omega), getD_map' PD.int 0 .non (by omega)]
  rw [er]
  refine ⟨fun i nb δ => nb = 0 ∧ δ = [.dat c, .dat (tInts cs), .dat (lVals vs), .dat (lInts (there vs)), .dat (lInts (endsOf (-9999) cs)), .own ((List.range i).map fun k => pairP (group cs (there vs) k)), .un, .un, .un, .un, .un, .un], ⟨rfl, rfl⟩, ?_, ?_⟩
  · rintro i x nb δ1 hx ⟨rfl, rfl⟩
    have il := (List.getElem?_eq_some_iff.mp hx).1
    rw [List.length_map, List.length_range] at il
    rw [List.getElem?_map, List.getElem?_range il] at hx
    cases hx
    walk_at "dl"
    refine ⟨rfl, ?_⟩
    walk_at "dl"
    refine ds_asg (ts := [8]) (dw_of_do ?_)
    generalize hlo : (endsOf (-9999) cs).getD i 0 = lo
    generalize hhi : (endsOf (-9999) cs).getD (i + 1) 0 = hi
    refine do_filter (ts := [11]) (inP lo hi) id (di_list ?_)
    walk_at "dl"
    refine ⟨by rw [List.length_map]; exact Nat.le_trans lt (by decide), fun x hx => ?_, ?_⟩
    · obtain ⟨v, _, rfl⟩ := List.mem_map.mp hx
      walk_at "dl"
      refine ⟨rfl, ?_⟩
      walk_at "dl"
      refine s_if (fun e => ?_) fun e => ?_
      · walk_at "dl"
        refine ⟨rfl, ?_, fun _ => dw_at ⟨_, rfl, rfl, rfl⟩⟩
        show _ = (decide (lo ≤ v) && decide (v < hi))
        rw [e]
        rfl
      · refine s_bl ⟨rfl, ?_, fun z => by cases z⟩
        show _ = (decide (lo ≤ v) && decide (v < hi))
        rw [e]
        rfl
    have eg : ((there vs).map PD.int).filter (inP lo hi) = (group cs (there vs) i).map .int := by
      rw [filter_ints (fun v => decide (lo ≤ v) && decide (v < hi)) (inP lo hi) (fun _ => rfl)]
      unfold group
      refine congrArg (List.map PD.int) (List.filter_congr fun v hv => ?_)
      have hb := there_ok h5 hv
      rw [← hlo, ← hhi]
      exact place_ends v (by omega) cs (-9999) h1 h2 hb.1 i (by omega)
    rw [List.map_id, eg]
    walk_at "dl"
    refine ds_append (i := 5) (ds := (List.range i).map fun k => pairP (group cs (there vs) k)) rfl ?_
    walk_at "dl"
    refine ⟨(by decide : 2 ≤ sizeLine), by rw [List.length_map, List.length_range]; exact Nat.lt_of_lt_of_le (show i < 22 by omega) (by decide), ?_⟩
    rw [List.length_map]
    refine ⟨[.dat c, .dat (tInts cs), .dat (lVals vs), .dat (lInts (there vs)), .dat (lInts (endsOf (-9999) cs)), .own ((List.range (i + 1)).map fun k => pairP (group cs (there vs) k)), .un, .un, .un, .un, .un, .un], ?_, rfl, rfl⟩
    rw [List.range_succ, List.map_append]
    exact ⟨.inl rfl, .inl rfl, .inl rfl, .inl rfl, .inl rfl, .inl rfl, .inr (.inl rfl), .inr (.inl rfl), .inr (.inl rfl), .inl rfl, .inl rfl, .inl rfl, trivial⟩
  · rintro nb δ1 ⟨rfl, rfl⟩
    rw [List.length_map, List.length_range]
    show DS (tSeq _ _) 0 _ _
    refine ds_asDat ?_
    show DS _ 0 [.dat c, .dat (tInts cs), .dat (lVals vs), .dat (lInts (there vs)), .dat (lInts (endsOf (-9999) cs)), .dat (.lst ((List.range (cs.length + 1)).map fun k => pairP (group cs (there vs) k))), .un, .un, .un, .un, .un, .un] _
    walk_at "dl"
    refine ds_asg (ts := [9, 10]) ?_
    walk_at "dl"
    refine dw_of_do (do_lst ?_)
    walk_at "dl"
    refine ⟨(by decide : 0 ≤ sizeLine), ?_⟩
    refine s_ne (fl_ok (fl_lst (n := 1) fun x hx => by
      obtain ⟨v, _, rfl⟩ := List.mem_map.mp hx
      exact fl_int) (by decide)) rfl ?_
    rw [eqv_nil]
    walk_at "dl"
    have fin : ∀ d e : PD, d = minV (there vs) → e = maxV (there vs) → PD.tup [c, tInts cs, .int ((vs.length : Int) - ((there vs).length : Int)), d, e, .tup ((List.range (cs.length + 1)).map fun k => pairP (group cs (there vs) k))] = colFacts c cs vs := fun d e hd he => by
      rw [hd, he]
      rfl
    refine s_if (fun e => ?_) fun e => ?_
    · have ne : there vs ≠ [] := fun z => by
        rw [z] at e
        cases e
      walk_at "dl"
      refine ⟨_, rfl, ne, ?_⟩
      walk_at "dl"
      refine ⟨_, rfl, ne, ?_⟩
      walk_at "dl"
      refine ⟨(by decide : 2 ≤ sizeLine), ?_⟩
      walk_at "dl"
      refine ⟨rfl, ?_⟩
      walk_at "dl"
      refine ⟨(by decide : 6 ≤ sizeLine), ?_⟩
      rw [List.length_map, List.length_map]
      exact fin _ _ (by unfold minV; rw [if_neg ne]) (by unfold maxV; rw [if_neg ne])
    · have ne : there vs = [] := by
        cases hz : there vs with
        | nil => rfl
        | cons x r =>
          rw [hz] at e
          cases e
      walk_at "dl"
      refine ⟨(by decide : 2 ≤ sizeLine), ?_⟩
      walk_at "dl"
      refine ⟨rfl, ?_⟩
      walk_at "dl"
      refine ⟨(by decide : 6 ≤ sizeLine), ?_⟩
      rw [List.length_map, List.length_map]
      exact fin _ _ (by unfold minV; rw [if_pos ne]) (by unfold maxV; rw [if_pos ne])
end
end

set_option Elab.async false
set_option linter.all false
set_option maxRecDepth 100000
section
open PySem PySem.Spec PyProof.Rows L2 ZK
section
variable {base : Heap} {P : Program} {w : World} {mg : Str → Option Value} {K : PySem.W.Frag}
structure Prt where
  low : Int
  sp : Int
  cs : List Int
  vs : List (Option Int)
def prtP (x : Prt) : PD := .tup [.int x.low, .int x.sp, tInts x.cs, lVals x.vs]
def atO (k : Nat) : PD → PD
  | .tup xs => xs.getD k .non
  | _ => .non
theorem col_map (rs : List (List (Option Int))) (k : Nat) : (rs.map tVals).map (atO k) = (colAt rs k).map oV := by
  unfold colAt
  rw [List.map_map, List.map_map]
  exact List.map_congr_left fun r _ => getD_map oV none .non rfl r k
theorem get_D {α : Type} {xs : List α} {k : Nat} {d : α} (h : k < xs.length) : xs[k]? = some (xs.getD k d) := by
  rw [List.getD_eq_getElem?_getD, List.getElem?_eq_getElem h]
  rfl
theorem mem_D {α : Type} {xs : List α} {k : Nat} {d : α} (h : k < xs.length) : xs.getD k d ∈ xs := by
  rw [List.getD_eq_getElem?_getD, List.getElem?_eq_getElem h]
  exact List.getElem_mem h
theorem enum_get {ns : List PD} {i : Nat} {x : PD} (h : (enumP ns)[i]? = some x) : i < ns.length ∧ x = .tup [.int (i : Nat), ns.getD i .non] := by
  have l := (List.getElem?_eq_some_iff.mp h).1
  unfold enumP at l h
  rw [List.length_map, List.length_range] at l
  rw [List.getElem?_map, List.getElem?_range l] at h
  cases h
  exact ⟨l, rfl⟩
theorem enum_len (ns : List PD) : (enumP ns).length = ns.length := by
  unfold enumP
  rw [List.length_map, List.length_range]
theorem all_col {rs : List (List (Option Int))} {k : Nat} (h : ∀ r ∈ rs, r.all okV = true) : (colAt rs k).all okV = true := by
  refine List.all_eq_true.mpr fun o ho => ?_
  obtain ⟨r, hr, rfl⟩ := List.mem_map.mp ho
  rcases Nat.lt_or_ge k r.length with l | l
  · exact List.all_eq_true.mp (h r hr) _ (mem_D l)
  · rw [List.getD_eq_getElem?_getD, List.getElem?_eq_none l]
    rfl
def aLf : List PD × List Prt × List (List (Option Int)) → List PD := fun x => [.lst x.1, .lst (x.2.1.map prtP), .tup (x.2.2.map tVals)]
def pLf (m : Nat) : List PD × List Prt × List (List (Option Int)) → Prop := fun x =>
  x.1.length = m ∧ x.2.1.length = m ∧ m ≤ 20 ∧ (∀ p ∈ x.2.1, goodC p.cs) ∧ x.2.2.length ≤ 24 ∧ ∀ r ∈ x.2.2, r.length = m ∧ r.all okV = true
abbrev CLcf (P : Program) (w : World) (K : PySem.W.Frag) (mg : Str → Option Value) (base : Heap) : Prop := Pf.Cal P w K mg base 1 "_law_column_facts" (SpT aLc pLc fun x => colFacts x.1 x.2.1 x.2.2)
theorem ok_lfacts {m : Nat} {f : Addr} {fd : FuncData} (F : Fun K "_law_facts_of" "_law_facts_of" s__law_facts_of f fd) (T : Txt mg) (C__law_column_facts : CLcf P w K mg base) :
    Pf.FnG P w K mg base 2 f fd ["_law_names_here", "_law_parts", "_law_rows"] (SpT aLf (pLf m) fun x => factsOf m x.1 (x.2.1.map Prt.cs) x.2.2) := by
  refine okP F sc__law_facts_of (fun _ => rfl) (by decide) fun cdv A outer s H E hr => ⟨_, (pss_cons (ps_set (i := 3) sc__law_facts_of.nd rfl (Or.inl rfl) (pe_lst pa_nil))
        (pss_cons (ps_for PassesOwn.never rfl (pi_enum (by rfl) T.b_enumerate (pa_cons (pv 0) pa_nil)) (pg_tup (n := 2) rfl (pgs_cons (pg_name (i := 4) sc__law_facts_of.nd rfl (Or.inr rfl)) (pgs_cons (pg_name (i := 5) sc__law_facts_of.nd rfl (Or.inl rfl)) pgs_nil))) (pss_one (ps_expr (pe_bm PySem.F.plainAttrs_list PySem.F.slot_list_append PySem.F.type_list_append mt_append (pv 3) (pa_cons (Pf.pe_c C__law_column_facts hr (by decide) (by rfl) (pa_cons (pv 5) (pa_cons (pe_ix ix_seq (pe_ix ix_seq (pv 1) (pv 4) (fun _ _ => rfl)) pe_int (fun _ _ => rfl)) (pa_cons (pe_lc (own := [("_law_row", 6)]) (g := gName 6) (tt := tYes) rfl sc__law_facts_of.nd (pi_tup (pv 2)) (blkOk_by (own := [("_law_row", 6)]) (N := ["_law_names_here", "_law_parts", "_law_rows", "_law_found", "_law_at", "_law_name", "_law_row"]) (sc := defScope s__law_facts_of) (by decide +kernel)) (fun _ _ _ _ _ => (pg_name (i := 6) sc__law_facts_of.nd rfl (Or.inl rfl))) (fun _ _ _ _ _ => pts_nil) (fun _ _ _ _ _ => (pe_ix (show IxR _ (rIx K) from ix_seq) (pv 6) (pv 4) (fun _ _ => rfl)))) pa_nil)))) pa_nil)))))
        (pss_one (ps_ret (pe_tup (pa_cons (pe_callB call_lenA (by rfl) T.b_len (by decide +kernel) (pa_cons (pv 2) pa_nil)) (pa_cons (pe_callTy call_tuple_of (by rfl) T.b_tuple (by decide +kernel) (pa_cons (pv 3) pa_nil)) pa_nil))))))), fun ⟨ns, ps, rs⟩ ⟨h1, h2, h3, h4, h5, h6⟩ => ?_⟩
  show DS _ 0 [.dat (.lst ns), .dat (.lst (ps.map prtP)), .dat (.tup (rs.map tVals)), .un, .un, .un, .un] _
  have h1 : ns.length = m := h1
  have h2 : ps.length = m := h2
  have h4 : ∀ p ∈ ps, goodC p.cs := h4
  have h5 : rs.length ≤ 24 := h5
  have h6 : ∀ r ∈ rs, r.length = m ∧ r.all okV = true := h6
  walk_at "dl"
  refine ds_own (do_lst ?_) (by decide : 3 < 7) rfl
  walk_at "dl"
  refine ⟨(by decide : 0 ≤ sizeLine), ?_⟩
  show DS _ 0 [.dat (.lst ns), .dat (.lst (ps.map prtP)), .dat (.tup (rs.map tVals)), .own [], .un, .un, .un] _
  walk_at "dl"
  refine ds_for (ts := [4, 5]) (di_enum ?_)
  walk_at "dl"
  refine ⟨ns, rfl, fun i nb δ => nb = 0 ∧ δ = [.dat (.lst ns), .dat (.lst (ps.map prtP)), .dat (.tup (rs.map tVals)), .own ((List.range i).map fun j => colFacts (ns.getD j .non) ((ps.map Prt.cs).getD j []) (colAt rs j)), .un, .un, .un], ⟨rfl, rfl⟩, ?_, ?_⟩
  · rintro i x nb δ1 hx ⟨rfl, rfl⟩
    obtain ⟨il, rfl⟩ := enum_get hx
    have lp : i < ps.length := by omega
    have gp := h4 (ps[i]) (List.getElem_mem lp)
    have ec : (ps.map Prt.cs).getD i [] = ps[i].cs := by
      rw [List.getD_eq_getElem?_getD, List.getElem?_map, List.getElem?_eq_getElem lp]
      rfl
    walk_at "dl"
    refine ⟨rfl, ?_⟩
    walk_at "dl"
    refine ds_append (i := 3) (ds := (List.range i).map fun j => colFacts (ns.getD j .non) ((ps.map Prt.cs).getD j []) (colAt rs j)) rfl ?_
    refine dw_call ?_
    walk_at "dl"
    refine s_ixL (x := prtP ps[i]) (at_k (by rw [List.getElem?_map, List.getElem?_eq_getElem lp]; rfl)) ?_
    walk_at "dl"
    refine s_ixT (x := tInts ps[i].cs) rfl ?_
    refine da_cons ?_
    refine dw_of_do (do_map (ts := [6]) (atO i) (di_tup ?_))
    walk_at "dl"
    refine ⟨by rw [List.length_map]; exact Nat.le_trans h5 (by decide), fun x hx => ?_, ?_⟩
    · obtain ⟨r, hr, rfl⟩ := List.mem_map.mp hx
      have lr : i < r.length := by
        have := (h6 r hr).1
        omega
      walk_at "dl"
      refine ⟨rfl, ?_⟩
      walk_at "dl"
      refine s_ixT (x := (r.map oV).getD i .non) (at_k (get_D (by rw [List.length_map]; exact lr))) ⟨rfl, rfl⟩
    rw [col_map]
    walk_at "dl"
    refine ⟨(ns.getD i .non, ps[i].cs, colAt rs i), rfl, ⟨gp, (by unfold colAt; rw [List.length_map]; exact Nat.le_trans h5 (by decide)), all_col fun r hr => (h6 r hr).2⟩, ?_⟩
    refine ⟨by rw [List.length_map, List.length_range]; exact Nat.lt_of_lt_of_le (show i < 21 by omega) (by decide), [.dat (.lst ns), .dat (.lst (ps.map prtP)), .dat (.tup (rs.map tVals)), .own ((List.range (i + 1)).map fun j => colFacts (ns.getD j .non) ((ps.map Prt.cs).getD j []) (colAt rs j)), .un, .un, .un], ?_, rfl, rfl⟩
    rw [List.range_succ, List.map_append, List.map_cons, List.map_nil, ec]
    exact ⟨.inl rfl, .inl rfl, .inl rfl, .inl rfl, .inr (.inl rfl), .inr (.inl rfl), .inl rfl, trivial⟩
  · rintro nb δ1 ⟨rfl, rfl⟩
    rw [enum_len, h1]
    show DS (tRet _) 0 _ _
    refine ds_asDat ?_
    show DS _ 0 [.dat (.lst ns), .dat (.lst (ps.map prtP)), .dat (.tup (rs.map tVals)), .dat (.lst ((List.range m).map fun j => colFacts (ns.getD j .non) ((ps.map Prt.cs).getD j []) (colAt rs j))), .un, .un, .un] _
    walk_at "dl"
    refine ⟨(by decide : 2 ≤ sizeLine), ?_⟩
    rw [List.length_map]
    rfl
/-- the rows of some columns -/
def rowsOf (cols : List (List (Option Int))) (z : Nat) : List (List (Option Int)) := (List.range z).map fun j => cols.map fun c => c.getD j none
def at3 (k : Nat) : PD → PD
  | .tup [_, _, _, .lst xs] => xs.getD k .non
  | _ => .non
def aRof : List Prt × Nat → List PD := fun x => [.lst (x.1.map prtP), .int x.2]
def pRof : List Prt × Nat → Prop := fun x => x.1.length ≤ 20 ∧ x.2 ≤ 24 ∧ ∀ p ∈ x.1, p.vs.length = x.2
def rowAt (ps : List Prt) : PD → PD
  | .int j => tVals ((ps.map Prt.vs).map fun c => c.getD j.toNat none)
  | _ => .non
theorem ok_rows_of {f : Addr} {fd : FuncData} (F : Fun K "_law_rows_of" "_law_rows_of" s__law_rows_of f fd) (T : Txt mg) :
    Pf.FnG P w K mg base 1 f fd ["_law_parts", "_law_size"] (SpT aRof pRof fun x => .tup ((rowsOf (x.1.map Prt.vs) x.2).map tVals)) := by
  refine okP F sc__law_rows_of (fun _ => rfl) (by decide) fun cdv A outer s H E hr => ⟨_, (pss_one (ps_ret (pe_callTy call_tuple_of (by rfl) T.b_tuple (by decide +kernel) (pa_cons (pe_lc (own := [("_law_at", 2)]) (g := gName 2) (tt := tYes) rfl sc__law_rows_of.nd (pi_range1 (by rfl) T.b_range (pa_cons (pv 1) pa_nil)) (blkOk_by (own := [("_law_at", 2)]) (N := ["_law_parts", "_law_size", "_law_at", "_law_part_here"]) (sc := defScope s__law_rows_of) (by decide +kernel)) (fun _ _ _ _ _ => (pg_name (i := 2) sc__law_rows_of.nd rfl (Or.inr rfl))) (fun _ _ _ _ _ => pts_nil) (fun _ _ _ _ _ => (pe_callTy (show CallR _ _ (rTupOf K) from call_tuple_of) (by rfl) T.b_tuple (by decide +kernel) (pa_cons (pe_lc (own := [("_law_part_here", 3)]) (g := gName 3) (tt := tYes) rfl sc__law_rows_of.nd (show PI _ _ _ (iList K _) from (pi_list (pv 0))) (blkIn (own := [("_law_part_here", 3)]) (N := ["_law_parts", "_law_size", "_law_at", "_law_part_here"]) (sc := defScope s__law_rows_of) rfl (by decide +kernel)) (fun _ _ _ _ _ => (pg_name (i := 3) sc__law_rows_of.nd rfl (Or.inl rfl))) (fun _ _ _ _ _ => pts_nil) (fun _ _ _ _ _ => (pe_ix (show IxR _ (rIx K) from ix_seq) (pe_ix (show IxR _ (rIx K) from ix_seq) (pv 3) pe_int (fun _ _ => rfl)) (pv 2) (fun _ _ => rfl)))) pa_nil)))) pa_nil)))), fun ⟨ps, z⟩ ⟨h1, h2, h3⟩ => ?_⟩
  have h1 : ps.length ≤ 20 := h1
  have h2 : z ≤ 24 := h2
  have h3 : ∀ p ∈ ps, p.vs.length = z := h3
  show DS _ 0 [.dat (.lst (ps.map prtP)), .dat (.int z), .un, .un] _
  walk_at "dl"
  refine dw_of_do (do_map (ts := [2]) (rowAt ps) (di_rng1 ?_))
  walk_at "dl"
  have tn : ((z : Int)).toNat = z := rfl
  refine ⟨_, rfl, by omega, by omega, by rw [rngL_len, tn]; exact Nat.le_trans h2 (by decide), fun x hx => ?_, ?_⟩
  · rw [rngL_eq] at hx
    obtain ⟨k, hk, rfl⟩ := List.mem_map.mp hx
    have hk := List.mem_range.mp hk
    rw [tn] at hk
    walk_at "dl"
    refine ⟨rfl, ?_⟩
    walk_at "dl"
    refine dw_of_do (do_map (ts := [3]) (at3 k) (di_list ?_))
    walk_at "dl"
    refine ⟨by rw [List.length_map]; exact Nat.le_trans h1 (by decide), fun x hx => ?_, ?_⟩
    · obtain ⟨p, hp, rfl⟩ := List.mem_map.mp hx
      walk_at "dl"
      refine ⟨rfl, ?_⟩
      walk_at "dl"
      refine s_ixT (x := lVals p.vs) rfl ?_
      walk_at "dl"
      refine s_ixL (x := (p.vs.map oV).getD k .non) (at_k (get_D (by rw [List.length_map, h3 p hp]; exact hk))) ⟨rfl, rfl⟩
    · walk_at "dl"
      refine ⟨rfl, ?_⟩
      show PD.tup _ = tVals ((ps.map Prt.vs).map fun c => c.getD k none)
      unfold tVals
      rw [List.map_map, List.map_map, List.map_map]
      congr 1
      exact List.map_congr_left fun p _ => getD_map oV none .non rfl p.vs k
  · walk_at "dl"
    show PD.tup _ = PD.tup _
    rw [rngL_eq, tn, List.map_map]
    unfold rowsOf
    rw [List.map_map]
    rfl
end
end

set_option Elab.async false
set_option linter.all false
set_option maxRecDepth 100000
section
open PySem PySem.Spec PyProof.Rows L2 ZK
section
variable {base : Heap} {P : Program} {w : World} {mg : Str → Option Value} {K : PySem.W.Frag}
theorem each_of {α : Type} {g : α → PD} {p : α → Prop} : ∀ {xs ys : List PD}, Each (fun _ y => ∃ v : α, y = g v ∧ p v) xs ys → ∃ ns : List α, ys = ns.map g ∧ (∀ v ∈ ns, p v) ∧ ns.length = xs.length
  | _, _, .nil => ⟨[], rfl, fun _ h => (by cases h), rfl⟩
  | _, _, .cons ⟨v, e, pv⟩ t => by
    obtain ⟨ns, rfl, h, l⟩ := each_of t
    subst e
    exact ⟨v :: ns, rfl, fun u hu => (List.mem_cons.mp hu).elim (fun e => e ▸ pv) (h u), congrArg Nat.succ l⟩
/-- drawn columns with their parts -/
structure Case where
  z : Nat
  ns : List Str
  ps : List Prt
  h1 : 1 ≤ ns.length
  h3 : ns.length ≤ 3
  hn : ∀ x ∈ ns, plN (.str x)
  hp : ps.length = ns.length
  hg : ∀ p ∈ ps, goodC p.cs ∧ p.vs.length = z ∧ p.vs.all okV = true
  z1 : 1 ≤ z
  z2 : z ≤ 20
namespace Case
variable (c : Case)
def m : Nat := c.ns.length
def names : List PD := c.ns.map .str
def cuts : List (List Int) := c.ps.map Prt.cs
def rows : List (List (Option Int)) := rowsOf (c.ps.map Prt.vs) c.z
def facts : PD := factsOf c.m c.names c.cuts c.rows
def parts : PD := .lst (c.ps.map prtP)
theorem rows_len : c.rows.length = c.z := by
  unfold rows rowsOf
  rw [List.length_map, List.length_range]
theorem row_len : ∀ r ∈ c.rows, r.length = c.m := fun r hr => by
  obtain ⟨j, _, rfl⟩ := List.mem_map.mp hr
  rw [List.length_map, List.length_map]
  exact c.hp
theorem row_ok : ∀ r ∈ c.rows, r.all okV = true := fun r hr => by
  obtain ⟨j, hj, rfl⟩ := List.mem_map.mp hr
  have hj := List.mem_range.mp hj
  refine List.all_eq_true.mpr fun o ho => ?_
  obtain ⟨vs, hv, rfl⟩ := List.mem_map.mp ho
  obtain ⟨p, hp, rfl⟩ := List.mem_map.mp hv
  obtain ⟨_, l, k⟩ := c.hg p hp
  exact List.all_eq_true.mp k _ (mem_D (by omega))
theorem names_len : c.names.length = c.m := List.length_map ..
theorem cuts_len : c.cuts.length = c.m := (List.length_map ..).trans c.hp
theorem cut_few : ∀ x ∈ c.cuts, x.length ≤ 20 := fun x hx => by
  obtain ⟨p, hp, rfl⟩ := List.mem_map.mp hx
  exact (c.hg p hp).1.2.2
theorem names_pl : ∀ d ∈ c.names, plN d := fun d hd => by
  obtain ⟨x, hx, rfl⟩ := List.mem_map.mp hd
  exact c.hn x hx
theorem m3 : c.m ≤ 3 := c.h3
theorem fo : pFo c.m (c.names, c.cuts, c.rows) := ⟨c.names_len, c.cuts_len, c.h1, Nat.le_trans c.m3 (by decide), c.cut_few, fun e => by
    have := c.rows_len
    rw [show c.rows = [] from e] at this
    have := c.z1
    simp at *
    omega, by show c.rows.length ≤ 24; rw [c.rows_len]; exact Nat.le_trans c.z2 (by decide), c.row_len⟩
def out : PD := .tup [.lst c.names, c.parts, .tup (c.rows.map tVals), c.facts]
end Case
def aCase : Int × Int → List PD := fun x => [.int x.1, .int x.2]
def pCase : Int × Int → Prop := fun x => (1 ≤ x.1 ∧ x.1 ≤ 20) ∧ 2 ≤ x.2 ∧ x.2 ≤ 10
def oCase : Int × Int → PD → Prop := fun x d => ∃ c : Case, d = c.out ∧ (c.z : Int) ≤ x.1
abbrev CNames (P : Program) (w : World) (K : PySem.W.Frag) (mg : Str → Option Value) (base : Heap) : Prop := Pf.Cal P w K mg base 3 "_law_names" (SpN 24 aNam pNam oNam)
abbrev CPart (P : Program) (w : World) (K : PySem.W.Frag) (mg : Str → Option Value) (base : Heap) : Prop := Pf.Cal P w K mg base 3 "_law_part" (SpN 50 aPart pPart oPart)
abbrev CRof (P : Program) (w : World) (K : PySem.W.Frag) (mg : Str → Option Value) (base : Heap) : Prop := Pf.Cal P w K mg base 1 "_law_rows_of" (SpT aRof pRof fun x => .tup ((rowsOf (x.1.map Prt.vs) x.2).map tVals))
abbrev spLf : Sp := SpT (fun y : Nat × List PD × List Prt × List (List (Option Int)) => aLf y.2) (fun y => pLf y.1 y.2) fun y => factsOf y.1 y.2.1 (y.2.2.1.map Prt.cs) y.2.2.2
abbrev CLfa (P : Program) (w : World) (K : PySem.W.Frag) (mg : Str → Option Value) (base : Heap) : Prop := Pf.Cal P w K mg base 2 "_law_facts_of" spLf
theorem sig {β α : Type} {k : Nat} {f : Addr} {fd : FuncData} {ps : List Str} {a : β → α → List PD} {p : β → α → Prop} {r : β → α → PD} (F : ∀ b, Pf.FnG P w K mg base k f fd ps (SpT (a b) (p b) (r b))) (b0 : β) :
    Pf.FnG P w K mg base k f fd ps (SpT (fun y : β × α => a y.1 y.2) (fun y => p y.1 y.2) fun y => r y.1 y.2) :=
  ⟨fun vs H Q E ⟨Z, y, h⟩ => (F y.1).size vs H Q E ⟨Z, y.2, h⟩, fun A outer s H args us vs Q E hg hr e b c ⟨Z, y, h⟩ => (F y.1).goes A outer s H args us vs Q E hg hr e b c ⟨Z, y.2, h⟩⟩
theorem cal_at {β α : Type} {k : Nat} {x : Str} {a : β → α → List PD} {p : β → α → Prop} {r : β → α → PD} (c : Pf.Cal P w K mg base k x (SpT (fun y : β × α => a y.1 y.2) (fun y => p y.1 y.2) fun y => r y.1 y.2)) (b : β) : Pf.Cal P w K mg base k x (SpT (a b) (p b) (r b)) := by
  obtain ⟨f, fd, ps, F, h⟩ := c.is
  exact ⟨f, fd, ps, F.weak fun vs H Q E ⟨Z, y, h⟩ => ⟨Z, (b, y), h⟩, h⟩
theorem ok_case {f : Addr} {fd : FuncData} (F : Fun K "_law_case" "_law_case" s__law_case f fd) (T : Txt mg) (C__law_draw : CDraw P w K mg base) (C__law_names : CNames P w K mg base) (C__law_part : CPart P w K mg base) (C__law_rows_of : CRof P w K mg base) (C__law_facts_of : CLfa P w K mg base) :
    Pf.FnG P w K mg base 4 f fd ["_law_pot_here", "_law_most", "_law_spread"] (SpN 200 aCase pCase oCase) := by
  refine okN F sc__law_case (fun _ => rfl) (by decide) (by decide) fun cdv A outer s H E hr => ⟨_, (pss_cons (ps_set (i := 3) sc__law_case.nd rfl (Or.inr rfl) (pe_op op_addA pe_int (Pf.pe_c C__law_draw hr (by decide) (by rfl) (pa_cons (pv 0) (pa_cons (pv 1) pa_nil)))))
        (pss_cons (ps_set (i := 4) sc__law_case.nd rfl (Or.inl rfl) (Pf.pe_c C__law_names hr (by decide) (by rfl) (pa_cons (pv 0) (pa_cons (pe_op op_addA pe_int (Pf.pe_c C__law_draw hr (by decide) (by rfl) (pa_cons (pv 0) (pa_cons pe_int pa_nil)))) pa_nil))))
        (pss_cons (ps_setLc (i := 5) (own := [("_law_name", 7)]) (g := gName 7) (tt := tYes) rfl sc__law_case.nd rfl rfl (sw_true rfl rfl rfl (by decide +kernel)) (pi_list (pv 4)) (blkOk_by (own := [("_law_name", 7)]) (N := ["_law_pot_here", "_law_most", "_law_spread", "_law_size", "_law_names_here", "_law_parts", "_law_rows", "_law_name"]) (sc := defScope s__law_case) (by decide +kernel)) (fun _ _ _ _ _ => (pg_name (i := 7) sc__law_case.nd rfl (Or.inl rfl))) (fun _ _ _ _ _ => pts_nil) (fun _ _ _ _ _ => (Pf.pe_c C__law_part hr (by decide) (by rfl) (pa_cons (pv 0) (pa_cons (pv 3) (pa_cons (pv 2) pa_nil))))))
        (pss_cons (ps_set (i := 6) sc__law_case.nd rfl (Or.inl rfl) (Pf.pe_c C__law_rows_of hr (by decide) (by rfl) (pa_cons (pv 5) (pa_cons (pv 3) pa_nil))))
        (pss_one (ps_ret (pe_tup (pa_cons (pv 4) (pa_cons (pv 5) (pa_cons (pv 6) (pa_cons (Pf.pe_c C__law_facts_of hr (by decide) (by rfl) (pa_cons (pv 4) (pa_cons (pv 5) (pa_cons (pv 6) pa_nil)))) pa_nil))))))))))), fun ⟨mo, sp⟩ ⟨⟨h1, h2⟩, h3, h4⟩ => ?_⟩
  show DS _ 200 [.pot, .dat (.int mo), .dat (.int sp), .un, .un, .un, .un, .un] _
  have h1 : 1 ≤ mo := h1
  have h2 : mo ≤ 20 := h2
  walk_at "dl"
  refine ds_asg (ts := [3]) ?_
  walk_at "dl"
  refine dw_callN rfl ?_
  walk_at "dl"
  refine ⟨mo, rfl, ⟨h1, by omega⟩, by decide, by decide, fun d ⟨r, e, r0, r1⟩ => ?_⟩
  subst e
  walk_at "dl"
  refine ds_asg (ts := [4]) ?_
  refine dw_callN rfl ?_
  walk_at "dl"
  refine dw_callN rfl ?_
  walk_at "dl"
  refine ⟨3, rfl, ⟨by decide, by decide⟩, by decide, by decide, fun d ⟨q, e, q0, q1⟩ => ?_⟩
  subst e
  walk_at "dl"
  obtain ⟨k, rfl⟩ := Int.eq_ofNat_of_zero_le q0
  refine ⟨1 + k, congrArg (fun i => [PD.int i]) (by omega), ⟨by omega, by omega⟩, by decide, by decide, fun d ⟨ns, e, ln, hn⟩ => ?_⟩
  subst e
  walk_at "dl"
  obtain ⟨z, hz⟩ := Int.eq_ofNat_of_zero_le (show 0 ≤ 1 + r by omega)
  rw [hz]
  refine ds_asg (ts := [5]) (dw_of_do ?_)
  refine do_draw (ts := [7]) 50 (fun _ y => ∃ p : Prt, y = prtP p ∧ goodC p.cs ∧ p.vs.length = z ∧ p.vs.all okV = true) (di_list ?_)
  walk_at "dl"
  have lm : (ns.map PD.str).length ≤ 3 := by rw [List.length_map]; omega
  refine ⟨Nat.le_trans lm (by decide), Nat.le_trans (Nat.mul_le_mul_right 50 lm) (by decide), fun x hx nb b1 => ?_, fun ys ey => ?_⟩
  · walk_at "dl"
    refine ⟨rfl, ?_⟩
    walk_at "dl"
    refine dw_callN rfl ?_
    walk_at "dl"
    refine ⟨((z : Int), sp), rfl, ⟨⟨by omega, by omega⟩, h3, h4⟩, by decide, b1, fun d ⟨low, cs, vs, e, g, l, o⟩ => ?_⟩
    exact ⟨rfl, ⟨low, sp, cs, vs⟩, e, g, (by show vs.length = z; have l : (vs.length : Int) = (z : Int) := l; omega), o⟩
  obtain ⟨ps, rfl, hps, lps⟩ := each_of ey
  rw [List.length_map] at lps
  walk_at "dl"
  refine ds_asg (ts := [6]) ?_
  refine dw_call ?_
  walk_at "dl"
  refine ⟨(ps, z), rfl, ⟨by show ps.length ≤ 20; omega, by show z ≤ 24; omega, fun p hp => (hps p hp).2.1⟩, ?_⟩
  walk_at "dl"
  let c : Case := ⟨z, ns, ps, by omega, by omega, hn, by omega, hps, by omega, by omega⟩
  refine dw_call ?_
  walk_at "dl"
  refine ⟨(c.m, c.names, ps, c.rows), rfl, ⟨c.names_len, (lps : ps.length = ns.length), Nat.le_trans c.m3 (by decide), fun p hp => (hps p hp).1, (by show c.rows.length ≤ 24; rw [c.rows_len]; show z ≤ 24; omega), fun r hr => ⟨c.row_len r hr, c.row_ok r hr⟩⟩, ?_⟩
  walk_at "dl"
  exact ⟨(by decide : 4 ≤ sizeLine), c, rfl, (by show (z : Int) ≤ mo; omega)⟩
theorem ok_lvalue {f : Addr} {fd : FuncData} (F : Fun K "_law_is_value" "_law_is_value" s__law_is_value f fd) (T : Txt mg) : Pf.FnG P w K mg base 1 f fd ["_law_value"] (SpT a1 pBase fun d => .bl (isVal d)) := by
  refine okP F sc__law_is_value (fun _ => rfl) (by decide) fun cdv A outer s H E hr => ⟨_, (pss_cons (ps_if (pt_cmp (pc_isN (pv 0))) (pss_one (ps_ret pe_bl)) pss_nil)
        (pss_one (ps_ret (pe_and (pe_callB (call_isT (T := "int")) (by rfl) T.b_isinstance (by decide +kernel) (pa_cons (pv 0) (pa_cons (pe_bltn (v := .ty "int") (u := .type "int") (by rfl) T.b_int (by decide +kernel) rfl) pa_nil))) (pe_and (pe_not (pe_callB (call_isT (T := "bool")) (by rfl) T.b_isinstance (by decide +kernel) (pa_cons (pv 0) (pa_cons (pe_bltn (v := .ty "bool") (u := .type "bool") (by rfl) T.b_bool (by decide +kernel) rfl) pa_nil)))) (pe_one (pe_chain op_le op_le (pe_un un_neg pe_int) (pv 0) pe_int))))))), fun d hd => ?_⟩
  show DS _ 0 [.dat d] _
  walk_at "dl"
  unfold isVal
  refine s_if (fun e => ?_) fun e => ?_
  · rw [e]
    walk_at "dl"
    rfl
  · rw [e]
    walk_at "dl"
    refine s_isI hd ?_
    walk_at "dl"
    unfold betw isNum
    refine s_if (fun e => ?_) fun e => ?_
    · walk_at "dl"
      refine s_isB hd ?_
      walk_at "dl"
      refine s_if (fun e2 => ?_) fun e2 => ?_
      · cases d with
        | int i =>
          walk_at "dl"
          refine s_if (fun e => ?_) fun e => ?_
          · walk_at "dl"
            show PD.bl (decide (i ≤ 9999)) = PD.bl (false || (true && (decide (-9999 ≤ i) && decide (i ≤ 9999))))
            rw [e]
            rfl
          · show PD.bl false = PD.bl (false || (true && (decide (-9999 ≤ i) && decide (i ≤ 9999))))
            rw [e]
            rfl
        | bl b => cases e2
        | _ => cases e
      · rw [e2, Bool.and_false]
        rfl
    · rw [e]
      rfl
end
end

set_option Elab.async false
set_option linter.all false
set_option maxRecDepth 100000
section
open PySem PySem.Spec PyProof.Rows L2 ZK
section
variable {base : Heap} {P : Program} {w : World} {mg : Str → Option Value} {K : PySem.W.Frag}
def aAre : PD × Int × Int → List PD := fun x => [x.1, .int x.2.1, .int x.2.2]
abbrev spAre : Sp := SpT aAre (fun x => bRows x.1) fun x => .bl (isRows x.2.1 x.2.2 x.1)
theorem ok_lrows {f : Addr} {fd : FuncData} (F : Fun K "_law_are_rows" "_law_are_rows" s__law_are_rows f fd) (T : Txt mg) (C__law_is_value : Pf.Cal P w K mg base 1 "_law_is_value" (SpT a1 pBase fun d => .bl (isVal d))) :
    Pf.FnG P w K mg base 2 f fd ["_law_value", "_law_size", "_law_width"] spAre := by
  refine okP F sc__law_are_rows (fun _ => rfl) (by decide) fun cdv A outer s H E hr => ⟨_, (pss_cons (ps_if (PW.pt (pw_or (pt_not (pt_val (pe_callB (call_isT (T := "tuple")) (by rfl) T.b_isinstance (by decide +kernel) (pa_cons (pv 0) (pa_cons (pe_bltn (v := .ty "tuple") (u := .type "tuple") (by rfl) T.b_tuple (by decide +kernel) rfl) pa_nil))))) (pw_or1 (pt_cmpR (op_neD hr.2.u64) (pe_callB call_lenA (by rfl) T.b_len (by decide +kernel) (pa_cons (pv 0) pa_nil)) (pv 1) (nomark _))))) (pss_one (ps_ret pe_bl)) pss_nil)
        (pss_cons (ps_for PassesOwn.never rfl (pi_tup (pv 0)) (pg_name (i := 3) sc__law_are_rows.nd rfl (Or.inl rfl)) (pss_one (ps_if (PW.pt (pw_or (pt_not (pt_val (pe_callB (call_isT (T := "tuple")) (by rfl) T.b_isinstance (by decide +kernel) (pa_cons (pv 3) (pa_cons (pe_bltn (v := .ty "tuple") (u := .type "tuple") (by rfl) T.b_tuple (by decide +kernel) rfl) pa_nil))))) (pw_or (pt_cmpR (op_neD hr.2.u64) (pe_callB call_lenA (by rfl) T.b_len (by decide +kernel) (pa_cons (pv 3) pa_nil)) (pv 2) (nomark _)) (pw_or1 (pt_not (pt_val (pe_callB (cr_all rfl) (by rfl) T.b_all (by decide +kernel) (pa_cons (pe_lc (own := [("_law_one", 4)]) (g := gName 4) (tt := tYes) rfl sc__law_are_rows.nd (pi_tup (pv 3)) (blkOk_by (own := [("_law_one", 4)]) (N := ["_law_value", "_law_size", "_law_width", "_law_row", "_law_one"]) (sc := defScope s__law_are_rows) (by decide +kernel)) (fun _ _ _ _ _ => (pg_name (i := 4) sc__law_are_rows.nd rfl (Or.inl rfl))) (fun _ _ _ _ _ => pts_nil) (fun _ _ _ _ _ => (Pf.pe_c C__law_is_value hr (by decide) (by rfl) (pa_cons (pv 4) pa_nil)))) pa_nil)))))))) (pss_one (ps_ret pe_bl)) pss_nil)))
        (pss_one (ps_ret pe_bl)))), fun ⟨d, z, m⟩ ⟨hb, hd⟩ => ?_⟩
  show DS _ 0 [.dat d, .dat (.int z), .dat (.int m), .un, .un] _
  walk_at "dl"
  refine s_isT hb ?_
  walk_at "dl"
  refine s_if (fun e => ?_) fun e => ?_
  · refine s_if (fun _ => ?_) fun z => by cases z
    walk_at "dl"
    show PD.bl false = PD.bl (isRows z m d)
    cases d with
    | tup xs => cases e
    | _ => rfl
  obtain ⟨xs, rfl⟩ : ∃ xs, d = .tup xs := by
    cases d with
    | tup xs => exact ⟨xs, rfl⟩
    | _ => cases e
  obtain ⟨h1, h2⟩ := hd xs rfl
  have un : isRows z m (.tup xs) = (decide ((xs.length : Int) = z) && xs.all (isRow m)) := rfl
  walk_at "dl"
  refine s_ne rfl rfl ?_
  rw [eqvI]
  walk_at "dl"
  refine s_if (fun e => ?_) fun e => ?_
  · walk_at "dl"
    show PD.bl false = PD.bl (isRows z m (.tup xs))
    rw [Bool.not_eq_true'] at e
    rw [un, e]
    rfl
  rw [Bool.not_eq_false'] at e
  rw [e, Bool.true_and] at un
  walk_at "dl"
  refine ds_for (ts := [3]) (di_tup ?_)
  walk_at "dl"
  refine ⟨fun i nb δ => nb = 0 ∧ (xs.take i).all (isRow m) = true ∧ δ = [.dat (.tup xs), .dat (.int z), .dat (.int m), .un, .un], ⟨rfl, by rw [List.take_zero]; rfl, rfl⟩, ?_, ?_⟩
  · rintro i x nb δ1 hx ⟨rfl, ha, rfl⟩
    have hm := List.mem_of_getElem? hx
    have bx := h2 x hm
    have fin : isRow m x = false → PD.bl false = PD.bl (isRows z m (.tup xs)) := fun e => by
      rw [un, List.all_eq_false.mpr ⟨x, hm, by rw [e]; exact Bool.false_ne_true⟩]
    have go : isRow m x = true → (xs.take (i + 1)).all (isRow m) = true := fun e => by
      rw [take_one hx, List.all_append, ha]
      show (true && (isRow m x && true)) = true
      rw [e]
      rfl
    walk_at "dl"
    refine s_isT bx.1 ?_
    walk_at "dl"
    refine s_if (fun e => ?_) fun e => ?_
    · refine s_if (fun _ => ?_) fun z => by cases z
      walk_at "dl"
      refine fin ?_
      cases x with
      | tup ys => cases e
      | _ => rfl
    obtain ⟨ys, rfl⟩ : ∃ ys, x = .tup ys := by
      cases x with
      | tup ys => exact ⟨ys, rfl⟩
      | _ => cases e
    obtain ⟨h3, h4⟩ := bx.2 ys rfl
    have ux : isRow m (.tup ys) = (decide ((ys.length : Int) = m) && ys.all isVal) := rfl
    walk_at "dl"
    refine s_ne rfl rfl ?_
    rw [eqvI]
    walk_at "dl"
    refine s_if (fun e => ?_) fun e => ?_
    · refine s_if (fun _ => ?_) fun z => by cases z
      walk_at "dl"
      refine fin ?_
      rw [Bool.not_eq_true'] at e
      rw [ux, e]
      rfl
    rw [Bool.not_eq_false'] at e
    rw [e, Bool.true_and] at ux
    walk_at "dl"
    refine dw_of_do (do_map (ts := [4]) (fun d => .bl (isVal d)) (di_tup ?_))
    walk_at "dl"
    refine ⟨Nat.le_trans h3 (by decide), fun x hx => ?_, ?_⟩
    · walk_at "dl"
      refine ⟨rfl, ?_⟩
      refine dw_call ?_
      walk_at "dl"
      exact ⟨_, rfl, h4 x hx, rfl, rfl⟩
    walk_at "dl"
    refine ⟨ys.map isVal, by rw [List.map_map]; rfl, ?_⟩
    rw [List.all_map]
    have ee : ys.all (id ∘ isVal) = ys.all isVal := rfl
    rw [ee]
    walk_at "dl"
    refine s_if (fun e => ?_) fun e => ?_
    · walk_at "dl"
      refine fin ?_
      rw [Bool.not_eq_true'] at e
      rw [ux, e]
    · rw [Bool.not_eq_false'] at e
      walk_at "dl"
      exact ⟨[.dat (.tup xs), .dat (.int z), .dat (.int m), .un, .un], ⟨.inl rfl, .inl rfl, .inl rfl, .inr (.inl rfl), .inl rfl, trivial⟩, rfl, go (by rw [ux, e]), rfl⟩
  · rintro nb δ1 ⟨rfl, ha, rfl⟩
    rw [List.take_length] at ha
    walk_at "dl"
    show PD.bl true = PD.bl (isRows z m (.tup xs))
    rw [un, ha]
abbrev aIc : Case × PD → List PD := fun x => [.lst x.1.names, x.1.parts, x.1.facts, x.2]
abbrev spIc : Sp := SpT aIc (fun x => bRows x.2) fun x => .bl (isCand x.1.m x.1.names x.1.cuts x.1.rows x.2)
theorem ok_iscand {f : Addr} {fd : FuncData} (F : Fun K "_law_is_candidate" "_law_is_candidate" s__law_is_candidate f fd) (T : Txt mg) (C__law_are_rows : Pf.Cal P w K mg base 2 "_law_are_rows" spAre) (C__law_facts_of : CLfa P w K mg base) :
    Pf.FnG P w K mg base 3 f fd ["_law_names_here", "_law_parts", "_law_facts", "_law_value"] spIc := by
  refine okP F sc__law_is_candidate (fun _ => rfl) (by decide) fun cdv A outer s H E hr => ⟨_, (pss_one (ps_ret (pe_and (Pf.pe_c C__law_are_rows hr (by decide) (by rfl) (pa_cons (pv 3) (pa_cons (pe_ix ix_seq (pv 2) pe_int (fun _ _ => rfl)) (pa_cons (pe_callB call_lenA (by rfl) T.b_len (by decide +kernel) (pa_cons (pv 0) pa_nil)) pa_nil)))) (pe_one (pe_cmpR (op_eqD hr.2.u64) (Pf.pe_c C__law_facts_of hr (by decide) (by rfl) (pa_cons (pv 0) (pa_cons (pv 1) (pa_cons (pv 3) pa_nil)))) (pv 2) (nomark _)))))), fun ⟨c, d⟩ hb => ?_⟩
  have hb : bRows d := hb
  show DS _ 0 [.dat (.lst c.names), .dat c.parts, .dat c.facts, .dat d] _
  walk_at "dl"
  refine dw_call ?_
  walk_at "dl"
  refine s_ixT (xs := [.int c.rows.length, .tup ((List.range c.m).map fun j => colFacts (c.names.getD j .non) (c.cuts.getD j []) (colAt c.rows j))]) (x := .int c.rows.length) rfl ?_
  walk_at "dl"
  refine ⟨(d, c.rows.length, c.m), by unfold aAre; rw [c.names_len], hb, ?_⟩
  walk_at "dl"
  refine s_if (fun e => ?_) fun e => ?_
  · have e : isRows c.rows.length c.m d = true := e
    obtain ⟨rs, rfl, l, hr⟩ := rows_is e
    refine dw_op rd_eq ?_
    refine dw_call ?_
    walk_at "dl"
    refine ⟨(c.m, c.names, c.ps, rs), rfl, ⟨c.names_len, c.hp, Nat.le_trans c.m3 (by decide), fun p hp => (c.hg p hp).1, (by show rs.length ≤ 24; have := c.rows_len; have := c.z2; omega), fun r hr' => ⟨by have := (hr r hr').1; omega, (hr r hr').2⟩⟩, ?_⟩
    walk_at "dl"
    refine s_eq (okE_facts c.names_pl) (okE_facts c.names_pl) ?_
    show PD.bl _ = PD.bl (isRows c.rows.length c.m (.tup (rs.map tVals)) && PyData.eqv (factsOf c.m c.names c.cuts (unRows (.tup (rs.map tVals)))).py (factsOf c.m c.names c.cuts c.rows).py)
    rw [e, Bool.true_and, unRows_t]
    rfl
  · have e : isRows c.rows.length c.m d = false := e
    show PD.bl _ = PD.bl (isRows c.rows.length c.m d && PyData.eqv (factsOf c.m c.names c.cuts (unRows d)).py (factsOf c.m c.names c.cuts c.rows).py)
    rw [e]
    rfl
end
end

set_option Elab.async false
set_option linter.all false
set_option maxRecDepth 100000
section
open PySem PySem.Spec PyProof.Rows L2 ZK
section
variable {base : Heap} {P : Program} {w : World} {mg : Str → Option Value} {K : PySem.W.Frag}
theorem Each.mono {R S : PD → PD → Prop} (h : ∀ x y, R x y → S x y) : ∀ {xs ys : List PD}, Each R xs ys → Each S xs ys
  | _, _, .nil => .nil
  | _, _, .cons a b => .cons (h _ _ a) (Each.mono h b)
theorem perm_vals {zs : List (Option Int)} {ys : List PD} (h : ys.Perm (zs.map oV)) : ∃ ws : List (Option Int), ys = ws.map oV ∧ ws.Perm zs := by
  have u : ∀ d : PD, d ∈ ys → oV (unO d) = d := fun d m => by
    obtain ⟨s, _, rfl⟩ := List.mem_map.mp (h.mem_iff.mp m)
    cases s <;> rfl
  refine ⟨ys.map unO, ?_, ?_⟩
  · rw [List.map_map]
    exact ((List.map_congr_left (f := oV ∘ unO) (g := id) fun d m => u d m).trans (List.map_id _)).symm
  · have := h.map unO
    rw [List.map_map] at this
    have e : zs.map (unO ∘ oV) = zs := (List.map_congr_left (g := id) fun s _ => by cases s <;> rfl).trans (List.map_id _)
    rw [e] at this
    exact this
theorem oV_inj {a b : List (Option Int)} (h : a.map oV = b.map oV) : a = b := by
  have := congrArg (List.map unO) h
  rw [List.map_map, List.map_map] at this
  have e : ∀ zs : List (Option Int), zs.map (unO ∘ oV) = zs := fun zs => (List.map_congr_left (g := id) fun s _ => by cases s <;> rfl).trans (List.map_id _)
  rw [e, e] at this
  exact this
theorem col_rowsOf {Cs : List (List (Option Int))} {z k : Nat} (h : k < Cs.length) (l : (Cs.getD k []).length = z) : colAt (rowsOf Cs z) k = Cs.getD k [] := by
  unfold colAt rowsOf
  rw [List.map_map]
  have e : ∀ j ∈ List.range z, ((fun r : List (Option Int) => r.getD k none) ∘ fun j => Cs.map fun c => c.getD j none) j = (Cs.getD k []).getD j none := fun j _ => by
    show (Cs.map fun c => c.getD j none).getD k none = _
    exact getD_map' (fun c : List (Option Int) => c.getD j none) [] none h
  rw [List.map_congr_left e]
  exact range_getD none l
/-- so many rows of so many values -/
structure Rws (m : Nat) (rs : List (List (Option Int))) : Prop where
  z1 : 1 ≤ rs.length
  z2 : rs.length ≤ 22
  m1 : 1 ≤ m
  m3 : m ≤ 3
  w : ∀ r ∈ rs, r.length = m
def aMc : Nat × List (List (Option Int)) → List PD := fun x => [.tup (x.2.map tVals)]
def oMc : Nat × List (List (Option Int)) → PD → Prop := fun x d => ∃ qs : List (List (Option Int)), d = .tup (qs.map tVals) ∧ qs.length = x.2.length ∧ (∀ r ∈ qs, r.length = x.1) ∧ ∀ j < x.1, (colAt qs j).Perm (colAt x.2 j)
theorem ok_mixcol {f : Addr} {fd : FuncData} (F : Fun K "_law_mixed_columns" "_law_mixed_columns" s__law_mixed_columns f fd) (T : Txt mg) (C__law_mixed : CMixed P w K mg base) :
    Pf.FnG P w K mg base 3 f fd ["_law_pot_here", "_law_rows"] (SpN 72 aMc (fun x => Rws x.1 x.2) oMc) := by
  refine okN F sc__law_mixed_columns (fun _ => rfl) (by decide) (by decide) fun cdv A outer s H E hr => ⟨_, (pss_cons (ps_set (i := 2) sc__law_mixed_columns.nd rfl (Or.inr rfl) (pe_lc (own := [("_law_at", 3)]) (g := gName 3) (tt := tYes) rfl sc__law_mixed_columns.nd (pi_range1 (by rfl) T.b_range (pa_cons (pe_callB call_lenA (by rfl) T.b_len (by decide +kernel) (pa_cons (pe_ix ix_seq (pv 1) pe_int (fun _ _ => rfl)) pa_nil)) pa_nil)) (blkOk_by (own := [("_law_at", 3)]) (N := ["_law_pot_here", "_law_rows", "_law_columns", "_law_at", "_law_row", "_law_column"]) (sc := defScope s__law_mixed_columns) (by decide +kernel)) (fun _ _ _ _ _ => (pg_name (i := 3) sc__law_mixed_columns.nd rfl (Or.inr rfl))) (fun _ _ _ _ _ => pts_nil) (fun _ _ _ _ _ => (Pf.pe_c C__law_mixed hr (by decide) (by rfl) (pa_cons (pv 0) (pa_cons (pe_lc (own := [("_law_row", 4)]) (g := gName 4) (tt := tYes) rfl sc__law_mixed_columns.nd (show PI _ _ _ (iTup K _) from (pi_tup (pv 1))) (blkIn (own := [("_law_row", 4)]) (N := ["_law_pot_here", "_law_rows", "_law_columns", "_law_at", "_law_row", "_law_column"]) (sc := defScope s__law_mixed_columns) rfl (by decide +kernel)) (fun _ _ _ _ _ => (pg_name (i := 4) sc__law_mixed_columns.nd rfl (Or.inl rfl))) (fun _ _ _ _ _ => pts_nil) (fun _ _ _ _ _ => (pe_ix (show IxR _ (rIx K) from ix_seq) (pv 4) (pv 3) (fun _ _ => rfl)))) pa_nil))))))
        (pss_one (ps_ret (pe_callTy call_tuple_of (by rfl) T.b_tuple (by decide +kernel) (pa_cons (pe_lc (own := [("_law_at", 3)]) (g := gName 3) (tt := tYes) rfl sc__law_mixed_columns.nd (pi_range1 (by rfl) T.b_range (pa_cons (pe_callB call_lenA (by rfl) T.b_len (by decide +kernel) (pa_cons (pv 1) pa_nil)) pa_nil)) (blkOk_by (own := [("_law_at", 3)]) (N := ["_law_pot_here", "_law_rows", "_law_columns", "_law_at", "_law_row", "_law_column"]) (sc := defScope s__law_mixed_columns) (by decide +kernel)) (fun _ _ _ _ _ => (pg_name (i := 3) sc__law_mixed_columns.nd rfl (Or.inr rfl))) (fun _ _ _ _ _ => pts_nil) (fun _ _ _ _ _ => (pe_callTy (show CallR _ _ (rTupOf K) from call_tuple_of) (by rfl) T.b_tuple (by decide +kernel) (pa_cons (pe_lc (own := [("_law_column", 5)]) (g := gName 5) (tt := tYes) rfl sc__law_mixed_columns.nd (show PI _ _ _ (iList K _) from (pi_list (pv 2))) (blkIn (own := [("_law_column", 5)]) (N := ["_law_pot_here", "_law_rows", "_law_columns", "_law_at", "_law_row", "_law_column"]) (sc := defScope s__law_mixed_columns) rfl (by decide +kernel)) (fun _ _ _ _ _ => (pg_name (i := 5) sc__law_mixed_columns.nd rfl (Or.inl rfl))) (fun _ _ _ _ _ => pts_nil) (fun _ _ _ _ _ => (pe_ix (show IxR _ (rIx K) from ix_seq) (pv 5) (pv 3) (fun _ _ => rfl)))) pa_nil)))) pa_nil))))), fun ⟨m, rs⟩ h => ?_⟩
  have h : Rws m rs := h
  obtain ⟨z1, z2, m1, m3, hw⟩ := h
  show DS _ 72 [.pot, .dat (.tup (rs.map tVals)), .un, .un, .un, .un] _
  obtain ⟨r0, hr0⟩ : ∃ r0, rs[0]? = some r0 := ⟨rs[0], List.getElem?_eq_getElem z1⟩
  have l0 : r0.length = m := hw r0 (List.mem_of_getElem? hr0)
  have g0 : (rs.map tVals)[0]? = some (tVals r0) := by rw [List.getElem?_map, hr0]; rfl
  walk_at "dl"
  refine ds_asg (ts := [2]) (dw_of_do ?_)
  refine do_draw (ts := [3]) 24 (fun x y => ∃ k : Nat, x = .int k ∧ ∃ vs : List (Option Int), y = lVals vs ∧ vs.Perm (colAt rs k)) (di_rng1 ?_)
  walk_at "dl"
  refine s_ixT (x := tVals r0) (at_k (k := 0) g0) ?_
  walk_at "dl"
  rw [List.length_map, l0]
  have tn : ((m : Int)).toNat = m := rfl
  refine ⟨_, rfl, by omega, by omega, ?_⟩
  rw [tn, rngL_len]
  refine ⟨Nat.le_trans m3 (by decide), Nat.mul_le_mul_right 24 m3, fun x hx nb b1 => ?_, fun ys ey => ?_⟩
  · rw [rngL_eq] at hx
    obtain ⟨k, hk, rfl⟩ := List.mem_map.mp hx
    have hk := List.mem_range.mp hk
    walk_at "dl"
    refine ⟨rfl, ?_⟩
    walk_at "dl"
    refine dw_callN rfl ?_
    walk_at "dl"
    refine dw_of_do (do_map (ts := [4]) (atO k) (di_tup ?_))
    walk_at "dl"
    refine ⟨by rw [List.length_map]; exact Nat.le_trans z2 (by decide), fun x hx => ?_, ?_⟩
    · obtain ⟨r, hr, rfl⟩ := List.mem_map.mp hx
      walk_at "dl"
      refine ⟨rfl, ?_⟩
      walk_at "dl"
      refine s_ixT (x := (r.map oV).getD k .non) (at_k (get_D (by rw [List.length_map, hw r hr]; exact hk))) ⟨rfl, rfl⟩
    rw [col_map]
    walk_at "dl"
    refine ⟨(colAt rs k).map oV, rfl, ⟨by unfold colAt; rw [List.length_map, List.length_map]; omega, fun x hx => ?_⟩, by decide, b1, fun d ⟨ys, e, pm⟩ => ?_⟩
    · obtain ⟨o, _, rfl⟩ := List.mem_map.mp hx
      cases o with
      | none => exact fl_non
      | some i => exact fl_int
    · obtain ⟨ws, rfl, pw⟩ := perm_vals pm
      exact ⟨rfl, k, rfl, ws, e, pw⟩
  obtain ⟨Cs, eC, hC, lC⟩ := each_of (g := lVals) (p := fun _ => True) (Each.mono (fun x y ⟨k, _, vs, e, _⟩ => ⟨vs, e, trivial⟩) ey)
  rw [rngL_len] at lC
  have pC : ∀ j < m, (Cs.getD j []).Perm (colAt rs j) := fun j hj => by
    have g : ys[j]? = some (lVals (Cs.getD j [])) := by
      rw [eC, List.getElem?_map, get_D (d := []) (by omega)]
      rfl
    obtain ⟨x, hx, k, e, vs, e2, pv⟩ := ey.get g
    rw [rngL_get hj] at hx
    cases hx
    have e : (0 + (j : Int)) = (k : Int) := PD.int.inj e
    have e : j = k := by omega
    subst e
    have e2 : lVals (Cs.getD j []) = lVals vs := e2
    rw [oV_inj (PD.lst.inj e2)]
    exact pv
  have lCs : ∀ c ∈ Cs, c.length = rs.length := fun c hc => by
    obtain ⟨j, hj, rfl⟩ := List.mem_iff_getElem.mp hc
    have := (pC j (by omega)).length_eq
    rw [List.getD_eq_getElem?_getD, List.getElem?_eq_getElem hj] at this
    unfold colAt at this
    rw [List.length_map] at this
    exact this
  subst eC
  walk_at "dl"
  refine dw_of_do (do_map (ts := [3]) (fun d => match d with | .int j => tVals (Cs.map fun c => c.getD j.toNat none) | _ => .non) (di_rng1 ?_))
  walk_at "dl"
  have tz : ((rs.length : Int)).toNat = rs.length := rfl
  rw [List.length_map]
  refine ⟨_, rfl, by omega, by omega, by rw [rngL_len, tz]; exact Nat.le_trans z2 (by decide), fun x hx => ?_, ?_⟩
  · rw [rngL_eq] at hx
    obtain ⟨k, hk, rfl⟩ := List.mem_map.mp hx
    have hk := List.mem_range.mp hk
    rw [tz] at hk
    walk_at "dl"
    refine ⟨rfl, ?_⟩
    walk_at "dl"
    refine dw_of_do (do_map (ts := [5]) (fun d => match d with | .lst xs => xs.getD k .non | _ => .non) (di_list ?_))
    walk_at "dl"
    refine ⟨by rw [List.length_map, lC]; exact Nat.le_trans m3 (by decide), fun x hx => ?_, ?_⟩
    · obtain ⟨c, hc, rfl⟩ := List.mem_map.mp hx
      walk_at "dl"
      refine ⟨rfl, ?_⟩
      walk_at "dl"
      refine s_ixL (x := (c.map oV).getD k .non) (at_k (get_D (by rw [List.length_map, lCs c hc]; exact hk))) ⟨rfl, rfl⟩
    · walk_at "dl"
      refine ⟨rfl, ?_⟩
      show PD.tup _ = tVals (Cs.map fun c => c.getD k none)
      unfold tVals
      rw [List.map_map, List.map_map]
      congr 1
      exact List.map_congr_left fun c _ => getD_map oV none .non rfl c k
  · walk_at "dl"
    refine ⟨rowsOf Cs rs.length, ?_, by unfold rowsOf; rw [List.length_map, List.length_range], fun r hr => ?_, fun j hj => ?_⟩
    · show PD.tup _ = PD.tup _
      rw [rngL_eq, tz, List.map_map]
      unfold rowsOf
      rw [List.map_map]
      rfl
    · obtain ⟨j, _, rfl⟩ := List.mem_map.mp hr
      rw [List.length_map]
      exact lC
    · rw [col_rowsOf (show j < Cs.length by omega) (lCs _ (mem_D (by omega)))]
      exact pC j hj
end
end

set_option Elab.async false
set_option linter.all false
set_option maxRecDepth 100000
section
open PySem PySem.Spec PyProof.Rows L2 ZK
section
variable {base : Heap} {P : Program} {w : World} {mg : Str → Option Value} {K : PySem.W.Frag}
def bD : Nat → PD → Prop
  | 0, d => d.base = true
  | n + 1, d => d.base = true ∧ ∀ xs, d = .tup xs → xs.length ≤ 1000 ∧ ∀ x ∈ xs, bD n x
def good (d : PD) : Prop := ∀ n, bD n d
theorem good_tup {xs : List PD} (l : xs.length ≤ 1000) (h : ∀ x ∈ xs, good x) : good (.tup xs) := fun n => match n with
  | 0 => rfl
  | n + 1 => ⟨rfl, fun ys e => by
    cases e
    exact ⟨l, fun x hx => h x hx n⟩⟩
theorem good_at {d : PD} (b : d.base = true) (h : d.isTup = false) : good d := fun n => match n with
  | 0 => b
  | n + 1 => ⟨b, fun ys e => by
    subst e
    cases h⟩
theorem good_len {xs : List PD} (h : good (.tup xs)) : xs.length ≤ 1000 := ((h 1).2 xs rfl).1
theorem good_el {xs : List PD} (h : good (.tup xs)) : ∀ x ∈ xs, good x := fun x hx n => ((h (n + 1)).2 xs rfl).2 x hx
theorem good_base {d : PD} (h : good d) : d.base = true := h 0
theorem good_rows {d : PD} (h : good d) : bRows d := ⟨h 0, fun xs e => ⟨((h 1).2 xs e).1, fun x hx => by
  have h2 := (h 2).2 xs e
  exact ⟨(h2.2 x hx).1, fun ys e => ((h2.2 x hx).2 ys e)⟩⟩⟩
theorem good0 : good (.tup []) := good_tup (Nat.zero_le _) fun x hx => by cases hx
theorem good1 {x : PD} (h : good x) : good (.tup [x]) := good_tup (by show 1 ≤ 1000; decide) fun y hy => by
  rw [List.mem_singleton.mp hy]
  exact h
theorem good2 {x y : PD} (h : good x) (k : good y) : good (.tup [x, y]) := good_tup (by show 2 ≤ 1000; decide) fun z hz => by
  simp only [List.mem_cons, List.not_mem_nil, or_false] at hz
  rcases hz with rfl | rfl
  · exact h
  · exact k
def aOdd : PD → List PD := fun x => [x]
abbrev oGood : PD → PD → Prop := fun _ d => good d
theorem ok_odd {f : Addr} {fd : FuncData} (F : Fun K "_law_odd" "_law_odd" s__law_odd f fd) (T : Txt mg) (C__law_any : CAny P w K mg base) :
    Pf.FnG P w K mg base 3 f fd ["_law_pot_here", "_law_value"] (SpN 1 aOdd good oGood) := by
  refine okN F sc__law_odd (fun _ => rfl) (by decide) (by decide) fun cdv A outer s H E hr => ⟨_, (pss_cons (ps_set (i := 2) sc__law_odd.nd rfl (Or.inl rfl) (pe_lst (pa_cons pe_non (pa_cons pe_bl (pa_cons pe_bl (pa_cons pe_int (pa_cons pe_int (pa_cons (pe_un un_neg pe_int) (pa_cons (pe_op op_pow pe_int pe_int) (pa_cons pe_str (pa_cons pe_str (pa_cons (pe_tup pa_nil) (pa_cons (pe_lst pa_nil) (pa_cons pe_dnewK (pa_cons (pe_disp (pps_cons pe_str pe_int pps_nil) (by rfl) (by rfl) (fun z => by cases z) (by decide)) (pa_cons (pe_tup (pa_cons (pe_tup (pa_cons pe_int (pa_cons pe_int pa_nil))) pa_nil)) pa_nil))))))))))))))))
        (pss_cons (ps_expr (pe_bm PySem.F.plainAttrs_list PySem.F.slot_list_extend PySem.F.type_list_extend mt_extend (pv 2) (pa_cons (pe_lst (pa_cons (pe_tup (pa_cons (pe_tup (pa_cons pe_int (pa_cons pe_int pa_nil))) (pa_cons (pe_tup (pa_cons pe_int (pa_cons pe_int pa_nil))) pa_nil))) (pa_cons (pe_tup (pa_cons (pe_tup (pa_cons pe_int (pa_cons pe_int pa_nil))) pa_nil)) (pa_cons (pe_tup (pa_cons (pe_tup (pa_cons pe_bl (pa_cons pe_int pa_nil))) pa_nil)) (pa_cons (pe_tup (pa_cons (pe_tup (pa_cons pe_int (pa_cons pe_int pa_nil))) (pa_cons (pe_tup (pa_cons pe_int (pa_cons pe_int pa_nil))) pa_nil))) (pa_cons (pe_tup (pa_cons (pv 1) (pa_cons (pv 1) pa_nil))) (pa_cons (pe_lst (pa_cons (pv 1) pa_nil)) (pa_cons (pe_tup (pa_cons (pv 1) pa_nil)) pa_nil)))))))) pa_nil)))
        (pss_cons (ps_expr (pe_bm PySem.F.plainAttrs_list PySem.F.slot_list_append PySem.F.type_list_append mt_append (pv 2) (pa_cons (pe_ifExp (pt_val (pe_callB (call_isT (T := "tuple")) (by rfl) T.b_isinstance (by decide +kernel) (pa_cons (pv 1) (pa_cons (pe_bltn (v := .ty "tuple") (u := .type "tuple") (by rfl) T.b_tuple (by decide +kernel) rfl) pa_nil)))) (pe_callTy call_list_of (by rfl) T.b_list (by decide +kernel) (pa_cons (pv 1) pa_nil)) (pe_disp (pps_cons pe_str (pv 1) pps_nil) (by rfl) (by rfl) (fun z => by cases z) (by decide))) pa_nil)))
        (pss_one (ps_ret (Pf.pe_c C__law_any hr (by decide) (by rfl) (pa_cons (pv 0) (pa_cons (pv 2) pa_nil)))))))), fun v hv => ?_⟩
  show DS _ 1 [.pot, .dat v, .un] _
  walk_at "dl"
  refine ds_own (do_lst ?_) (by decide : 2 < 3) rfl
  walk_at "dl"
  refine s_I ⟨by decide, by decide, by decide⟩ ?_
  walk_at "dl"
  refine ⟨(by decide : 0 ≤ sizeLine), ?_⟩
  walk_at "dl"
  refine dw_of_do (do_lst ?_)
  walk_at "dl"
  refine ⟨(by decide : 0 ≤ sizeLine), ?_⟩
  walk_at "dl"
  repeat (first | walk_at "dls" | refine ⟨Nat.le_of_ble_eq_true rfl, ?_⟩)
  have S1 : ∀ d ∈ [PD.non, .bl true, .bl false, .int 0, .int 1, .int (-1), .int (10 ^ Int.toNat 40), .str "", .str "a", .tup [], .lst [], .dic [] [], .dic [.inr "a"] [.int 1], .tup [.tup [.int 0, .int 0]]], good d := fun d hd => by
    simp only [List.mem_cons, List.not_mem_nil, or_false] at hd
    rcases hd with rfl | rfl | rfl | rfl | rfl | rfl | rfl | rfl | rfl | rfl | rfl | rfl | rfl | rfl
    all_goals repeat (first | exact good_at rfl rfl | exact good0 | refine good2 ?_ ?_ | refine good1 ?_)
  show DS _ 1 [.pot, .dat v, .own [PD.non, .bl true, .bl false, .int 0, .int 1, .int (-1), .int (10 ^ Int.toNat 40), .str "", .str "a", .tup [], .lst [], .dic [] [], .dic [.inr "a"] [.int 1], .tup [.tup [.int 0, .int 0]]]] _
  generalize hL : [PD.non, .bl true, .bl false, .int 0, .int 1, .int (-1), .int (10 ^ Int.toNat 40), .str "", .str "a", .tup [], .lst [], .dic [] [], .dic [.inr "a"] [.int 1], .tup [.tup [.int 0, .int 0]]] = L at S1
  have lL : L.length = 14 := by rw [← hL]; rfl
  have nL : L ≠ [] := by rw [← hL]; exact fun z => by cases z
  clear hL
  walk_at "dl"
  refine ds_extend (i := 2) (ds := L) rfl ?_
  refine dw_of_do (do_lst ?_)
  repeat (first | walk_at "dls" | refine ⟨Nat.le_of_ble_eq_true rfl, ?_⟩ | refine dw_of_do (do_lst ?_))
  refine ⟨by rw [lL]; exact Nat.le_of_ble_eq_true rfl, ?_⟩
  have S2 : ∀ d ∈ L ++ [PD.tup [PD.tup [PD.int 0, PD.int 0], PD.tup [PD.int 1, PD.int 1]], PD.tup [PD.tup [PD.int 1, PD.int 0]], PD.tup [PD.tup [PD.bl false, PD.int 0]], PD.tup [PD.tup [PD.int 0, PD.int 0], PD.tup [PD.int 2, PD.int 2]], PD.tup [v, v], PD.lst [v], PD.tup [v]], good d := fun d hd => by
    rcases List.mem_append.mp hd with hd | hd
    · exact S1 d hd
    simp only [List.mem_cons, List.not_mem_nil, or_false] at hd
    rcases hd with rfl | rfl | rfl | rfl | rfl | rfl | rfl
    all_goals repeat (first | exact good_at rfl rfl | exact good0 | exact hv | refine good2 ?_ ?_ | refine good1 ?_)
  show DS _ 1 [.pot, .dat v, .own (L ++ [PD.tup [PD.tup [PD.int 0, PD.int 0], PD.tup [PD.int 1, PD.int 1]], PD.tup [PD.tup [PD.int 1, PD.int 0]], PD.tup [PD.tup [PD.bl false, PD.int 0]], PD.tup [PD.tup [PD.int 0, PD.int 0], PD.tup [PD.int 2, PD.int 2]], PD.tup [v, v], PD.lst [v], PD.tup [v]])] _
  generalize hM : L ++ [PD.tup [PD.tup [PD.int 0, PD.int 0], PD.tup [PD.int 1, PD.int 1]], PD.tup [PD.tup [PD.int 1, PD.int 0]], PD.tup [PD.tup [PD.bl false, PD.int 0]], PD.tup [PD.tup [PD.int 0, PD.int 0], PD.tup [PD.int 2, PD.int 2]], PD.tup [v, v], PD.lst [v], PD.tup [v]] = M at S2
  have lM : M.length = 21 := by rw [← hM, List.length_append, lL]; rfl
  clear hM S1 nL lL
  have last : ∀ d, good d → DS (tRet (Pf.tC1 (SpN 1 aAny pAny oAny) (tCons (tVar 0) (tCons (tVar 2) tNil)))) 1 [.pot, .dat v, .own (M ++ [d])] { nx := fun _ _ => good .non, rt := fun _ d => good d } := fun d hd => by
    refine ds_asDat ?_
    show DS _ 1 [.pot, .dat v, .dat (.lst (M ++ [d]))] _
    walk_at "dl"
    refine dw_callN rfl ?_
    walk_at "dl"
    refine ⟨M ++ [d], rfl, ⟨fun z => (by cases M <;> cases z), by rw [List.length_append, lM]; exact Nat.le_of_ble_eq_true rfl⟩, by decide, by decide, fun e he => ?_⟩
    rcases List.mem_append.mp he with he | he
    · exact S2 e he
    · rw [List.mem_singleton.mp he]
      exact hd
  walk_at "dl"
  refine ds_append (i := 2) (ds := M) rfl ?_
  walk_at "dl"
  refine s_isT (good_base hv) ?_
  walk_at "dl"
  have l1 : M.length < sizeLine := by rw [lM]; decide
  refine s_if (fun e => ?_) fun e => ?_
  · obtain ⟨xs, rfl⟩ : ∃ xs, v = .tup xs := by
      cases v with
      | tup xs => exact ⟨xs, rfl⟩
      | _ => cases e
    refine dw_of_do (do_cb rbo_list ?_)
    walk_at "dl"
    exact ⟨l1, last _ (good_at rfl rfl)⟩
  · walk_at "dl"
    exact ⟨l1, last _ (good_at rfl rfl)⟩
/-- a part of rows -/
def part (d : PD) : Prop := (∃ o, d = oV o) ∨ (∃ r : List (Option Int), r.length ≤ 1000 ∧ d = tVals r) ∨ ∃ rs : List (List (Option Int)), rs.length ≤ 1000 ∧ (∀ r ∈ rs, r.length ≤ 1000) ∧ d = .tup (rs.map tVals)
theorem good_oV (o : Option Int) : good (oV o) := by
  cases o <;> exact good_at rfl rfl
theorem good_tVals {r : List (Option Int)} (h : r.length ≤ 1000) : good (tVals r) := good_tup (by rw [List.length_map]; exact h) fun x hx => by
  obtain ⟨o, _, rfl⟩ := List.mem_map.mp hx
  exact good_oV o
theorem part_good {d : PD} (h : part d) : good d := by
  rcases h with ⟨o, rfl⟩ | ⟨r, l, rfl⟩ | ⟨rs, l, k, rfl⟩
  · exact good_oV o
  · exact good_tVals l
  · refine good_tup (by rw [List.length_map]; exact l) fun x hx => ?_
    obtain ⟨r, hr, rfl⟩ := List.mem_map.mp hx
    exact good_tVals (k r hr)
theorem part_el {xs : List PD} (h : part (.tup xs)) : ∀ x ∈ xs, part x := fun x hx => by
  rcases h with ⟨o, e⟩ | ⟨r, l, e⟩ | ⟨rs, l, k, e⟩
  · cases o <;> cases e
  · cases e
    obtain ⟨o, _, rfl⟩ := List.mem_map.mp hx
    exact .inl ⟨o, rfl⟩
  · cases e
    obtain ⟨r, hr, rfl⟩ := List.mem_map.mp hx
    exact .inr (.inl ⟨r, k r hr, rfl⟩)
theorem fl_oV {n : Nat} (o : Option Int) : fl n (oV o) := by
  cases o with
  | none => exact fl_non
  | some i => exact fl_int
theorem fl_tVals {n : Nat} (r : List (Option Int)) : fl (n + 1) (tVals r) := fl_tup fun x hx => by
  obtain ⟨o, _, rfl⟩ := List.mem_map.mp hx
  exact fl_oV o
theorem part_ok {d : PD} (h : part d) : okE d = true := by
  rcases h with ⟨o, rfl⟩ | ⟨r, l, rfl⟩ | ⟨rs, l, k, rfl⟩
  · exact fl_ok (fl_oV (n := 0) o) (by decide)
  · exact fl_ok (fl_tVals (n := 0) r) (by decide)
  · exact fl_ok (n := 2) (fl_tup fun x hx => by
      obtain ⟨r, hr, rfl⟩ := List.mem_map.mp hx
      exact fl_tVals r) (by decide)
def aCh : PD × Nat → List PD := fun x => [x.1, .int x.2]
abbrev spCh (m : Nat) : Sp := SpN (3 * (m + 1)) aCh (fun x => part x.1 ∧ x.2 < m) fun _ d => good d
abbrev COdd (P : Program) (w : World) (K : PySem.W.Frag) (mg : Str → Option Value) (base : Heap) : Prop := Pf.Cal P w K mg base 3 "_law_odd" (SpN 1 aOdd good oGood)
theorem put_len {α : Type} {xs : List α} {i : Nat} {x : α} (h : i < xs.length) : (xs.take i ++ [x] ++ xs.drop (i + 1)).length = xs.length := by
  rw [List.length_append, List.length_append, List.length_take, List.length_drop, List.length_singleton]
  omega
theorem cut_lo1 {xs : List PD} {m : Nat} : cutP xs (some ((m : Int) + 1)) none = xs.drop (m + 1) := cut_lo (m := m + 1)
theorem ok_changed0 {f : Addr} {fd : FuncData} : Pf.FnG P w K mg base 4 f fd ["_law_pot_here", "_law_value", "_law_deep"] (spCh 0) :=
  ⟨fun vs H Q E ⟨_, _, _, _, x, _, _, _, _, _, _, h, _⟩ => absurd h.2 (Nat.not_lt_zero _), fun A outer s H args us vs Q E _ _ _ _ _ ⟨_, _, _, _, x, _, _, _, _, _, _, h, _⟩ => absurd h.2 (Nat.not_lt_zero _)⟩
theorem ok_changed1 {f : Addr} {fd : FuncData} (F : Fun K "_law_changed" "_law_changed" s__law_changed f fd) (T : Txt mg) (C__law_draw : CDraw P w K mg base) (C__law_odd : COdd P w K mg base) (C__law_changed : Pf.Cal P w K mg base 4 "_law_changed" (spCh 0)) :
    Pf.FnG P w K mg base 5 f fd ["_law_pot_here", "_law_value", "_law_deep"] (spCh 1) := by
  refine okN F sc__law_changed (fun _ => rfl) (by decide) (by decide) fun cdv A outer s H E hr => ⟨_, (pss_cons (ps_if (PW.pt (pw_or (pt_not (pt_val (pe_callB (call_isT (T := "tuple")) (by rfl) T.b_isinstance (by decide +kernel) (pa_cons (pv 1) (pa_cons (pe_bltn (v := .ty "tuple") (u := .type "tuple") (by rfl) T.b_tuple (by decide +kernel) rfl) pa_nil))))) (pw_or (pt_cmpR (op_eqD hr.2.u64) (pv 1) (pe_tup pa_nil) (nomark _)) (pw_or (pt_cmpR (op_eqD hr.2.u64) (pv 2) pe_int (nomark _)) (pw_or1 (pt_cmpR (op_eqD hr.2.u64) (Pf.pe_c C__law_draw hr (by decide) (by rfl) (pa_cons (pv 0) (pa_cons pe_int pa_nil))) pe_int (nomark _))))))) (pss_one (ps_ret (Pf.pe_c C__law_odd hr (by decide) (by rfl) (pa_cons (pv 0) (pa_cons (pv 1) pa_nil))))) pss_nil)
        (pss_cons (ps_set (i := 3) sc__law_changed.nd rfl (Or.inl rfl) (Pf.pe_c C__law_draw hr (by decide) (by rfl) (pa_cons (pv 0) (pa_cons (pe_callB call_lenA (by rfl) T.b_len (by decide +kernel) (pa_cons (pv 1) pa_nil)) pa_nil))))
        (pss_one (ps_ret (pe_op op_addA (pe_op op_addA (pe_slice sl_all (pv 1) po_none (po_some (pv 3))) (pe_tup (pa_cons (Pf.pe_c C__law_changed hr (by decide) (by rfl) (pa_cons (pv 0) (pa_cons (pe_ix ix_seq (pv 1) (pv 3) (fun _ _ => rfl)) (pa_cons (pe_op op_sub (pv 2) pe_int) pa_nil)))) pa_nil))) (pe_slice sl_all (pv 1) (po_some (pe_op op_addA (pv 3) pe_int)) po_none)))))), fun ⟨v, k⟩ ⟨hv, hk⟩ => ?_⟩
  have hv : part v := hv
  have hk : k < 1 := hk
  show DS _ _ [.pot, .dat v, .dat (.int k), .un] _
  have odd : ∀ {b : Nat} {E : DE}, 1 ≤ b → (∀ n d, good d → E.rt n d) → DS (tRet (Pf.tC1 (SpN 1 aOdd good oGood) (tCons (tVar 0) (tCons (tVar 1) tNil)))) b [.pot, .dat v, .dat (.int k), .un] E := fun hb hE => by
    walk_at "dl"
    refine dw_callN rfl ?_
    walk_at "dl"
    exact ⟨v, rfl, part_good hv, by decide, hb, fun d h => hE _ d h⟩
  walk_at "dl"
  refine s_isT (good_base (part_good hv)) ?_
  walk_at "dl"
  refine s_if (fun e => ?_) fun e => ?_
  · refine s_if (fun _ => ?_) fun z => by cases z
    exact odd (by show 1 ≤ _ ; decide) fun _ _ h => h
  obtain ⟨xs, rfl⟩ : ∃ xs, v = .tup xs := by
    cases v with
    | tup xs => exact ⟨xs, rfl⟩
    | _ => cases e
  have gx := good_len (part_good hv)
  walk_at "dl"
  refine ⟨Nat.zero_le _, ?_⟩
  refine s_eq (part_ok hv) rfl ?_
  have e1 : PyData.eqv (PD.tup xs).py (PD.tup []).py = xs.isEmpty := by
    show PyData.eqv (.tuple (PD.pyAll xs)) (.tuple []) = _
    rw [PyData.eqv]
    cases xs with
    | nil => rfl
    | cons x r => rfl
  rw [e1]
  walk_at "dl"
  refine s_if (fun e => ?_) fun e => ?_
  · refine s_if (fun _ => ?_) fun z => by cases z
    exact odd (by show 1 ≤ _ ; decide) fun _ _ h => h
  have l0 : 0 < xs.length := by
    cases xs with
    | nil => cases e
    | cons x r => exact Nat.succ_pos _
  walk_at "dl"
  refine s_eq rfl rfl ?_
  rw [eqvI]
  walk_at "dl"
  refine s_if (fun e => ?_) fun e => ?_
  · refine s_if (fun _ => ?_) fun z => by cases z
    exact odd (by show 1 ≤ _ ; decide) fun _ _ h => h
  have k0 : 0 < k := by
    rcases Nat.eq_zero_or_pos k with z | z
    · subst z
      cases e
    · exact z
  walk_at "dl"
  refine dw_callN rfl ?_
  walk_at "dl"
  refine ⟨5, rfl, ⟨by decide, by decide⟩, by decide, by decide, fun d ⟨r, e, _, _⟩ => ?_⟩
  subst e
  walk_at "dl"
  refine s_eq rfl rfl ?_
  walk_at "dl"
  refine s_if (fun e => ?_) fun e => ?_
  · exact odd (by show 1 ≤ _ ; decide) fun _ _ h => h
  walk_at "dl"
  refine ds_asg (ts := [3]) ?_
  refine dw_callN rfl ?_
  walk_at "dl"
  refine ⟨(xs.length : Int), rfl, ⟨by omega, by rw [Int.natAbs_natCast]; exact Nat.lt_of_le_of_lt gx (by decide)⟩, by decide, by decide, fun d ⟨r, e, r0, r1⟩ => ?_⟩
  subst e
  obtain ⟨j, rfl⟩ := Int.eq_ofNat_of_zero_le r0
  have hj : j < xs.length := by omega
  walk_at "dl"
  refine dw_callN rfl ?_
  walk_at "dl"
  refine s_ixT (x := xs.getD j .non) (at_k (get_D hj)) ?_
  walk_at "dl"
  have ek : ((k : Int) - 1) = ((k - 1 : Nat) : Int) := by omega
  refine ⟨(xs.getD j .non, k - 1), by unfold aCh; rw [← ek], ⟨part_el hv _ (mem_D hj), (by show k - 1 < 0; omega)⟩, by decide, by decide, fun d hd => ?_⟩
  walk_at "dl"
  refine ⟨Nat.le_of_ble_eq_true rfl, ?_⟩
  rw [cut_hi]
  refine s_addT (by rw [List.length_take]; show _ + 1 ≤ sizeLine; have : sizeLine = 16777216 := rfl; omega) ?_
  walk_at "dl"
  rw [cut_lo1]
  refine s_addT (by rw [List.length_append, List.length_take, List.length_drop]; show _ + 1 + _ ≤ sizeLine; have : sizeLine = 16777216 := rfl; omega) ?_
  refine good_tup (by rw [put_len hj]; exact gx) fun x hx => ?_
  have ge := good_el (part_good hv)
  rcases List.mem_append.mp hx with hx | hx
  · rcases List.mem_append.mp hx with hx | hx
    · exact ge x (List.mem_of_mem_take hx)
    · rw [List.mem_singleton.mp hx]
      exact hd
  · exact ge x (List.mem_of_mem_drop hx)
theorem ok_changed2 {f : Addr} {fd : FuncData} (F : Fun K "_law_changed" "_law_changed" s__law_changed f fd) (T : Txt mg) (C__law_draw : CDraw P w K mg base) (C__law_odd : COdd P w K mg base) (C__law_changed : Pf.Cal P w K mg base 5 "_law_changed" (spCh 1)) :
    Pf.FnG P w K mg base 6 f fd ["_law_pot_here", "_law_value", "_law_deep"] (spCh 2) := by
  refine okN F sc__law_changed (fun _ => rfl) (by decide) (by decide) fun cdv A outer s H E hr => ⟨_, (pss_cons (ps_if (PW.pt (pw_or (pt_not (pt_val (pe_callB (call_isT (T := "tuple")) (by rfl) T.b_isinstance (by decide +kernel) (pa_cons (pv 1) (pa_cons (pe_bltn (v := .ty "tuple") (u := .type "tuple") (by rfl) T.b_tuple (by decide +kernel) rfl) pa_nil))))) (pw_or (pt_cmpR (op_eqD hr.2.u64) (pv 1) (pe_tup pa_nil) (nomark _)) (pw_or (pt_cmpR (op_eqD hr.2.u64) (pv 2) pe_int (nomark _)) (pw_or1 (pt_cmpR (op_eqD hr.2.u64) (Pf.pe_c C__law_draw hr (by decide) (by rfl) (pa_cons (pv 0) (pa_cons pe_int pa_nil))) pe_int (nomark _))))))) (pss_one (ps_ret (Pf.pe_c C__law_odd hr (by decide) (by rfl) (pa_cons (pv 0) (pa_cons (pv 1) pa_nil))))) pss_nil)
        (pss_cons (ps_set (i := 3) sc__law_changed.nd rfl (Or.inl rfl) (Pf.pe_c C__law_draw hr (by decide) (by rfl) (pa_cons (pv 0) (pa_cons (pe_callB call_lenA (by rfl) T.b_len (by decide +kernel) (pa_cons (pv 1) pa_nil)) pa_nil))))
        (pss_one (ps_ret (pe_op op_addA (pe_op op_addA (pe_slice sl_all (pv 1) po_none (po_some (pv 3))) (pe_tup (pa_cons (Pf.pe_c C__law_changed hr (by decide) (by rfl) (pa_cons (pv 0) (pa_cons (pe_ix ix_seq (pv 1) (pv 3) (fun _ _ => rfl)) (pa_cons (pe_op op_sub (pv 2) pe_int) pa_nil)))) pa_nil))) (pe_slice sl_all (pv 1) (po_some (pe_op op_addA (pv 3) pe_int)) po_none)))))), fun ⟨v, k⟩ ⟨hv, hk⟩ => ?_⟩
  have hv : part v := hv
  have hk : k < 2 := hk
  show DS _ _ [.pot, .dat v, .dat (.int k), .un] _
  have odd : ∀ {b : Nat} {E : DE}, 1 ≤ b → (∀ n d, good d → E.rt n d) → DS (tRet (Pf.tC1 (SpN 1 aOdd good oGood) (tCons (tVar 0) (tCons (tVar 1) tNil)))) b [.pot, .dat v, .dat (.int k), .un] E := fun hb hE => by
    walk_at "dl"
    refine dw_callN rfl ?_
    walk_at "dl"
    exact ⟨v, rfl, part_good hv, by decide, hb, fun d h => hE _ d h⟩
  walk_at "dl"
  refine s_isT (good_base (part_good hv)) ?_
  walk_at "dl"
  refine s_if (fun e => ?_) fun e => ?_
  · refine s_if (fun _ => ?_) fun z => by cases z
    exact odd (by show 1 ≤ _ ; decide) fun _ _ h => h
  obtain ⟨xs, rfl⟩ : ∃ xs, v = .tup xs := by
    cases v with
    | tup xs => exact ⟨xs, rfl⟩
    | _ => cases e
  have gx := good_len (part_good hv)
  walk_at "dl"
  refine ⟨Nat.zero_le _, ?_⟩
  refine s_eq (part_ok hv) rfl ?_
  have e1 : PyData.eqv (PD.tup xs).py (PD.tup []).py = xs.isEmpty := by
    show PyData.eqv (.tuple (PD.pyAll xs)) (.tuple []) = _
    rw [PyData.eqv]
    cases xs with
    | nil => rfl
    | cons x r => rfl
  rw [e1]
  walk_at "dl"
  refine s_if (fun e => ?_) fun e => ?_
  · refine s_if (fun _ => ?_) fun z => by cases z
    exact odd (by show 1 ≤ _ ; decide) fun _ _ h => h
  have l0 : 0 < xs.length := by
    cases xs with
    | nil => cases e
    | cons x r => exact Nat.succ_pos _
  walk_at "dl"
  refine s_eq rfl rfl ?_
  rw [eqvI]
  walk_at "dl"
  refine s_if (fun e => ?_) fun e => ?_
  · refine s_if (fun _ => ?_) fun z => by cases z
    exact odd (by show 1 ≤ _ ; decide) fun _ _ h => h
  have k0 : 0 < k := by
    rcases Nat.eq_zero_or_pos k with z | z
    · subst z
      cases e
    · exact z
  walk_at "dl"
  refine dw_callN rfl ?_
  walk_at "dl"
  refine ⟨5, rfl, ⟨by decide, by decide⟩, by decide, by decide, fun d ⟨r, e, _, _⟩ => ?_⟩
  subst e
  walk_at "dl"
  refine s_eq rfl rfl ?_
  walk_at "dl"
  refine s_if (fun e => ?_) fun e => ?_
  · exact odd (by show 1 ≤ _ ; decide) fun _ _ h => h
  walk_at "dl"
  refine ds_asg (ts := [3]) ?_
  refine dw_callN rfl ?_
  walk_at "dl"
  refine ⟨(xs.length : Int), rfl, ⟨by omega, by rw [Int.natAbs_natCast]; exact Nat.lt_of_le_of_lt gx (by decide)⟩, by decide, by decide, fun d ⟨r, e, r0, r1⟩ => ?_⟩
  subst e
  obtain ⟨j, rfl⟩ := Int.eq_ofNat_of_zero_le r0
  have hj : j < xs.length := by omega
  walk_at "dl"
  refine dw_callN rfl ?_
  walk_at "dl"
  refine s_ixT (x := xs.getD j .non) (at_k (get_D hj)) ?_
  walk_at "dl"
  have ek : ((k : Int) - 1) = ((k - 1 : Nat) : Int) := by omega
  refine ⟨(xs.getD j .non, k - 1), by unfold aCh; rw [← ek], ⟨part_el hv _ (mem_D hj), (by show k - 1 < 1; omega)⟩, by decide, by decide, fun d hd => ?_⟩
  walk_at "dl"
  refine ⟨Nat.le_of_ble_eq_true rfl, ?_⟩
  rw [cut_hi]
  refine s_addT (by rw [List.length_take]; show _ + 1 ≤ sizeLine; have : sizeLine = 16777216 := rfl; omega) ?_
  walk_at "dl"
  rw [cut_lo1]
  refine s_addT (by rw [List.length_append, List.length_take, List.length_drop]; show _ + 1 + _ ≤ sizeLine; have : sizeLine = 16777216 := rfl; omega) ?_
  refine good_tup (by rw [put_len hj]; exact gx) fun x hx => ?_
  have ge := good_el (part_good hv)
  rcases List.mem_append.mp hx with hx | hx
  · rcases List.mem_append.mp hx with hx | hx
    · exact ge x (List.mem_of_mem_take hx)
    · rw [List.mem_singleton.mp hx]
      exact hd
  · exact ge x (List.mem_of_mem_drop hx)
theorem ok_changed3 {f : Addr} {fd : FuncData} (F : Fun K "_law_changed" "_law_changed" s__law_changed f fd) (T : Txt mg) (C__law_draw : CDraw P w K mg base) (C__law_odd : COdd P w K mg base) (C__law_changed : Pf.Cal P w K mg base 6 "_law_changed" (spCh 2)) :
    Pf.FnG P w K mg base 7 f fd ["_law_pot_here", "_law_value", "_law_deep"] (spCh 3) := by
  refine okN F sc__law_changed (fun _ => rfl) (by decide) (by decide) fun cdv A outer s H E hr => ⟨_, (pss_cons (ps_if (PW.pt (pw_or (pt_not (pt_val (pe_callB (call_isT (T := "tuple")) (by rfl) T.b_isinstance (by decide +kernel) (pa_cons (pv 1) (pa_cons (pe_bltn (v := .ty "tuple") (u := .type "tuple") (by rfl) T.b_tuple (by decide +kernel) rfl) pa_nil))))) (pw_or (pt_cmpR (op_eqD hr.2.u64) (pv 1) (pe_tup pa_nil) (nomark _)) (pw_or (pt_cmpR (op_eqD hr.2.u64) (pv 2) pe_int (nomark _)) (pw_or1 (pt_cmpR (op_eqD hr.2.u64) (Pf.pe_c C__law_draw hr (by decide) (by rfl) (pa_cons (pv 0) (pa_cons pe_int pa_nil))) pe_int (nomark _))))))) (pss_one (ps_ret (Pf.pe_c C__law_odd hr (by decide) (by rfl) (pa_cons (pv 0) (pa_cons (pv 1) pa_nil))))) pss_nil)
        (pss_cons (ps_set (i := 3) sc__law_changed.nd rfl (Or.inl rfl) (Pf.pe_c C__law_draw hr (by decide) (by rfl) (pa_cons (pv 0) (pa_cons (pe_callB call_lenA (by rfl) T.b_len (by decide +kernel) (pa_cons (pv 1) pa_nil)) pa_nil))))
        (pss_one (ps_ret (pe_op op_addA (pe_op op_addA (pe_slice sl_all (pv 1) po_none (po_some (pv 3))) (pe_tup (pa_cons (Pf.pe_c C__law_changed hr (by decide) (by rfl) (pa_cons (pv 0) (pa_cons (pe_ix ix_seq (pv 1) (pv 3) (fun _ _ => rfl)) (pa_cons (pe_op op_sub (pv 2) pe_int) pa_nil)))) pa_nil))) (pe_slice sl_all (pv 1) (po_some (pe_op op_addA (pv 3) pe_int)) po_none)))))), fun ⟨v, k⟩ ⟨hv, hk⟩ => ?_⟩
  have hv : part v := hv
  have hk : k < 3 := hk
  show DS _ _ [.pot, .dat v, .dat (.int k), .un] _
  have odd : ∀ {b : Nat} {E : DE}, 1 ≤ b → (∀ n d, good d → E.rt n d) → DS (tRet (Pf.tC1 (SpN 1 aOdd good oGood) (tCons (tVar 0) (tCons (tVar 1) tNil)))) b [.pot, .dat v, .dat (.int k), .un] E := fun hb hE => by
    walk_at "dl"
    refine dw_callN rfl ?_
    walk_at "dl"
    exact ⟨v, rfl, part_good hv, by decide, hb, fun d h => hE _ d h⟩
  walk_at "dl"
  refine s_isT (good_base (part_good hv)) ?_
  walk_at "dl"
  refine s_if (fun e => ?_) fun e => ?_
  · refine s_if (fun _ => ?_) fun z => by cases z
    exact odd (by show 1 ≤ _ ; decide) fun _ _ h => h
  obtain ⟨xs, rfl⟩ : ∃ xs, v = .tup xs := by
    cases v with
    | tup xs => exact ⟨xs, rfl⟩
    | _ => cases e
  have gx := good_len (part_good hv)
  walk_at "dl"
  refine ⟨Nat.zero_le _, ?_⟩
  refine s_eq (part_ok hv) rfl ?_
  have e1 : PyData.eqv (PD.tup xs).py (PD.tup []).py = xs.isEmpty := by
    show PyData.eqv (.tuple (PD.pyAll xs)) (.tuple []) = _
    rw [PyData.eqv]
    cases xs with
    | nil => rfl
    | cons x r => rfl
  rw [e1]
  walk_at "dl"
  refine s_if (fun e => ?_) fun e => ?_
  · refine s_if (fun _ => ?_) fun z => by cases z
    exact odd (by show 1 ≤ _ ; decide) fun _ _ h => h
  have l0 : 0 < xs.length := by
    cases xs with
    | nil => cases e
    | cons x r => exact Nat.succ_pos _
  walk_at "dl"
  refine s_eq rfl rfl ?_
  rw [eqvI]
  walk_at "dl"
  refine s_if (fun e => ?_) fun e => ?_
  · refine s_if (fun _ => ?_) fun z => by cases z
    exact odd (by show 1 ≤ _ ; decide) fun _ _ h => h
  have k0 : 0 < k := by
    rcases Nat.eq_zero_or_pos k with z | z
    · subst z
      cases e
    · exact z
  walk_at "dl"
  refine dw_callN rfl ?_
  walk_at "dl"
  refine ⟨5, rfl, ⟨by decide, by decide⟩, by decide, by decide, fun d ⟨r, e, _, _⟩ => ?_⟩
  subst e
  walk_at "dl"
  refine s_eq rfl rfl ?_
  walk_at "dl"
  refine s_if (fun e => ?_) fun e => ?_
  · exact odd (by show 1 ≤ _ ; decide) fun _ _ h => h
  walk_at "dl"
  refine ds_asg (ts := [3]) ?_
  refine dw_callN rfl ?_
  walk_at "dl"
  refine ⟨(xs.length : Int), rfl, ⟨by omega, by rw [Int.natAbs_natCast]; exact Nat.lt_of_le_of_lt gx (by decide)⟩, by decide, by decide, fun d ⟨r, e, r0, r1⟩ => ?_⟩
  subst e
  obtain ⟨j, rfl⟩ := Int.eq_ofNat_of_zero_le r0
  have hj : j < xs.length := by omega
  walk_at "dl"
  refine dw_callN rfl ?_
  walk_at "dl"
  refine s_ixT (x := xs.getD j .non) (at_k (get_D hj)) ?_
  walk_at "dl"
  have ek : ((k : Int) - 1) = ((k - 1 : Nat) : Int) := by omega
  refine ⟨(xs.getD j .non, k - 1), by unfold aCh; rw [← ek], ⟨part_el hv _ (mem_D hj), (by show k - 1 < 2; omega)⟩, by decide, by decide, fun d hd => ?_⟩
  walk_at "dl"
  refine ⟨Nat.le_of_ble_eq_true rfl, ?_⟩
  rw [cut_hi]
  refine s_addT (by rw [List.length_take]; show _ + 1 ≤ sizeLine; have : sizeLine = 16777216 := rfl; omega) ?_
  walk_at "dl"
  rw [cut_lo1]
  refine s_addT (by rw [List.length_append, List.length_take, List.length_drop]; show _ + 1 + _ ≤ sizeLine; have : sizeLine = 16777216 := rfl; omega) ?_
  refine good_tup (by rw [put_len hj]; exact gx) fun x hx => ?_
  have ge := good_el (part_good hv)
  rcases List.mem_append.mp hx with hx | hx
  · rcases List.mem_append.mp hx with hx | hx
    · exact ge x (List.mem_of_mem_take hx)
    · rw [List.mem_singleton.mp hx]
      exact hd
  · exact ge x (List.mem_of_mem_drop hx)
theorem ok_changed4 {f : Addr} {fd : FuncData} (F : Fun K "_law_changed" "_law_changed" s__law_changed f fd) (T : Txt mg) (C__law_draw : CDraw P w K mg base) (C__law_odd : COdd P w K mg base) (C__law_changed : Pf.Cal P w K mg base 7 "_law_changed" (spCh 3)) :
    Pf.FnG P w K mg base 8 f fd ["_law_pot_here", "_law_value", "_law_deep"] (spCh 4) := by
  refine okN F sc__law_changed (fun _ => rfl) (by decide) (by decide) fun cdv A outer s H E hr => ⟨_, (pss_cons (ps_if (PW.pt (pw_or (pt_not (pt_val (pe_callB (call_isT (T := "tuple")) (by rfl) T.b_isinstance (by decide +kernel) (pa_cons (pv 1) (pa_cons (pe_bltn (v := .ty "tuple") (u := .type "tuple") (by rfl) T.b_tuple (by decide +kernel) rfl) pa_nil))))) (pw_or (pt_cmpR (op_eqD hr.2.u64) (pv 1) (pe_tup pa_nil) (nomark _)) (pw_or (pt_cmpR (op_eqD hr.2.u64) (pv 2) pe_int (nomark _)) (pw_or1 (pt_cmpR (op_eqD hr.2.u64) (Pf.pe_c C__law_draw hr (by decide) (by rfl) (pa_cons (pv 0) (pa_cons pe_int pa_nil))) pe_int (nomark _))))))) (pss_one (ps_ret (Pf.pe_c C__law_odd hr (by decide) (by rfl) (pa_cons (pv 0) (pa_cons (pv 1) pa_nil))))) pss_nil)
        (pss_cons (ps_set (i := 3) sc__law_changed.nd rfl (Or.inl rfl) (Pf.pe_c C__law_draw hr (by decide) (by rfl) (pa_cons (pv 0) (pa_cons (pe_callB call_lenA (by rfl) T.b_len (by decide +kernel) (pa_cons (pv 1) pa_nil)) pa_nil))))
        (pss_one (ps_ret (pe_op op_addA (pe_op op_addA (pe_slice sl_all (pv 1) po_none (po_some (pv 3))) (pe_tup (pa_cons (Pf.pe_c C__law_changed hr (by decide) (by rfl) (pa_cons (pv 0) (pa_cons (pe_ix ix_seq (pv 1) (pv 3) (fun _ _ => rfl)) (pa_cons (pe_op op_sub (pv 2) pe_int) pa_nil)))) pa_nil))) (pe_slice sl_all (pv 1) (po_some (pe_op op_addA (pv 3) pe_int)) po_none)))))), fun ⟨v, k⟩ ⟨hv, hk⟩ => ?_⟩
  have hv : part v := hv
  have hk : k < 4 := hk
  show DS _ _ [.pot, .dat v, .dat (.int k), .un] _
  have odd : ∀ {b : Nat} {E : DE}, 1 ≤ b → (∀ n d, good d → E.rt n d) → DS (tRet (Pf.tC1 (SpN 1 aOdd good oGood) (tCons (tVar 0) (tCons (tVar 1) tNil)))) b [.pot, .dat v, .dat (.int k), .un] E := fun hb hE => by
    walk_at "dl"
    refine dw_callN rfl ?_
    walk_at "dl"
    exact ⟨v, rfl, part_good hv, by decide, hb, fun d h => hE _ d h⟩
  walk_at "dl"
  refine s_isT (good_base (part_good hv)) ?_
  walk_at "dl"
  refine s_if (fun e => ?_) fun e => ?_
  · refine s_if (fun _ => ?_) fun z => by cases z
    exact odd (by show 1 ≤ _ ; decide) fun _ _ h => h
  obtain ⟨xs, rfl⟩ : ∃ xs, v = .tup xs := by
    cases v with
    | tup xs => exact ⟨xs, rfl⟩
    | _ => cases e
  have gx := good_len (part_good hv)
  walk_at "dl"
  refine ⟨Nat.zero_le _, ?_⟩
  refine s_eq (part_ok hv) rfl ?_
  have e1 : PyData.eqv (PD.tup xs).py (PD.tup []).py = xs.isEmpty := by
    show PyData.eqv (.tuple (PD.pyAll xs)) (.tuple []) = _
    rw [PyData.eqv]
    cases xs with
    | nil => rfl
    | cons x r => rfl
  rw [e1]
  walk_at "dl"
  refine s_if (fun e => ?_) fun e => ?_
  · refine s_if (fun _ => ?_) fun z => by cases z
    exact odd (by show 1 ≤ _ ; decide) fun _ _ h => h
  have l0 : 0 < xs.length := by
    cases xs with
    | nil => cases e
    | cons x r => exact Nat.succ_pos _
  walk_at "dl"
  refine s_eq rfl rfl ?_
  rw [eqvI]
  walk_at "dl"
  refine s_if (fun e => ?_) fun e => ?_
  · refine s_if (fun _ => ?_) fun z => by cases z
    exact odd (by show 1 ≤ _ ; decide) fun _ _ h => h
  have k0 : 0 < k := by
    rcases Nat.eq_zero_or_pos k with z | z
    · subst z
      cases e
    · exact z
  walk_at "dl"
  refine dw_callN rfl ?_
  walk_at "dl"
  refine ⟨5, rfl, ⟨by decide, by decide⟩, by decide, by decide, fun d ⟨r, e, _, _⟩ => ?_⟩
  subst e
  walk_at "dl"
  refine s_eq rfl rfl ?_
  walk_at "dl"
  refine s_if (fun e => ?_) fun e => ?_
  · exact odd (by show 1 ≤ _ ; decide) fun _ _ h => h
  walk_at "dl"
  refine ds_asg (ts := [3]) ?_
  refine dw_callN rfl ?_
  walk_at "dl"
  refine ⟨(xs.length : Int), rfl, ⟨by omega, by rw [Int.natAbs_natCast]; exact Nat.lt_of_le_of_lt gx (by decide)⟩, by decide, by decide, fun d ⟨r, e, r0, r1⟩ => ?_⟩
  subst e
  obtain ⟨j, rfl⟩ := Int.eq_ofNat_of_zero_le r0
  have hj : j < xs.length := by omega
  walk_at "dl"
  refine dw_callN rfl ?_
  walk_at "dl"
  refine s_ixT (x := xs.getD j .non) (at_k (get_D hj)) ?_
  walk_at "dl"
  have ek : ((k : Int) - 1) = ((k - 1 : Nat) : Int) := by omega
  refine ⟨(xs.getD j .non, k - 1), by unfold aCh; rw [← ek], ⟨part_el hv _ (mem_D hj), (by show k - 1 < 3; omega)⟩, by decide, by decide, fun d hd => ?_⟩
  walk_at "dl"
  refine ⟨Nat.le_of_ble_eq_true rfl, ?_⟩
  rw [cut_hi]
  refine s_addT (by rw [List.length_take]; show _ + 1 ≤ sizeLine; have : sizeLine = 16777216 := rfl; omega) ?_
  walk_at "dl"
  rw [cut_lo1]
  refine s_addT (by rw [List.length_append, List.length_take, List.length_drop]; show _ + 1 + _ ≤ sizeLine; have : sizeLine = 16777216 := rfl; omega) ?_
  refine good_tup (by rw [put_len hj]; exact gx) fun x hx => ?_
  have ge := good_el (part_good hv)
  rcases List.mem_append.mp hx with hx | hx
  · rcases List.mem_append.mp hx with hx | hx
    · exact ge x (List.mem_of_mem_take hx)
    · rw [List.mem_singleton.mp hx]
      exact hd
  · exact ge x (List.mem_of_mem_drop hx)
end
end

set_option Elab.async false
set_option linter.all false
set_option maxRecDepth 100000
section
open PySem PySem.Spec PyProof.Rows L2 ZK
section
variable {base : Heap} {P : Program} {w : World} {mg : Str → Option Value} {K : PySem.W.Frag}
theorem Case.rws (c : Case) : Rws c.m c.rows := ⟨by rw [c.rows_len]; exact c.z1, by rw [c.rows_len]; exact Nat.le_trans c.z2 (by decide), c.h1, c.m3, c.row_len⟩
abbrev spSc : Sp := SpT (fun y : Nat × List PD × List (List Int) × List (List (Option Int)) × PD => aSc y.2 y.1) (fun y => pSc y.1 y.2) fun y => .bl (isCand y.1 y.2.1 y.2.2.1 y.2.2.2.1 y.2.2.2.2)
/-- what a comparison of two shown truths tells -/
theorem shown_same (b : Bool) : (PD.bl b).plain = true ∧ Pf.Fits (PD.bl b).py ∧ okE (.str (PD.bl b).py.shown) = true ∧ PyData.eqv (PD.str (PD.bl b).py.shown).py (PD.str (PD.bl b).py.shown).py = true := by
  cases b <;> exact ⟨rfl, ⟨by decide +kernel, by decide +kernel, by decide +kernel⟩, by decide +kernel, by decide +kernel⟩
abbrev CCase (P : Program) (w : World) (K : PySem.W.Frag) (mg : Str → Option Value) (base : Heap) : Prop := Pf.Cal P w K mg base 4 "_law_case" (SpN 200 aCase pCase oCase)
abbrev CMc (P : Program) (w : World) (K : PySem.W.Frag) (mg : Str → Option Value) (base : Heap) : Prop := Pf.Cal P w K mg base 3 "_law_mixed_columns" (SpN 72 aMc (fun x => Rws x.1 x.2) oMc)
abbrev spRight : Sp := SpN 2000 (fun _ : Unit => []) (fun _ => True) fun _ d => d = .bl true
theorem good_int (i : Int) : good (.int i) := good_at rfl rfl
theorem good_ints (is : List Int) (h : is.length ≤ 1000) : good (tInts is) := good_tup (by rw [List.length_map]; exact h) fun x hx => by
  obtain ⟨i, _, rfl⟩ := List.mem_map.mp hx
  exact good_int i
theorem good_V (is : List Int) : good (minV is) ∧ good (maxV is) := by
  unfold minV maxV
  by_cases e : is = []
  · rw [if_pos e, if_pos e]
    exact ⟨good_at rfl rfl, good_at rfl rfl⟩
  · rw [if_neg e, if_neg e]
    exact ⟨good_int _, good_int _⟩
theorem good_col {c : PD} {cs : List Int} {vs : List (Option Int)} (h : good c) (l : cs.length ≤ 20) : good (colFacts c cs vs) := good_tup (by show 6 ≤ 1000; decide) fun x hx => by
  simp only [List.mem_cons, List.not_mem_nil, or_false] at hx
  rcases hx with rfl | rfl | rfl | rfl | rfl | rfl
  · exact h
  · exact good_ints _ (by omega)
  · exact good_int _
  · exact (good_V _).1
  · exact (good_V _).2
  · refine good_tup (by rw [List.length_map, List.length_range]; omega) fun x hx => ?_
    obtain ⟨k, _, rfl⟩ := List.mem_map.mp hx
    exact good2 (good_int _) (good_int _)
theorem Case.facts_good (c : Case) : good c.facts := good2 (good_int _) (good_tup (by rw [List.length_map, List.length_range]; exact Nat.le_trans c.m3 (by decide)) fun x hx => by
  obtain ⟨j, hj, rfl⟩ := List.mem_map.mp hx
  have hj := List.mem_range.mp hj
  refine good_col ?_ (c.cut_few _ (mem_D (by rw [c.cuts_len]; exact hj)))
  obtain ⟨s, _, e⟩ := List.mem_map.mp (show c.names.getD j .non ∈ c.names from mem_D (by rw [c.names_len]; exact hj))
  rw [← e]
  exact good_at rfl rfl)
theorem rws_part {m : Nat} {rs : List (List (Option Int))} (h : Rws m rs) : part (.tup (rs.map tVals)) := .inr (.inr ⟨rs, Nat.le_trans h.z2 (by decide), fun r hr => by rw [h.w r hr]; exact Nat.le_trans h.m3 (by decide), rfl⟩)
theorem ok_right {f : Addr} {fd : FuncData} (F : Fun K "_law_right" "_law_right" s__law_right f fd) (T : Txt mg) (C__law_any : CAny P w K mg base) (C__law_case : CCase P w K mg base) (C__law_mixed_columns : CMc P w K mg base) (C__law_odd : COdd P w K mg base) (C__law_changed : Pf.Cal P w K mg base 8 "_law_changed" (spCh 4))
    (C_shows_candidate : Pf.Cal P w K mg base 5 "shows_candidate" spSc) (C__law_is_candidate : Pf.Cal P w K mg base 3 "_law_is_candidate" spIc) :
    Pf.FnG P w K mg base 9 f fd ["_law_pot_here"] spRight := by
  refine okN F sc__law_right (fun _ => rfl) (by decide) (by decide) fun cdv A outer s H E hr => ⟨_, (pss_cons (ps_asg (Pf.pe_c C__law_case hr (by decide) (by rfl) (pa_cons (pv 0) (pa_cons pe_int (pa_cons (Pf.pe_c C__law_any hr (by decide) (by rfl) (pa_cons (pv 0) (pa_cons (pe_lst (pa_cons pe_int (pa_cons pe_int (pa_cons pe_int pa_nil)))) pa_nil))) pa_nil)))) (pg_tup (n := 4) rfl (pgs_cons (pg_name (i := 1) sc__law_right.nd rfl (Or.inl rfl)) (pgs_cons (pg_name (i := 2) sc__law_right.nd rfl (Or.inl rfl)) (pgs_cons (pg_name (i := 3) sc__law_right.nd rfl (Or.inl rfl)) (pgs_cons (pg_name (i := 4) sc__law_right.nd rfl (Or.inl rfl)) pgs_nil))))))
        (pss_cons (ps_set (i := 5) sc__law_right.nd rfl (Or.inl rfl) (pe_lst (pa_cons (Pf.pe_c C__law_odd hr (by decide) (by rfl) (pa_cons (pv 0) (pa_cons (pv 3) pa_nil))) (pa_cons (Pf.pe_c C__law_odd hr (by decide) (by rfl) (pa_cons (pv 0) (pa_cons (pe_ix ix_seq (pv 3) pe_int (fun _ _ => rfl)) pa_nil))) (pa_cons (pv 4) (pa_cons (pe_lst (pa_cons (pv 3) pa_nil)) (pa_cons (pe_callTy call_list_of (by rfl) T.b_list (by decide +kernel) (pa_cons (pv 3) pa_nil)) (pa_cons (pe_tup pa_nil) (pa_cons pe_non pa_nil)))))))))
        (pss_cons (ps_expr (pe_bm PySem.F.plainAttrs_list PySem.F.slot_list_append PySem.F.type_list_append mt_append (pv 5) (pa_cons (pe_callTy call_tuple_of (by rfl) T.b_tuple (by decide +kernel) (pa_cons (pe_lc (own := [("_law_row", 8)]) (g := gName 8) (tt := tYes) rfl sc__law_right.nd (pi_tup (pv 3)) (blkOk_by (own := [("_law_row", 8)]) (N := ["_law_pot_here", "_law_names_here", "_law_parts", "_law_rows", "_law_facts", "_law_some", "_law_turn", "_law_value", "_law_row"]) (sc := defScope s__law_right) (by decide +kernel)) (fun _ _ _ _ _ => (pg_name (i := 8) sc__law_right.nd rfl (Or.inl rfl))) (fun _ _ _ _ _ => pts_nil) (fun _ _ _ _ _ => (pe_callTy (show CallR _ _ (rLstOf K) from call_list_of) (by rfl) T.b_list (by decide +kernel) (pa_cons (pv 8) pa_nil)))) pa_nil)) pa_nil)))
        (pss_cons (ps_for PassesOwn.never rfl (pi_range1 (by rfl) T.b_range (pa_cons pe_int pa_nil)) (pg_name (i := 6) sc__law_right.nd rfl (Or.inl rfl)) (pss_one (ps_expr (pe_bm PySem.F.plainAttrs_list PySem.F.slot_list_append PySem.F.type_list_append mt_append (pv 5) (pa_cons (Pf.pe_c C__law_changed hr (by decide) (by rfl) (pa_cons (pv 0) (pa_cons (Pf.pe_c C__law_mixed_columns hr (by decide) (by rfl) (pa_cons (pv 0) (pa_cons (pv 3) pa_nil))) (pa_cons pe_int pa_nil)))) pa_nil)))))
        (pss_cons (ps_for PassesOwn.never rfl (pi_list (pv 5)) (pg_name (i := 7) sc__law_right.nd rfl (Or.inl rfl)) (pss_one (ps_if (pt_cmpR (op_neD hr.2.u64) (pe_callB (call_reprP hr) (by rfl) T.b_repr (by decide +kernel) (pa_cons (Pf.pe_c C_shows_candidate hr (by decide) (by rfl) (pa_cons (pv 4) (pa_cons (pv 7) pa_nil))) pa_nil)) (pe_callB (call_reprP hr) (by rfl) T.b_repr (by decide +kernel) (pa_cons (Pf.pe_c C__law_is_candidate hr (by decide) (by rfl) (pa_cons (pv 1) (pa_cons (pv 2) (pa_cons (pv 4) (pa_cons (pv 7) pa_nil))))) pa_nil)) (nomark _)) (pss_one (ps_ret pe_bl)) pss_nil)))
        (pss_one (ps_ret pe_bl))))))), fun _ _ => ?_⟩
  show DS _ 2000 [.pot, .un, .un, .un, .un, .un, .un, .un, .un] _
  walk_at "dl"
  refine ds_asg (ts := [1, 2, 3, 4]) ?_
  refine dw_callN rfl ?_
  walk_at "dl"
  refine dw_callN rfl ?_
  walk_at "dl"
  refine dw_of_do (do_lst ?_)
  walk_at "dl"
  refine ⟨(by decide : 3 ≤ sizeLine), ?_⟩
  walk_at "dl"
  refine ⟨_, rfl, ⟨fun z => (by cases z), (by decide : 3 ≤ 1000)⟩, by decide, by decide, fun d hd => ?_⟩
  obtain ⟨sp, rfl, s1, s2⟩ : ∃ sp : Int, d = .int sp ∧ 2 ≤ sp ∧ sp ≤ 10 := by
    simp only [oAny, List.mem_cons, List.not_mem_nil, or_false] at hd
    rcases hd with rfl | rfl | rfl <;> exact ⟨_, rfl, by decide, by decide⟩
  walk_at "dl"
  refine ⟨(8, sp), rfl, ⟨⟨(by decide : (1 : Int) ≤ 8), (by decide : (8 : Int) ≤ 20)⟩, s1, s2⟩, by decide, by decide, fun d ⟨c, e, _⟩ => ?_⟩
  subst e
  unfold Case.out
  walk_at "dl"
  refine ⟨rfl, ?_⟩
  walk_at "dl"
  show DS _ 1799 [.pot, .dat (.lst c.names), .dat c.parts, .dat (.tup (c.rows.map tVals)), .dat c.facts, .un, .un, .un, .un] _
  have gr : good (.tup (c.rows.map tVals)) := part_good (rws_part c.rws)
  have gf := c.facts_good
  obtain ⟨r0, hr0⟩ : ∃ r0, c.rows[0]? = some r0 := ⟨c.rows[0]'(c.rws.z1), List.getElem?_eq_getElem c.rws.z1⟩
  have g0 : (c.rows.map tVals)[0]? = some (tVals r0) := by rw [List.getElem?_map, hr0]; rfl
  have gr0 : good (tVals r0) := good_el gr _ (List.mem_of_getElem? g0)
  walk_at "dl"
  refine ds_own (do_lst ?_) (by decide : 5 < 9) rfl
  refine da_cons ?_
  refine dw_callN rfl ?_
  walk_at "dl"
  refine ⟨_, rfl, gr, by decide, by decide, fun d1 hd1 => ?_⟩
  refine da_cons ?_
  refine dw_callN rfl ?_
  walk_at "dl"
  refine s_ixT (x := tVals r0) (at_k (k := 0) g0) ?_
  walk_at "dl"
  refine ⟨_, rfl, gr0, by decide, by decide, fun d2 hd2 => ?_⟩
  repeat (first | walk_at "dls" | refine ⟨Nat.le_of_ble_eq_true rfl, ?_⟩ | refine dw_of_do (do_lst ?_) | refine dw_of_do (do_cb rbo_list ?_))
  show DS _ 1797 [.pot, .dat (.lst c.names), .dat c.parts, .dat (.tup (c.rows.map tVals)), .dat c.facts, .own [d1, d2, c.facts, .lst [.tup (c.rows.map tVals)], .lst (c.rows.map tVals), .tup [], .non], .un, .un, .un] _
  have hS : ∀ d ∈ [d1, d2, c.facts, .lst [.tup (c.rows.map tVals)], .lst (c.rows.map tVals), .tup [], .non], good d := fun d hd => by
    simp only [List.mem_cons, List.not_mem_nil, or_false] at hd
    rcases hd with rfl | rfl | rfl | rfl | rfl | rfl | rfl
    · exact hd1
    · exact hd2
    · exact gf
    · exact good_at rfl rfl
    · exact good_at rfl rfl
    · exact good0
    · exact good_at rfl rfl
  have lS : [d1, d2, c.facts, .lst [.tup (c.rows.map tVals)], .lst (c.rows.map tVals), .tup [], .non].length = 7 := rfl
  generalize [d1, d2, c.facts, .lst [.tup (c.rows.map tVals)], .lst (c.rows.map tVals), .tup [], .non] = S at hS lS
  refine ds_append (i := 5) (ds := S) rfl ?_
  walk_at "dl"
  refine dw_of_do (do_map (ts := [8]) (fun d => .lst (unL d)) (di_tup ?_))
  walk_at "dl"
  refine ⟨by rw [List.length_map]; exact Nat.le_trans c.rws.z2 (by decide), fun x hx => ?_, ?_⟩
  · obtain ⟨r, _, rfl⟩ := List.mem_map.mp hx
    walk_at "dl"
    refine ⟨rfl, ?_⟩
    refine dw_of_do (do_cb rbo_list ?_)
    walk_at "dl"
    exact ⟨rfl, rfl⟩
  walk_at "dl"
  refine ⟨by rw [lS]; decide, ?_⟩
  have hS2 : ∀ d ∈ S ++ [PD.tup ((c.rows.map tVals).map fun d => PD.lst (unL d))], good d := fun d hd => by
    rcases List.mem_append.mp hd with hd | hd
    · exact hS d hd
    · rw [List.mem_singleton.mp hd]
      refine good_tup (by rw [List.length_map, List.length_map]; exact Nat.le_trans c.rws.z2 (by decide)) fun x hx => ?_
      obtain ⟨y, _, rfl⟩ := List.mem_map.mp hx
      exact good_at rfl rfl
  have lS2 : (S ++ [PD.tup ((c.rows.map tVals).map fun d => PD.lst (unL d))]).length = 8 := by
    rw [List.length_append, lS]
    rfl
  show DS _ 1797 [.pot, .dat (.lst c.names), .dat c.parts, .dat (.tup (c.rows.map tVals)), .dat c.facts, .own (S ++ [PD.tup ((c.rows.map tVals).map fun d => PD.lst (unL d))]), .un, .un, .un] _
  generalize S ++ [PD.tup ((c.rows.map tVals).map fun d => PD.lst (unL d))] = L0 at hS2 lS2
  walk_at "dl"
  refine ds_for (ts := [6]) (di_rng1 ?_)
  walk_at "dl"
  refine ⟨_, rfl, by decide, by decide, fun i nb δ => ∃ L : List PD, (∀ d ∈ L, good d) ∧ L.length = 8 + i ∧ nb = 1797 - 87 * i ∧ δ = [.pot, .dat (.lst c.names), .dat c.parts, .dat (.tup (c.rows.map tVals)), .dat c.facts, .own L, .un, .un, .un], ⟨L0, hS2, lS2, rfl, rfl⟩, ?_, ?_⟩
  · rintro i x nb δ1 hx ⟨L, hL, lL, rfl, rfl⟩
    have il := (List.getElem?_eq_some_iff.mp hx).1
    rw [rngL_len] at il
    have il : i < 10 := il
    walk_at "dl"
    refine ds_append (i := 5) (ds := L) rfl ?_
    refine dw_callN rfl ?_
    refine da_cons ?_
    refine dw_callN rfl ?_
    refine da_cons ?_
    refine dw_at ⟨.tup (c.rows.map tVals), rfl, ?_⟩
    refine da_nil ?_
    refine ⟨(c.m, c.rows), rfl, c.rws, by decide, by omega, fun d ⟨qs, e, l, w, _⟩ => ?_⟩
    subst e
    have hq : part (.tup (qs.map tVals)) := by
      refine .inr (.inr ⟨qs, ?_, fun r hr => ?_, rfl⟩)
      · have l : qs.length = c.rows.length := l
        have := c.rws.z2
        omega
      · have := w r hr
        have m3 := c.m3
        have e : r.length = c.m := this
        omega
    walk_at "dl"
    refine ⟨(.tup (qs.map tVals), 3), rfl, ⟨hq, (by decide : 3 < 4)⟩, by decide, by omega, fun d hd => ?_⟩
    refine ⟨by rw [lL]; exact Nat.lt_of_lt_of_le (show 8 + i < 18 by omega) (by decide), [.pot, .dat (.lst c.names), .dat c.parts, .dat (.tup (c.rows.map tVals)), .dat c.facts, .own (L ++ [d]), .un, .un, .un], ⟨.inl rfl, .inl rfl, .inl rfl, .inl rfl, .inl rfl, .inl rfl, .inr (.inl rfl), .inl rfl, .inl rfl, trivial⟩, L ++ [d], fun e he => ?_, by rw [List.length_append, lL]; rfl, by omega, rfl⟩
    rcases List.mem_append.mp he with he | he
    · exact hL e he
    · rw [List.mem_singleton.mp he]
      exact hd
  · rintro nb δ1 ⟨L, hL, lL, rfl, rfl⟩
    show DS (tSeq _ _) _ _ _
    refine ds_asDat ?_
    show DS _ _ [.pot, .dat (.lst c.names), .dat c.parts, .dat (.tup (c.rows.map tVals)), .dat c.facts, .dat (.lst L), .un, .un, .un] _
    generalize 1797 - 87 * _ = N
    walk_at "dl"
    refine ds_for (ts := [7]) (di_list ?_)
    walk_at "dl"
    refine ⟨fun i nb δ => nb = N ∧ δ = [.pot, .dat (.lst c.names), .dat c.parts, .dat (.tup (c.rows.map tVals)), .dat c.facts, .dat (.lst L), .un, .un, .un], ⟨rfl, rfl⟩, ?_, ?_⟩
    · rintro i x nb δ1 hx ⟨rfl, rfl⟩
      have hb := good_rows (hL x (List.mem_of_getElem? hx))
      walk_at "dl"
      refine dw_call ?_
      walk_at "dl"
      refine ⟨(c.m, c.names, c.cuts, c.rows, x), rfl, ⟨c.fo, c.names_pl, hb⟩, ?_⟩
      walk_at "dl"
      obtain ⟨b1, b2, b3, b4⟩ := shown_same (isCand c.m c.names c.cuts c.rows x)
      refine ⟨b1, b2, ?_⟩
      walk_at "dl"
      refine dw_call ?_
      walk_at "dl"
      refine ⟨(c, x), rfl, hb, ?_⟩
      walk_at "dl"
      refine ⟨b1, b2, ?_⟩
      refine s_ne b3 b3 ?_
      rw [b4]
      walk_at "dl"
      refine s_if (fun e => by cases e) fun _ => ?_
      walk_at "dl"
      exact ⟨[.pot, .dat (.lst c.names), .dat c.parts, .dat (.tup (c.rows.map tVals)), .dat c.facts, .dat (.lst L), .un, .un, .un], ⟨.inl rfl, .inl rfl, .inl rfl, .inl rfl, .inl rfl, .inl rfl, .inl rfl, .inr (.inl rfl), .inl rfl, trivial⟩, rfl, rfl⟩
    · rintro nb δ1 ⟨rfl, rfl⟩
      walk_at "dl"
      rfl
end
end

set_option Elab.async false
set_option linter.all false
set_option maxRecDepth 100000
section
open PySem PySem.Spec PyProof.Rows L2 ZK Pf
local macro_rules | `(tactic| walk_at "rd") => `(tactic| simp only [tC1, tCK, tB, rNe, rEq, tChain, gTupV, gCons, gNil, Nat.sub_self, Nat.reduceSub, List.replicate_zero, List.replicate_succ, tTest, tIfS, tIf, tNot, tAnd, tOr, tAndV, tOrV, tNotV, tDrop, tNext, rIxV, rIxP,
  gSub, rSetL, tSl, tPart, tNoPart, rSl1, tAsg2, ipI, tDNewK, tBM, rAppend, wipe, rAllB, rAnyB, iTup, iList, RZ.iZipA, iRng1, iRng2, tYes, upd_same, at0, at1, at2, at20, at21, ixN30, ixN32, HO.lst.injEq, HO.tup.injEq, Nat.reduceAdd, tSeq, tAsg, tPar, tAug, tOp, tVar, tC, tCB, tCons, tNil, rI, rI0, rU, tUn, gName, tRet, tLst, tLstM, tTup, L2.start, List.map_cons, List.map_nil, List.length_cons, List.length_nil, List.replicate, List.cons_append,
  List.nil_append, List.set_cons_zero, List.set_cons_succ, List.getElem?_cons_zero, List.getElem?_cons_succ, Option.some.injEq, V.int.injEq, V.ref.injEq, V.bl.injEq, V.str.injEq, List.cons.injEq, exists_eq_left', exists_eq_left, exists_and_left, exists_and_right, and_true, true_and, reduceCtorEq, false_and,
  exists_false, or_false, false_or, exists_const, exists_eq, exists_eq', Bool.not_true, Bool.not_false, Bool.false_eq_true, if_true, if_false, ite_true, ite_false])
section
variable {base : Heap} {P : Program} {w : World} {mg : Str → Option Value} {K : PySem.W.Frag}
theorem cond_use {tt : TT} {n : Nat} {p : Addr} {s0 s1 s3 : Option V} {H : Hp} {Q : Bool → Hp → Prop} (hc : DT tt n [.un, .un, .pot, .un] fun _ k => k = false) (hp : Pot H p 0) (hn : n < 1000000) (h0 : 0 < n)
    (q : ∀ H', (∀ b o, b ≠ p → H b = some o → H' b = some o) → Q false H') : tt [s0, s1, some (.ref p), s3] H Q := by
  have no : ∀ (i : Nat) (ds : List PD), [SD.un, .un, .pot, .un][i]? ≠ some (SD.own ds) := fun i ds e => by
    rcases i with _ | _ | _ | _ | i <;> cases e
  have nd : ∀ (i : Nat) (d : PD), [SD.un, .un, .pot, .un][i]? ≠ some (SD.dat d) := fun i ds e => by
    rcases i with _ | _ | _ | _ | i <;> cases e
  have pn : Mu H p := by
    obtain ⟨a, b, c, h, _⟩ := hp
    exact ⟨_, h, fun _ z => by cases z⟩
  refine hc ⟨fun b => b = p, p, H, n, n⟩ _ H (fun _ => 0) ⟨rfl, fun i d e => absurd e (nd i d), fun i ds e => absurd e (no i ds), fun i j ds es e => absurd e (no i ds), fun i e => ?_, fun b e => (by cases e; exact pn), fun _ _ e _ => e, fun _ => ⟨rfl, 0, hp, Nat.le_of_eq (Nat.zero_add n)⟩, Nat.le_refl _, hn⟩ _ fun k H' n' e R c => ?_
  · rcases i with _ | _ | _ | _ | i <;> first | rfl | cases e
  · have e : k = false := e
    subst e
    exact q H' fun b o np h => c.2 b o h (.inl np)
def sp_law (K : PySem.W.Frag) : Sp := fun vs H Q _ => ∃ (a : Addr) (ns : List Int), vs = [.ref a] ∧ SqL K H a (ns.map V.int) ∧ ns.length ≤ 63 ∧ ∀ H', Q (.bl true) H'
theorem seqL_stay {p a : Addr} {H H' : Hp} {xs : List V} (k : ∀ b o, b ≠ p → H b = some o → H' b = some o) (n : ∀ o, H p ≠ some o) (h : SqL K H a xs) : SqL K H' a xs := by
  rcases h with (h | ⟨o, h⟩) | h
  · exact .inl (.inl (k _ _ (fun e => n _ (e ▸ h)) h))
  · exact .inl (.inr ⟨o, k _ _ (fun e => n _ (e ▸ h)) h⟩)
  · exact .inr h
theorem law_shape {ti : TI} {tp : TE} {tt : TT} {D : Ends} {H : Hp} {a : Addr} {ns : List Int} {n : Nat} (hS : SqL K H a (ns.map V.int)) (hn : n < 1000000) (h0 : 0 < n)
    (hi : ∀ R : It → Hp → Prop, (∀ m, m ≤ 3 → R (Itr 0 m) H) → ti [some (.ref a), none, none, none] H R)
    (hpot : ∀ (t2 t3 : Option V) (i : Nat) (H0 : Hp) (Q : VK), i < 3 → SqL K H0 a (ns.map V.int) → (∀ H' p, Same H0 H' → H0 p = none → Pot H' p 0 → Q (.ref p) H') → tp [some (.ref a), some (.int i), t2, t3] H0 Q)
    (cond : DT tt n [.un, .un, .pot, .un] fun _ k => k = false) (q : ∀ H', D.rt (.bl true) H') :
    tSeq (tFor ti (gName 1) (tSeq (tAsg tp (gName 2)) (tIfS tt (tRet (tC (.bl false))) tNext))) (tRet (tC (.bl true))) D [some (.ref a), none, none, none] H := by
  refine hi _ fun m hm => for_range (lo := 0) (fun i σ H' => ∃ t1 t2 t3 : Option V, σ = [some (.ref a), t1, t2, t3] ∧ SqL K H' a (ns.map V.int)) ⟨none, none, none, rfl, hS⟩ ?_ ?_
  · rintro i σ H0 hi ⟨t1, t2, t3, rfl, s0⟩
    show tp [some (.ref a), some (.int (0 + (i : Int))), t2, t3] H0 _
    rw [Int.zero_add]
    refine hpot _ _ i H0 _ (by omega) s0 fun H1 p sm np pot => ?_
    show tt [some (.ref a), some (.int i), some (.ref p), t3] H1 _
    refine cond_use cond pot hn h0 fun H2 st => ?_
    show ∃ t1 t2 t3 : Option V, _
    refine ⟨_, _, _, rfl, ?_⟩
    have st2 : ∀ b o, b ≠ p → H0 b = some o → H2 b = some o := fun b o nb e => st b o nb (sm b o e)
    exact seqL_stay st2 (fun o e => by rw [np] at e; cases e) s0
  · rintro σ H0 ⟨t1, t2, t3, rfl, s0⟩
    exact q _
theorem ok_law {f : Addr} {fd : FuncData} (F : Fun K "law" "law" s_law f fd) (T : Txt mg) (C__law_pot : Pf.Cal P w K mg base 1 "_law_pot" (sp_pot K)) (C__law_right : Pf.Cal P w K mg base 9 "_law_right" spRight) : Pf.FnG P w K mg base 10 f fd ["_law_script"] (sp_law K) := by
  refine Pf.okG F sc_law (fun vs H Q E h => ?_) (fun cdv A0 outer s H vs Q E hg hr h => ?_)
  · obtain ⟨a, ns, rfl, _⟩ := h
    rfl
  · obtain ⟨a, ns, rfl, hS, hl, q⟩ := h
    replace hr := And.intro hg hr
    refine ⟨_, (pss_cons (ps_for PassesOwn.never rfl (pi_range1 (by rfl) T.b_range (pa_cons (pe_callB (call_max2 rfl) (by rfl) T.b_max (by decide +kernel) (pa_cons pe_int (pa_cons (pe_callB (call_min2 rfl) (by rfl) T.b_min (by decide +kernel) (pa_cons pe_int (pa_cons (pe_callB call_len_seq (by rfl) T.b_len (by decide +kernel) (pa_cons (pv 0) pa_nil)) pa_nil))) pa_nil))) pa_nil)) (pg_name (i := 1) sc_law.nd rfl (Or.inl rfl)) (pss_cons (ps_set (i := 2) sc_law.nd rfl (Or.inr rfl) (Pf.pe_c C__law_pot hr (by decide) (by rfl) (pa_cons (pv 0) (pa_cons (pv 1) pa_nil))))
        (pss_one (ps_if (pt_not (pt_val (pe_callB (cr_all rfl) (by rfl) T.b_all (by decide +kernel) (pa_cons (pe_lc (own := [("_law_turn", 3)]) (g := gName 3) (tt := tYes) rfl sc_law.nd (pi_range1 (by rfl) T.b_range (pa_cons pe_int pa_nil)) (blkOk_by (own := [("_law_turn", 3)]) (N := ["_law_script", "_law_k", "_law_pot_here", "_law_turn"]) (sc := defScope s_law) (by decide +kernel)) (fun _ _ _ _ _ => (pg_name (i := 3) sc_law.nd rfl (Or.inl rfl))) (fun _ _ _ _ _ => pts_nil) (fun _ _ _ _ _ => (Pf.pe_c C__law_right hr (by decide) (by rfl) (pa_cons (pv 2) pa_nil)))) pa_nil)))) (pss_one (ps_ret pe_bl)) pss_nil))))
        (pss_one (ps_ret pe_bl))), ?_⟩
    refine law_shape (n := 5000) hS (by decide) (by decide) (fun R hR => ?_) (fun t2 t3 i H0 Q hi s0 k => ?_) ?_ q
    · walk_at "rd"
      have least : ∀ L : Int, 0 ≤ L → 0 ≤ (if (if L < 3 then L else 3) > 1 then (if L < 3 then L else 3) else 1) ∧ (if (if L < 3 then L else 3) > 1 then (if L < 3 then L else 3) else 1) ≤ 3 := fun L h => by
        split <;> split <;> omega
      obtain ⟨b1, b2⟩ := least ((ns.map V.int).length : Nat) (by omega)
      refine ⟨ns.map V.int, .inl hS, 3, _, ⟨rfl, rfl⟩, 1, _, ⟨rfl, rfl⟩, ?_, ?_, hR _ ?_⟩
      · exact Int.le_trans (by decide) b1
      · exact Int.lt_of_le_of_lt b2 (by decide)
      · exact Int.toNat_le_toNat b2
    · walk_at "rd"
      exact ⟨a, ns, i, rfl, s0, hl, by omega, k⟩
    · walk_at "dl"
      refine dw_of_do (do_draw (ts := [3]) 2000 (fun _ y => y = .bl true) (di_rng1 ?_))
      walk_at "dl"
      refine ⟨_, rfl, by decide, by decide, ?_⟩
      refine ⟨(by decide : 2 ≤ sizeLine), (by decide : 2 * 2000 ≤ 5000), fun x hx nb b1 => ?_, fun ys ey => ?_⟩
      · walk_at "dl"
        refine ⟨rfl, ?_⟩
        walk_at "dl"
        refine dw_callN rfl ?_
        walk_at "dl"
        exact ⟨(), rfl, trivial, by decide, b1, fun d h => ⟨rfl, h⟩⟩
      · have hy : ys = (List.replicate 2 true).map .bl := by
          have l : ys.length = 2 := ey.len.symm
          have h : ∀ d ∈ ys, d = .bl true := fun d hd => by
            obtain ⟨x, _, e⟩ := ey.mem hd
            exact e
          rw [List.map_replicate]
          exact List.eq_replicate_iff.mpr ⟨l, h⟩
        subst hy
        walk_at "dl"
        exact ⟨List.replicate 2 true, rfl, true, rfl, rfl⟩
end
end

set_option Elab.async false
set_option linter.all false
set_option maxRecDepth 100000
section
open PySem PySem.Spec PyProof.Rows L2 ZK Pf
section
variable {base : Heap} {P : Program} {w : World} {mg : Str → Option Value} {K : PySem.W.Frag}
theorem all_ok {f : Addr} {fd : FuncData} (T : Txt mg) (F : Fun K "law" "law" s_law f fd)
    {f0 : Addr} {fd0 : FuncData} (F0 : Fun K "is_number" "is_number" s_is_number f0 fd0) (b0 : Binds K fd0 ["value"] []) (m0 : mg "is_number" = some (.ref f0))
    {f1 : Addr} {fd1 : FuncData} (F1 : Fun K "is_between" "is_between" s_is_between f1 fd1) (b1 : Binds K fd1 ["value", "low", "high"] []) (m1 : mg "is_between" = some (.ref f1))
    {f2 : Addr} {fd2 : FuncData} (F2 : Fun K "is_value" "is_value" s_is_value f2 fd2) (b2 : Binds K fd2 ["value"] []) (m2 : mg "is_value" = some (.ref f2))
    {f3 : Addr} {fd3 : FuncData} (F3 : Fun K "is_row" "is_row" s_is_row f3 fd3) (b3 : Binds K fd3 ["value", "many"] []) (m3 : mg "is_row" = some (.ref f3))
    {f4 : Addr} {fd4 : FuncData} (F4 : Fun K "place_of" "place_of" s_place_of f4 fd4) (b4 : Binds K fd4 ["cuts", "value"] []) (m4 : mg "place_of" = some (.ref f4))
    {f5 : Addr} {fd5 : FuncData} (F5 : Fun K "facts_of" "facts_of" s_facts_of f5 fd5) (b5 : Binds K fd5 ["columns", "cuts", "rows"] []) (m5 : mg "facts_of" = some (.ref f5))
    {f6 : Addr} {fd6 : FuncData} (F6 : Fun K "names_in" "names_in" s_names_in f6 fd6) (b6 : Binds K fd6 ["facts"] []) (m6 : mg "names_in" = some (.ref f6))
    {f7 : Addr} {fd7 : FuncData} (F7 : Fun K "column_facts" "column_facts" s_column_facts f7 fd7) (b7 : Binds K fd7 ["column", "points", "values"] []) (m7 : mg "column_facts" = some (.ref f7))
    {f8 : Addr} {fd8 : FuncData} (F8 : Fun K "shows_candidate" "shows_candidate" s_shows_candidate f8 fd8) (b8 : Binds K fd8 ["facts", "value"] []) (m8 : mg "shows_candidate" = some (.ref f8))
    {f9 : Addr} {fd9 : FuncData} (F9 : Fun K "_law_pot" "_law_pot" s__law_pot f9 fd9) (b9 : Binds K fd9 ["_law_script", "_law_k"] []) (m9 : mg "_law_pot" = some (.ref f9))
    {f10 : Addr} {fd10 : FuncData} (F10 : Fun K "_law_draw" "_law_draw" s__law_draw f10 fd10) (b10 : Binds K fd10 ["_law_pot_here", "_law_many"] []) (m10 : mg "_law_draw" = some (.ref f10))
    {f11 : Addr} {fd11 : FuncData} (F11 : Fun K "_law_any" "_law_any" s__law_any f11 fd11) (b11 : Binds K fd11 ["_law_pot_here", "_law_items"] []) (m11 : mg "_law_any" = some (.ref f11))
    {f12 : Addr} {fd12 : FuncData} (F12 : Fun K "_law_mixed" "_law_mixed" s__law_mixed f12 fd12) (b12 : Binds K fd12 ["_law_pot_here", "_law_items"] []) (m12 : mg "_law_mixed" = some (.ref f12))
    {f13 : Addr} {fd13 : FuncData} (F13 : Fun K "_law_names" "_law_names" s__law_names f13 fd13) (b13 : Binds K fd13 ["_law_pot_here", "_law_many"] []) (m13 : mg "_law_names" = some (.ref f13))
    {f14 : Addr} {fd14 : FuncData} (F14 : Fun K "_law_part" "_law_part" s__law_part f14 fd14) (b14 : Binds K fd14 ["_law_pot_here", "_law_size", "_law_spread"] []) (m14 : mg "_law_part" = some (.ref f14))
    {f15 : Addr} {fd15 : FuncData} (F15 : Fun K "_law_column_facts" "_law_column_facts" s__law_column_facts f15 fd15) (b15 : Binds K fd15 ["_law_column", "_law_cuts", "_law_values"] []) (m15 : mg "_law_column_facts" = some (.ref f15))
    {f16 : Addr} {fd16 : FuncData} (F16 : Fun K "_law_facts_of" "_law_facts_of" s__law_facts_of f16 fd16) (b16 : Binds K fd16 ["_law_names_here", "_law_parts", "_law_rows"] []) (m16 : mg "_law_facts_of" = some (.ref f16))
    {f17 : Addr} {fd17 : FuncData} (F17 : Fun K "_law_rows_of" "_law_rows_of" s__law_rows_of f17 fd17) (b17 : Binds K fd17 ["_law_parts", "_law_size"] []) (m17 : mg "_law_rows_of" = some (.ref f17))
    {f18 : Addr} {fd18 : FuncData} (F18 : Fun K "_law_case" "_law_case" s__law_case f18 fd18) (b18 : Binds K fd18 ["_law_pot_here", "_law_most", "_law_spread"] []) (m18 : mg "_law_case" = some (.ref f18))
    {f19 : Addr} {fd19 : FuncData} (F19 : Fun K "_law_is_value" "_law_is_value" s__law_is_value f19 fd19) (b19 : Binds K fd19 ["_law_value"] []) (m19 : mg "_law_is_value" = some (.ref f19))
    {f20 : Addr} {fd20 : FuncData} (F20 : Fun K "_law_are_rows" "_law_are_rows" s__law_are_rows f20 fd20) (b20 : Binds K fd20 ["_law_value", "_law_size", "_law_width"] []) (m20 : mg "_law_are_rows" = some (.ref f20))
    {f21 : Addr} {fd21 : FuncData} (F21 : Fun K "_law_is_candidate" "_law_is_candidate" s__law_is_candidate f21 fd21) (b21 : Binds K fd21 ["_law_names_here", "_law_parts", "_law_facts", "_law_value"] []) (m21 : mg "_law_is_candidate" = some (.ref f21))
    {f22 : Addr} {fd22 : FuncData} (F22 : Fun K "_law_mixed_columns" "_law_mixed_columns" s__law_mixed_columns f22 fd22) (b22 : Binds K fd22 ["_law_pot_here", "_law_rows"] []) (m22 : mg "_law_mixed_columns" = some (.ref f22))
    {f23 : Addr} {fd23 : FuncData} (F23 : Fun K "_law_odd" "_law_odd" s__law_odd f23 fd23) (b23 : Binds K fd23 ["_law_pot_here", "_law_value"] []) (m23 : mg "_law_odd" = some (.ref f23))
    {f24 : Addr} {fd24 : FuncData} (F24 : Fun K "_law_changed" "_law_changed" s__law_changed f24 fd24) (b24 : Binds K fd24 ["_law_pot_here", "_law_value", "_law_deep"] []) (m24 : mg "_law_changed" = some (.ref f24))
    {f25 : Addr} {fd25 : FuncData} (F25 : Fun K "_law_right" "_law_right" s__law_right f25 fd25) (b25 : Binds K fd25 ["_law_pot_here"] []) (m25 : mg "_law_right" = some (.ref f25)) :
    FnG P w K mg base 10 f fd ["_law_script"] (sp_law K) := by
  have C_is_number : Cal P w K mg base 1 "is_number" (SpT a1 pBase fun d => .bl (isNum d)) := ⟨_, _, _, ok_is_number F0 T, m0, F0.kp, b0⟩
  have C_is_between : Cal P w K mg base 2 "is_between" (SpT aBetw (fun x => pBase x.1) fun x => .bl (betw x.1 x.2.1 x.2.2)) := ⟨_, _, _, ok_is_between F1 T C_is_number, m1, F1.kp, b1⟩
  have C_is_value : Cal P w K mg base 3 "is_value" (SpT a1 pBase fun d => .bl (isVal d)) := ⟨_, _, _, ok_is_value F2 T C_is_between, m2, F2.kp, b2⟩
  have C_place_of : Cal P w K mg base 1 "place_of" (SpT aPlace (fun x => pFew x.1) fun x => .int (placeOf x.1 x.2)) := ⟨_, _, _, ok_place_of F4 T, m4, F4.kp, b4⟩
  have C_column_facts : Cal P w K mg base 2 "column_facts" (SpT aCol pCol fun x => colFacts x.1 x.2.1 x.2.2) := ⟨_, _, _, ok_column_facts F7 T C_place_of, m7, F7.kp, b7⟩
  have C_facts_of : ∀ m, Cal P w K mg base 3 "facts_of" (SpT aFo (pFo m) fun x => factsOf m x.1 x.2.1 x.2.2) := fun m => ⟨_, _, _, ok_facts_of F5 T C_column_facts, m5, F5.kp, b5⟩
  have C_names_in : Cal P w K mg base 1 "names_in" (SpT aFac pFac fun x => .lst (x.2.map fun c => c.1)) := ⟨_, _, _, ok_names_in F6 T, m6, F6.kp, b6⟩
  have C_is_row : Cal P w K mg base 4 "is_row" (SpT aRow (fun x => bRow x.1) fun x => .bl (isRow x.2 x.1)) := ⟨_, _, _, ok_is_row F3 T C_is_value, m3, F3.kp, b3⟩
  have C_shows_candidate : Cal P w K mg base 5 "shows_candidate" spSc := ⟨_, _, _, sig (fun m => ok_shows_candidate (m := m) F8 T C_is_row C_names_in (C_facts_of m)) 0, m8, F8.kp, b8⟩
  have C__law_pot : Cal P w K mg base 1 "_law_pot" (sp_pot K) := ⟨_, _, _, ok_pot F9 T, m9, F9.kp, b9⟩
  have C__law_draw : CDraw P w K mg base := ⟨_, _, _, ok_drawN F10 T, m10, F10.kp, b10⟩
  have C__law_any : CAny P w K mg base := ⟨_, _, _, ok_any F11 T C__law_draw, m11, F11.kp, b11⟩
  have C__law_mixed : CMixed P w K mg base := ⟨_, _, _, ok_mixed F12 T C__law_draw, m12, F12.kp, b12⟩
  have C__law_names : CNames P w K mg base := ⟨_, _, _, ok_names F13 T C__law_mixed, m13, F13.kp, b13⟩
  have C__law_part : CPart P w K mg base := ⟨_, _, _, ok_part F14 T C__law_draw C__law_any, m14, F14.kp, b14⟩
  have C__law_column_facts : CLcf P w K mg base := ⟨_, _, _, ok_lcf F15 T, m15, F15.kp, b15⟩
  have C__law_facts_of : CLfa P w K mg base := ⟨_, _, _, sig (fun m => ok_lfacts (m := m) F16 T C__law_column_facts) 0, m16, F16.kp, b16⟩
  have C__law_rows_of : CRof P w K mg base := ⟨_, _, _, ok_rows_of F17 T, m17, F17.kp, b17⟩
  have C__law_case : CCase P w K mg base := ⟨_, _, _, ok_case F18 T C__law_draw C__law_names C__law_part C__law_rows_of C__law_facts_of, m18, F18.kp, b18⟩
  have C__law_is_value : Cal P w K mg base 1 "_law_is_value" (SpT a1 pBase fun d => .bl (isVal d)) := ⟨_, _, _, ok_lvalue F19 T, m19, F19.kp, b19⟩
  have C__law_are_rows : Cal P w K mg base 2 "_law_are_rows" spAre := ⟨_, _, _, ok_lrows F20 T C__law_is_value, m20, F20.kp, b20⟩
  have C__law_is_candidate : Cal P w K mg base 3 "_law_is_candidate" spIc := ⟨_, _, _, ok_iscand F21 T C__law_are_rows C__law_facts_of, m21, F21.kp, b21⟩
  have C__law_mixed_columns : CMc P w K mg base := ⟨_, _, _, ok_mixcol F22 T C__law_mixed, m22, F22.kp, b22⟩
  have C__law_odd : COdd P w K mg base := ⟨_, _, _, ok_odd F23 T C__law_any, m23, F23.kp, b23⟩
  have C0 : Cal P w K mg base 4 "_law_changed" (spCh 0) := ⟨_, _, _, ok_changed0, m24, F24.kp, b24⟩
  have C1 : Cal P w K mg base 5 "_law_changed" (spCh 1) := ⟨_, _, _, ok_changed1 F24 T C__law_draw C__law_odd C0, m24, F24.kp, b24⟩
  have C2 : Cal P w K mg base 6 "_law_changed" (spCh 2) := ⟨_, _, _, ok_changed2 F24 T C__law_draw C__law_odd C1, m24, F24.kp, b24⟩
  have C3 : Cal P w K mg base 7 "_law_changed" (spCh 3) := ⟨_, _, _, ok_changed3 F24 T C__law_draw C__law_odd C2, m24, F24.kp, b24⟩
  have C4 : Cal P w K mg base 8 "_law_changed" (spCh 4) := ⟨_, _, _, ok_changed4 F24 T C__law_draw C__law_odd C3, m24, F24.kp, b24⟩
  have C__law_right : Cal P w K mg base 9 "_law_right" spRight := ⟨_, _, _, ok_right F25 T C__law_any C__law_case C__law_mixed_columns C__law_odd C4 C_shows_candidate C__law_is_candidate, m25, F25.kp, b25⟩
  exact ok_law F T C__law_pot C__law_right
end
theorem all_mk {l : PySem.W.OpenLaw} {w : World} {K : PySem.W.Frag} {h : Heap} {mg : Str → Option Value} {fa f0 f1 f2 f3 f4 f5 f6 f7 f8 f9 f10 f11 f12 f13 f14 f15 f16 f17 f18 f19 f20 f21 f22 f23 f24 f25 f26 : Addr} (X : K.In h) (G : h.Ns mainGlobals mg) (hfa : mg "law" = some (.ref fa))
    {od0 an0 od1 an1 od2 an2 od3 an3 od4 an4 od5 an5 od6 an6 od7 an7 od8 an8 od9 an9 od10 an10 od11 an11 od12 an12 od13 an13 od14 an14 od15 an15 od16 an16 od17 an17 od18 an18 od19 an19 od20 an20 od21 an21 od22 an22 od23 an23 od24 an24 od25 an25 od26 an26 : Option Addr} {sl0 sl1 sl2 sl3 sl4 sl5 sl6 sl7 sl8 sl9 sl10 sl11 sl12 sl13 sl14 sl15 sl16 sl17 sl18 sl19 sl20 sl21 sl22 sl23 sl24 sl25 sl26 : Array (Option Value)} {oc0 kV0 dc0 pm0 cd0 ct0 oc1 kV1 dc1 pm1 cd1 ct1 oc2 kV2 dc2 pm2 cd2 ct2 oc3 kV3 dc3 pm3 cd3 ct3 oc4 kV4 dc4 pm4 cd4 ct4 oc5 kV5 dc5 pm5 cd5 ct5 oc6 kV6 dc6 pm6 cd6 ct6 oc7 kV7 dc7 pm7 cd7 ct7 oc8 kV8 dc8 pm8 cd8 ct8 oc9 kV9 dc9 pm9 cd9 ct9 oc10 kV10 dc10 pm10 cd10 ct10 oc11 kV11 dc11 pm11 cd11 ct11 oc12 kV12 dc12 pm12 cd12 ct12 oc13 kV13 dc13 pm13 cd13 ct13 oc14 kV14 dc14 pm14 cd14 ct14 oc15 kV15 dc15 pm15 cd15 ct15 oc16 kV16 dc16 pm16 cd16 ct16 oc17 kV17 dc17 pm17 cd17 ct17 oc18 kV18 dc18 pm18 cd18 ct18 oc19 kV19 dc19 pm19 cd19 ct19 oc20 kV20 dc20 pm20 cd20 ct20 oc21 kV21 dc21 pm21 cd21 ct21 oc22 kV22 dc22 pm22 cd22 ct22 oc23 kV23 dc23 pm23 cd23 ct23 oc24 kV24 dc24 pm24 cd24 ct24 oc25 kV25 dc25 pm25 cd25 ct25 oc26 kV26 dc26 pm26 cd26 ct26 : Value} {tk_LOWEST : Tok} {tk_HIGHEST : Tok}
    (a0 : PySem.W.nsIn K mainGlobals "is_number" = some (some (.ref f0))) (l0 : K.lookup f0 = some ⟨oc0, od0, .func (PySem.W.fnOf "is_number" "is_number" (defArgs s_is_number) (defBody s_is_number) (defScope s_is_number) .none kV0 dc0 pm0 an0 cd0 ct0), sl0⟩) (c0 : PySem.W.codeIn K cd0 "is_number" = true) (k0 : PySem.W.keepIn K (.ref f0) = true)
    (a1 : PySem.W.nsIn K mainGlobals "is_between" = some (some (.ref f1))) (l1 : K.lookup f1 = some ⟨oc1, od1, .func (PySem.W.fnOf "is_between" "is_between" (defArgs s_is_between) (defBody s_is_between) (defScope s_is_between) .none kV1 dc1 pm1 an1 cd1 ct1), sl1⟩) (c1 : PySem.W.codeIn K cd1 "is_between" = true) (k1 : PySem.W.keepIn K (.ref f1) = true)
    (a2 : PySem.W.nsIn K mainGlobals "is_value" = some (some (.ref f2))) (l2 : K.lookup f2 = some ⟨oc2, od2, .func (PySem.W.fnOf "is_value" "is_value" (defArgs s_is_value) (defBody s_is_value) (defScope s_is_value) .none kV2 dc2 pm2 an2 cd2 ct2), sl2⟩) (c2 : PySem.W.codeIn K cd2 "is_value" = true) (k2 : PySem.W.keepIn K (.ref f2) = true)
    (a3 : PySem.W.nsIn K mainGlobals "is_row" = some (some (.ref f3))) (l3 : K.lookup f3 = some ⟨oc3, od3, .func (PySem.W.fnOf "is_row" "is_row" (defArgs s_is_row) (defBody s_is_row) (defScope s_is_row) .none kV3 dc3 pm3 an3 cd3 ct3), sl3⟩) (c3 : PySem.W.codeIn K cd3 "is_row" = true) (k3 : PySem.W.keepIn K (.ref f3) = true)
    (a4 : PySem.W.nsIn K mainGlobals "place_of" = some (some (.ref f4))) (l4 : K.lookup f4 = some ⟨oc4, od4, .func (PySem.W.fnOf "place_of" "place_of" (defArgs s_place_of) (defBody s_place_of) (defScope s_place_of) .none kV4 dc4 pm4 an4 cd4 ct4), sl4⟩) (c4 : PySem.W.codeIn K cd4 "place_of" = true) (k4 : PySem.W.keepIn K (.ref f4) = true)
    (a5 : PySem.W.nsIn K mainGlobals "facts_of" = some (some (.ref f5))) (l5 : K.lookup f5 = some ⟨oc5, od5, .func (PySem.W.fnOf "facts_of" "facts_of" (defArgs s_facts_of) (defBody s_facts_of) (defScope s_facts_of) .none kV5 dc5 pm5 an5 cd5 ct5), sl5⟩) (c5 : PySem.W.codeIn K cd5 "facts_of" = true) (k5 : PySem.W.keepIn K (.ref f5) = true)
    (a6 : PySem.W.nsIn K mainGlobals "names_in" = some (some (.ref f6))) (l6 : K.lookup f6 = some ⟨oc6, od6, .func (PySem.W.fnOf "names_in" "names_in" (defArgs s_names_in) (defBody s_names_in) (defScope s_names_in) .none kV6 dc6 pm6 an6 cd6 ct6), sl6⟩) (c6 : PySem.W.codeIn K cd6 "names_in" = true) (k6 : PySem.W.keepIn K (.ref f6) = true)
    (a7 : PySem.W.nsIn K mainGlobals "column_facts" = some (some (.ref f7))) (l7 : K.lookup f7 = some ⟨oc7, od7, .func (PySem.W.fnOf "column_facts" "column_facts" (defArgs s_column_facts) (defBody s_column_facts) (defScope s_column_facts) .none kV7 dc7 pm7 an7 cd7 ct7), sl7⟩) (c7 : PySem.W.codeIn K cd7 "column_facts" = true) (k7 : PySem.W.keepIn K (.ref f7) = true)
    (a8 : PySem.W.nsIn K mainGlobals "shows_candidate" = some (some (.ref f8))) (l8 : K.lookup f8 = some ⟨oc8, od8, .func (PySem.W.fnOf "shows_candidate" "shows_candidate" (defArgs s_shows_candidate) (defBody s_shows_candidate) (defScope s_shows_candidate) .none kV8 dc8 pm8 an8 cd8 ct8), sl8⟩) (c8 : PySem.W.codeIn K cd8 "shows_candidate" = true) (k8 : PySem.W.keepIn K (.ref f8) = true)
    (a9 : PySem.W.nsIn K mainGlobals "_law_pot" = some (some (.ref f9))) (l9 : K.lookup f9 = some ⟨oc9, od9, .func (PySem.W.fnOf "_law_pot" "_law_pot" (defArgs s__law_pot) (defBody s__law_pot) (defScope s__law_pot) .none kV9 dc9 pm9 an9 cd9 ct9), sl9⟩) (c9 : PySem.W.codeIn K cd9 "_law_pot" = true) (k9 : PySem.W.keepIn K (.ref f9) = true)
    (a10 : PySem.W.nsIn K mainGlobals "_law_draw" = some (some (.ref f10))) (l10 : K.lookup f10 = some ⟨oc10, od10, .func (PySem.W.fnOf "_law_draw" "_law_draw" (defArgs s__law_draw) (defBody s__law_draw) (defScope s__law_draw) .none kV10 dc10 pm10 an10 cd10 ct10), sl10⟩) (c10 : PySem.W.codeIn K cd10 "_law_draw" = true) (k10 : PySem.W.keepIn K (.ref f10) = true)
    (a11 : PySem.W.nsIn K mainGlobals "_law_any" = some (some (.ref f11))) (l11 : K.lookup f11 = some ⟨oc11, od11, .func (PySem.W.fnOf "_law_any" "_law_any" (defArgs s__law_any) (defBody s__law_any) (defScope s__law_any) .none kV11 dc11 pm11 an11 cd11 ct11), sl11⟩) (c11 : PySem.W.codeIn K cd11 "_law_any" = true) (k11 : PySem.W.keepIn K (.ref f11) = true)
    (a12 : PySem.W.nsIn K mainGlobals "_law_mixed" = some (some (.ref f12))) (l12 : K.lookup f12 = some ⟨oc12, od12, .func (PySem.W.fnOf "_law_mixed" "_law_mixed" (defArgs s__law_mixed) (defBody s__law_mixed) (defScope s__law_mixed) .none kV12 dc12 pm12 an12 cd12 ct12), sl12⟩) (c12 : PySem.W.codeIn K cd12 "_law_mixed" = true) (k12 : PySem.W.keepIn K (.ref f12) = true)
    (a13 : PySem.W.nsIn K mainGlobals "_law_names" = some (some (.ref f13))) (l13 : K.lookup f13 = some ⟨oc13, od13, .func (PySem.W.fnOf "_law_names" "_law_names" (defArgs s__law_names) (defBody s__law_names) (defScope s__law_names) .none kV13 dc13 pm13 an13 cd13 ct13), sl13⟩) (c13 : PySem.W.codeIn K cd13 "_law_names" = true) (k13 : PySem.W.keepIn K (.ref f13) = true)
    (a14 : PySem.W.nsIn K mainGlobals "_law_part" = some (some (.ref f14))) (l14 : K.lookup f14 = some ⟨oc14, od14, .func (PySem.W.fnOf "_law_part" "_law_part" (defArgs s__law_part) (defBody s__law_part) (defScope s__law_part) .none kV14 dc14 pm14 an14 cd14 ct14), sl14⟩) (c14 : PySem.W.codeIn K cd14 "_law_part" = true) (k14 : PySem.W.keepIn K (.ref f14) = true)
    (a15 : PySem.W.nsIn K mainGlobals "_law_column_facts" = some (some (.ref f15))) (l15 : K.lookup f15 = some ⟨oc15, od15, .func (PySem.W.fnOf "_law_column_facts" "_law_column_facts" (defArgs s__law_column_facts) (defBody s__law_column_facts) (defScope s__law_column_facts) .none kV15 dc15 pm15 an15 cd15 ct15), sl15⟩) (c15 : PySem.W.codeIn K cd15 "_law_column_facts" = true) (k15 : PySem.W.keepIn K (.ref f15) = true)
    (a16 : PySem.W.nsIn K mainGlobals "_law_facts_of" = some (some (.ref f16))) (l16 : K.lookup f16 = some ⟨oc16, od16, .func (PySem.W.fnOf "_law_facts_of" "_law_facts_of" (defArgs s__law_facts_of) (defBody s__law_facts_of) (defScope s__law_facts_of) .none kV16 dc16 pm16 an16 cd16 ct16), sl16⟩) (c16 : PySem.W.codeIn K cd16 "_law_facts_of" = true) (k16 : PySem.W.keepIn K (.ref f16) = true)
    (a17 : PySem.W.nsIn K mainGlobals "_law_rows_of" = some (some (.ref f17))) (l17 : K.lookup f17 = some ⟨oc17, od17, .func (PySem.W.fnOf "_law_rows_of" "_law_rows_of" (defArgs s__law_rows_of) (defBody s__law_rows_of) (defScope s__law_rows_of) .none kV17 dc17 pm17 an17 cd17 ct17), sl17⟩) (c17 : PySem.W.codeIn K cd17 "_law_rows_of" = true) (k17 : PySem.W.keepIn K (.ref f17) = true)
    (a18 : PySem.W.nsIn K mainGlobals "_law_case" = some (some (.ref f18))) (l18 : K.lookup f18 = some ⟨oc18, od18, .func (PySem.W.fnOf "_law_case" "_law_case" (defArgs s__law_case) (defBody s__law_case) (defScope s__law_case) .none kV18 dc18 pm18 an18 cd18 ct18), sl18⟩) (c18 : PySem.W.codeIn K cd18 "_law_case" = true) (k18 : PySem.W.keepIn K (.ref f18) = true)
    (a19 : PySem.W.nsIn K mainGlobals "_law_is_value" = some (some (.ref f19))) (l19 : K.lookup f19 = some ⟨oc19, od19, .func (PySem.W.fnOf "_law_is_value" "_law_is_value" (defArgs s__law_is_value) (defBody s__law_is_value) (defScope s__law_is_value) .none kV19 dc19 pm19 an19 cd19 ct19), sl19⟩) (c19 : PySem.W.codeIn K cd19 "_law_is_value" = true) (k19 : PySem.W.keepIn K (.ref f19) = true)
    (a20 : PySem.W.nsIn K mainGlobals "_law_are_rows" = some (some (.ref f20))) (l20 : K.lookup f20 = some ⟨oc20, od20, .func (PySem.W.fnOf "_law_are_rows" "_law_are_rows" (defArgs s__law_are_rows) (defBody s__law_are_rows) (defScope s__law_are_rows) .none kV20 dc20 pm20 an20 cd20 ct20), sl20⟩) (c20 : PySem.W.codeIn K cd20 "_law_are_rows" = true) (k20 : PySem.W.keepIn K (.ref f20) = true)
    (a21 : PySem.W.nsIn K mainGlobals "_law_is_candidate" = some (some (.ref f21))) (l21 : K.lookup f21 = some ⟨oc21, od21, .func (PySem.W.fnOf "_law_is_candidate" "_law_is_candidate" (defArgs s__law_is_candidate) (defBody s__law_is_candidate) (defScope s__law_is_candidate) .none kV21 dc21 pm21 an21 cd21 ct21), sl21⟩) (c21 : PySem.W.codeIn K cd21 "_law_is_candidate" = true) (k21 : PySem.W.keepIn K (.ref f21) = true)
    (a22 : PySem.W.nsIn K mainGlobals "_law_mixed_columns" = some (some (.ref f22))) (l22 : K.lookup f22 = some ⟨oc22, od22, .func (PySem.W.fnOf "_law_mixed_columns" "_law_mixed_columns" (defArgs s__law_mixed_columns) (defBody s__law_mixed_columns) (defScope s__law_mixed_columns) .none kV22 dc22 pm22 an22 cd22 ct22), sl22⟩) (c22 : PySem.W.codeIn K cd22 "_law_mixed_columns" = true) (k22 : PySem.W.keepIn K (.ref f22) = true)
    (a23 : PySem.W.nsIn K mainGlobals "_law_odd" = some (some (.ref f23))) (l23 : K.lookup f23 = some ⟨oc23, od23, .func (PySem.W.fnOf "_law_odd" "_law_odd" (defArgs s__law_odd) (defBody s__law_odd) (defScope s__law_odd) .none kV23 dc23 pm23 an23 cd23 ct23), sl23⟩) (c23 : PySem.W.codeIn K cd23 "_law_odd" = true) (k23 : PySem.W.keepIn K (.ref f23) = true)
    (a24 : PySem.W.nsIn K mainGlobals "_law_changed" = some (some (.ref f24))) (l24 : K.lookup f24 = some ⟨oc24, od24, .func (PySem.W.fnOf "_law_changed" "_law_changed" (defArgs s__law_changed) (defBody s__law_changed) (defScope s__law_changed) .none kV24 dc24 pm24 an24 cd24 ct24), sl24⟩) (c24 : PySem.W.codeIn K cd24 "_law_changed" = true) (k24 : PySem.W.keepIn K (.ref f24) = true)
    (a25 : PySem.W.nsIn K mainGlobals "_law_right" = some (some (.ref f25))) (l25 : K.lookup f25 = some ⟨oc25, od25, .func (PySem.W.fnOf "_law_right" "_law_right" (defArgs s__law_right) (defBody s__law_right) (defScope s__law_right) .none kV25 dc25 pm25 an25 cd25 ct25), sl25⟩) (c25 : PySem.W.codeIn K cd25 "_law_right" = true) (k25 : PySem.W.keepIn K (.ref f25) = true)
    (a26 : PySem.W.nsIn K mainGlobals "law" = some (some (.ref f26))) (l26 : K.lookup f26 = some ⟨oc26, od26, .func (PySem.W.fnOf "law" "law" (defArgs s_law) (defBody s_law) (defScope s_law) .none kV26 dc26 pm26 an26 cd26 ct26), sl26⟩) (c26 : PySem.W.codeIn K cd26 "law" = true) (k26 : PySem.W.keepIn K (.ref f26) = true)
    (z_abs : PySem.W.nsIn K mainGlobals "abs" = some none)
    (z_all : PySem.W.nsIn K mainGlobals "all" = some none)
    (z_bool : PySem.W.nsIn K mainGlobals "bool" = some none)
    (z_enumerate : PySem.W.nsIn K mainGlobals "enumerate" = some none)
    (z_int : PySem.W.nsIn K mainGlobals "int" = some none)
    (z_isinstance : PySem.W.nsIn K mainGlobals "isinstance" = some none)
    (z_len : PySem.W.nsIn K mainGlobals "len" = some none)
    (z_list : PySem.W.nsIn K mainGlobals "list" = some none)
    (z_max : PySem.W.nsIn K mainGlobals "max" = some none)
    (z_min : PySem.W.nsIn K mainGlobals "min" = some none)
    (z_range : PySem.W.nsIn K mainGlobals "range" = some none)
    (z_repr : PySem.W.nsIn K mainGlobals "repr" = some none)
    (z_set : PySem.W.nsIn K mainGlobals "set" = some none)
    (z_sorted : PySem.W.nsIn K mainGlobals "sorted" = some none)
    (z_sum : PySem.W.nsIn K mainGlobals "sum" = some none)
    (z_tuple : PySem.W.nsIn K mainGlobals "tuple" = some none)
    (z_zip : PySem.W.nsIn K mainGlobals "zip" = some none)
    (v_LOWEST : PySem.W.nsIn K mainGlobals "LOWEST" = some (some (.int (-9999) tk_LOWEST)))
    (v_HIGHEST : PySem.W.nsIn K mainGlobals "HIGHEST" = some (some (.int (9999) tk_HIGHEST))) :
    ∃ fd : FuncData, (∀ (s : Shared) (v : Value), BindsTo s fd ⟨[v], []⟩ [("_law_script", v)]) ∧ ∀ base : Heap, K.In base → base.Ns mainGlobals mg → FnG l.prog w K mg base 10 fa fd ["_law_script"] (sp_law K) := by
  have e := hfa.symm.trans (PySem.W.mg_of X G a26)
  cases e
  have b0 := (fun_mk (st := s_is_number) l0 c0 k0).binds (ps := ["value"]) fun _ _ _ _ _ _ us hl => match us, hl with | [_], _ => rfl
  have b1 := (fun_mk (st := s_is_between) l1 c1 k1).binds (ps := ["value", "low", "high"]) fun _ _ _ _ _ _ us hl => match us, hl with | [_, _, _], _ => rfl
  have b2 := (fun_mk (st := s_is_value) l2 c2 k2).binds (ps := ["value"]) fun _ _ _ _ _ _ us hl => match us, hl with | [_], _ => rfl
  have b3 := (fun_mk (st := s_is_row) l3 c3 k3).binds (ps := ["value", "many"]) fun _ _ _ _ _ _ us hl => match us, hl with | [_, _], _ => rfl
  have b4 := (fun_mk (st := s_place_of) l4 c4 k4).binds (ps := ["cuts", "value"]) fun _ _ _ _ _ _ us hl => match us, hl with | [_, _], _ => rfl
  have b5 := (fun_mk (st := s_facts_of) l5 c5 k5).binds (ps := ["columns", "cuts", "rows"]) fun _ _ _ _ _ _ us hl => match us, hl with | [_, _, _], _ => rfl
  have b6 := (fun_mk (st := s_names_in) l6 c6 k6).binds (ps := ["facts"]) fun _ _ _ _ _ _ us hl => match us, hl with | [_], _ => rfl
  have b7 := (fun_mk (st := s_column_facts) l7 c7 k7).binds (ps := ["column", "points", "values"]) fun _ _ _ _ _ _ us hl => match us, hl with | [_, _, _], _ => rfl
  have b8 := (fun_mk (st := s_shows_candidate) l8 c8 k8).binds (ps := ["facts", "value"]) fun _ _ _ _ _ _ us hl => match us, hl with | [_, _], _ => rfl
  have b9 := (fun_mk (st := s__law_pot) l9 c9 k9).binds (ps := ["_law_script", "_law_k"]) fun _ _ _ _ _ _ us hl => match us, hl with | [_, _], _ => rfl
  have b10 := (fun_mk (st := s__law_draw) l10 c10 k10).binds (ps := ["_law_pot_here", "_law_many"]) fun _ _ _ _ _ _ us hl => match us, hl with | [_, _], _ => rfl
  have b11 := (fun_mk (st := s__law_any) l11 c11 k11).binds (ps := ["_law_pot_here", "_law_items"]) fun _ _ _ _ _ _ us hl => match us, hl with | [_, _], _ => rfl
  have b12 := (fun_mk (st := s__law_mixed) l12 c12 k12).binds (ps := ["_law_pot_here", "_law_items"]) fun _ _ _ _ _ _ us hl => match us, hl with | [_, _], _ => rfl
  have b13 := (fun_mk (st := s__law_names) l13 c13 k13).binds (ps := ["_law_pot_here", "_law_many"]) fun _ _ _ _ _ _ us hl => match us, hl with | [_, _], _ => rfl
  have b14 := (fun_mk (st := s__law_part) l14 c14 k14).binds (ps := ["_law_pot_here", "_law_size", "_law_spread"]) fun _ _ _ _ _ _ us hl => match us, hl with | [_, _, _], _ => rfl
  have b15 := (fun_mk (st := s__law_column_facts) l15 c15 k15).binds (ps := ["_law_column", "_law_cuts", "_law_values"]) fun _ _ _ _ _ _ us hl => match us, hl with | [_, _, _], _ => rfl
  have b16 := (fun_mk (st := s__law_facts_of) l16 c16 k16).binds (ps := ["_law_names_here", "_law_parts", "_law_rows"]) fun _ _ _ _ _ _ us hl => match us, hl with | [_, _, _], _ => rfl
  have b17 := (fun_mk (st := s__law_rows_of) l17 c17 k17).binds (ps := ["_law_parts", "_law_size"]) fun _ _ _ _ _ _ us hl => match us, hl with | [_, _], _ => rfl
  have b18 := (fun_mk (st := s__law_case) l18 c18 k18).binds (ps := ["_law_pot_here", "_law_most", "_law_spread"]) fun _ _ _ _ _ _ us hl => match us, hl with | [_, _, _], _ => rfl
  have b19 := (fun_mk (st := s__law_is_value) l19 c19 k19).binds (ps := ["_law_value"]) fun _ _ _ _ _ _ us hl => match us, hl with | [_], _ => rfl
  have b20 := (fun_mk (st := s__law_are_rows) l20 c20 k20).binds (ps := ["_law_value", "_law_size", "_law_width"]) fun _ _ _ _ _ _ us hl => match us, hl with | [_, _, _], _ => rfl
  have b21 := (fun_mk (st := s__law_is_candidate) l21 c21 k21).binds (ps := ["_law_names_here", "_law_parts", "_law_facts", "_law_value"]) fun _ _ _ _ _ _ us hl => match us, hl with | [_, _, _, _], _ => rfl
  have b22 := (fun_mk (st := s__law_mixed_columns) l22 c22 k22).binds (ps := ["_law_pot_here", "_law_rows"]) fun _ _ _ _ _ _ us hl => match us, hl with | [_, _], _ => rfl
  have b23 := (fun_mk (st := s__law_odd) l23 c23 k23).binds (ps := ["_law_pot_here", "_law_value"]) fun _ _ _ _ _ _ us hl => match us, hl with | [_, _], _ => rfl
  have b24 := (fun_mk (st := s__law_changed) l24 c24 k24).binds (ps := ["_law_pot_here", "_law_value", "_law_deep"]) fun _ _ _ _ _ _ us hl => match us, hl with | [_, _, _], _ => rfl
  have b25 := (fun_mk (st := s__law_right) l25 c25 k25).binds (ps := ["_law_pot_here"]) fun _ _ _ _ _ _ us hl => match us, hl with | [_], _ => rfl
  exact ⟨PySem.W.fnOf "law" "law" (defArgs s_law) (defBody s_law) (defScope s_law) .none kV26 dc26 pm26 an26 cd26 ct26, fun s v => .of_eq rfl, fun base _ _ =>
    all_ok ⟨PySem.W.mg_none_of X G z_abs, PySem.W.mg_none_of X G z_all, PySem.W.mg_none_of X G z_bool, PySem.W.mg_none_of X G z_enumerate, PySem.W.mg_none_of X G z_int, PySem.W.mg_none_of X G z_isinstance, PySem.W.mg_none_of X G z_len, PySem.W.mg_none_of X G z_list, PySem.W.mg_none_of X G z_max, PySem.W.mg_none_of X G z_min, PySem.W.mg_none_of X G z_range, PySem.W.mg_none_of X G z_repr, PySem.W.mg_none_of X G z_set, PySem.W.mg_none_of X G z_sorted, PySem.W.mg_none_of X G z_sum, PySem.W.mg_none_of X G z_tuple, PySem.W.mg_none_of X G z_zip, ⟨_, PySem.W.mg_of X G v_LOWEST, ⟨_, rfl⟩⟩, ⟨_, PySem.W.mg_of X G v_HIGHEST, ⟨_, rfl⟩⟩⟩ (fun_mk (st := s_law) l26 c26 k26) (fun_mk (st := s_is_number) l0 c0 k0) b0 (PySem.W.mg_of X G a0) (fun_mk (st := s_is_between) l1 c1 k1) b1 (PySem.W.mg_of X G a1) (fun_mk (st := s_is_value) l2 c2 k2) b2 (PySem.W.mg_of X G a2) (fun_mk (st := s_is_row) l3 c3 k3) b3 (PySem.W.mg_of X G a3) (fun_mk (st := s_place_of) l4 c4 k4) b4 (PySem.W.mg_of X G a4) (fun_mk (st := s_facts_of) l5 c5 k5) b5 (PySem.W.mg_of X G a5) (fun_mk (st := s_names_in) l6 c6 k6) b6 (PySem.W.mg_of X G a6) (fun_mk (st := s_column_facts) l7 c7 k7) b7 (PySem.W.mg_of X G a7) (fun_mk (st := s_shows_candidate) l8 c8 k8) b8 (PySem.W.mg_of X G a8) (fun_mk (st := s__law_pot) l9 c9 k9) b9 (PySem.W.mg_of X G a9) (fun_mk (st := s__law_draw) l10 c10 k10) b10 (PySem.W.mg_of X G a10) (fun_mk (st := s__law_any) l11 c11 k11) b11 (PySem.W.mg_of X G a11) (fun_mk (st := s__law_mixed) l12 c12 k12) b12 (PySem.W.mg_of X G a12) (fun_mk (st := s__law_names) l13 c13 k13) b13 (PySem.W.mg_of X G a13) (fun_mk (st := s__law_part) l14 c14 k14) b14 (PySem.W.mg_of X G a14) (fun_mk (st := s__law_column_facts) l15 c15 k15) b15 (PySem.W.mg_of X G a15) (fun_mk (st := s__law_facts_of) l16 c16 k16) b16 (PySem.W.mg_of X G a16) (fun_mk (st := s__law_rows_of) l17 c17 k17) b17 (PySem.W.mg_of X G a17) (fun_mk (st := s__law_case) l18 c18 k18) b18 (PySem.W.mg_of X G a18) (fun_mk (st := s__law_is_value) l19 c19 k19) b19 (PySem.W.mg_of X G a19) (fun_mk (st := s__law_are_rows) l20 c20 k20) b20 (PySem.W.mg_of X G a20) (fun_mk (st := s__law_is_candidate) l21 c21 k21) b21 (PySem.W.mg_of X G a21) (fun_mk (st := s__law_mixed_columns) l22 c22 k22) b22 (PySem.W.mg_of X G a22) (fun_mk (st := s__law_odd) l23 c23 k23) b23 (PySem.W.mg_of X G a23) (fun_mk (st := s__law_changed) l24 c24 k24) b24 (PySem.W.mg_of X G a24) (fun_mk (st := s__law_right) l25 c25 k25) b25 (PySem.W.mg_of X G a25)⟩
end
end DL
open PySem PySem.W PyProof.Rows
set_option maxHeartbeats 0 in
theorem PySem.Challenge.cw_piecefacts_k26_candidates_of_anything_holds : PySem.Challenge.rw_piecefacts_k26_candidates_of_anything.Holds := by
  w_on; o_law; k_head; (case hw => w_witness2)
  k_fill
  refine Pf.walkG (l := PySem.Challenge.rw_piecefacts_k26_candidates_of_anything) (k := 10) (x := "_law_script") (sp := DL.sp_law) rfl rfl ⟨rfl, by decide, by decide⟩ (fun w h Y => PySem.W.kIn_of Y) ?F (fun _ _ a ns hl hS => ⟨a, ns, rfl, hS, hl, fun _ => rfl⟩)
  case F =>
    intro w mg fa h KX G hmg
    refine' DL.all_mk KX G hmg ?a0 ?l0 ?c0 ?k0 ?a1 ?l1 ?c1 ?k1 ?a2 ?l2 ?c2 ?k2 ?a3 ?l3 ?c3 ?k3 ?a4 ?l4 ?c4 ?k4 ?a5 ?l5 ?c5 ?k5 ?a6 ?l6 ?c6 ?k6 ?a7 ?l7 ?c7 ?k7 ?a8 ?l8 ?c8 ?k8 ?a9 ?l9 ?c9 ?k9 ?a10 ?l10 ?c10 ?k10 ?a11 ?l11 ?c11 ?k11 ?a12 ?l12 ?c12 ?k12 ?a13 ?l13 ?c13 ?k13 ?a14 ?l14 ?c14 ?k14 ?a15 ?l15 ?c15 ?k15 ?a16 ?l16 ?c16 ?k16 ?a17 ?l17 ?c17 ?k17 ?a18 ?l18 ?c18 ?k18 ?a19 ?l19 ?c19 ?k19 ?a20 ?l20 ?c20 ?k20 ?a21 ?l21 ?c21 ?k21 ?a22 ?l22 ?c22 ?k22 ?a23 ?l23 ?c23 ?k23 ?a24 ?l24 ?c24 ?k24 ?a25 ?l25 ?c25 ?k25 ?a26 ?l26 ?c26 ?k26 ?z_abs ?z_all ?z_bool ?z_enumerate ?z_int ?z_isinstance ?z_len ?z_list ?z_max ?z_min ?z_range ?z_repr ?z_set ?z_sorted ?z_sum ?z_tuple ?z_zip ?v_LOWEST ?v_HIGHEST
    (case a0 => k_is); (case l0 => k_is); (case c0 => k_is); (case k0 => k_is); (case a1 => k_is); (case l1 => k_is); (case c1 => k_is); (case k1 => k_is); (case a2 => k_is); (case l2 => k_is); (case c2 => k_is); (case k2 => k_is); (case a3 => k_is); (case l3 => k_is); (case c3 => k_is); (case k3 => k_is); (case a4 => k_is); (case l4 => k_is); (case c4 => k_is); (case k4 => k_is); (case a5 => k_is); (case l5 => k_is); (case c5 => k_is); (case k5 => k_is); (case a6 => k_is); (case l6 => k_is); (case c6 => k_is); (case k6 => k_is); (case a7 => k_is); (case l7 => k_is); (case c7 => k_is); (case k7 => k_is); (case a8 => k_is); (case l8 => k_is); (case c8 => k_is); (case k8 => k_is); (case a9 => k_is); (case l9 => k_is); (case c9 => k_is); (case k9 => k_is); (case a10 => k_is); (case l10 => k_is); (case c10 => k_is); (case k10 => k_is); (case a11 => k_is); (case l11 => k_is); (case c11 => k_is); (case k11 => k_is); (case a12 => k_is); (case l12 => k_is); (case c12 => k_is); (case k12 => k_is); (case a13 => k_is); (case l13 => k_is); (case c13 => k_is); (case k13 => k_is); (case a14 => k_is); (case l14 => k_is); (case c14 => k_is); (case k14 => k_is); (case a15 => k_is); (case l15 => k_is); (case c15 => k_is); (case k15 => k_is); (case a16 => k_is); (case l16 => k_is); (case c16 => k_is); (case k16 => k_is); (case a17 => k_is); (case l17 => k_is); (case c17 => k_is); (case k17 => k_is); (case a18 => k_is); (case l18 => k_is); (case c18 => k_is); (case k18 => k_is); (case a19 => k_is); (case l19 => k_is); (case c19 => k_is); (case k19 => k_is); (case a20 => k_is); (case l20 => k_is); (case c20 => k_is); (case k20 => k_is); (case a21 => k_is); (case l21 => k_is); (case c21 => k_is); (case k21 => k_is); (case a22 => k_is); (case l22 => k_is); (case c22 => k_is); (case k22 => k_is); (case a23 => k_is); (case l23 => k_is); (case c23 => k_is); (case k23 => k_is); (case a24 => k_is); (case l24 => k_is); (case c24 => k_is); (case k24 => k_is); (case a25 => k_is); (case l25 => k_is); (case c25 => k_is); (case k25 => k_is); (case a26 => k_is); (case l26 => k_is); (case c26 => k_is); (case k26 => k_is); (case z_abs => k_is); (case z_all => k_is); (case z_bool => k_is); (case z_enumerate => k_is); (case z_int => k_is); (case z_isinstance => k_is); (case z_len => k_is); (case z_list => k_is); (case z_max => k_is); (case z_min => k_is); (case z_range => k_is); (case z_repr => k_is); (case z_set => k_is); (case z_sorted => k_is); (case z_sum => k_is); (case z_tuple => k_is); (case z_zip => k_is); (case v_LOWEST => k_is); (case v_HIGHEST => k_is)
