import PyProof.Rows.All
import Wide.All
import OpenK.AllK
import Wide.FinOn
import HandS.ForMost
import HandS.Wide
import HandS.IsInst
import HandS.Zip
import HandS.Style
import HandS.Defaults
import HandS.TupAny
import HandS.Walk
import HandS.Star
import HandS.Flow
import HandS.SortRule
import PyProof.ReprRoads
import HandS.StrMore
import HandS.WideBits
import HandS.FStr
import KE.KIntText
import KE.KxField
import PyProof.Rows.StrIntSpec
import PyProof.Rows.StrLawsPart
import PyProof.Rows.FinIter
import KE.IntBitsLaws
import PySem.Challenge.RW_piecefacts_k04_whole_rules_of_range_sets
import HandS.TryOnly
set_option Elab.async false
set_option linter.all false
set_option maxRecDepth 100000
/-! Calls where no repr is under way: the hand layer's promises of defs, with that fact carried along. -/
namespace Pf
open PySem PySem.Spec PyProof.Rows L2
/-- the promise of a def, kept wherever no repr is under way -/
structure FnG (P : Program) (w : World) (K : PySem.W.Frag) (mg : Str → Option Value) (base : Heap) (k : Nat) (f : Addr) (fd : FuncData) (ps : List Str) (sp : Sp) : Prop where
  size : ∀ vs H Q E, sp vs H Q E → vs.length = ps.length
  goes : ∀ (A : Around) (outer : List Env) (s : Shared) (H : Hp) (args : Args) (us : List Value) (vs : List V) (Q : VK) (E : XK), A.guards = some [] → Room k A →
    Env0 P w K mg base A outer s H → BindsTo s fd args (ps.zip us) → Vals vs us → sp vs H Q E → codeAny (model P w) A (.call (.ref f) args) (CR CX0 outer P w H s Q E) s
section
variable {base : Heap} {P : Program} {w : World} {mg : Str → Option Value} {K : PySem.W.Frag}
theorem FnG.up {j k : Nat} {f : Addr} {fd : FuncData} {ps : List Str} {sp : Sp} (F : FnG P w K mg base j f fd ps sp) (h : j ≤ k) : FnG P w K mg base k f fd ps sp :=
  ⟨F.size, fun A outer s H args us vs Q E hg hr => F.goes A outer s H args us vs Q E hg (hr.mono h)⟩
theorem guards_deeper {A : Around} {env : Env} (h : A.guards = some []) : (A.deeper env).guards = some [] := h
/-- a def by its body, where no repr is under way; its code object told -/
theorem okGc {x qual : Str} {st : Stmt} {f : Addr} {fd : FuncData} {N ps : List Str} {k : Nat} {sp : Sp} (F : Fun K x qual st f fd) (S : FnScope N ps (defScope st)) (hlen : ∀ vs H Q E, sp vs H Q E → vs.length = ps.length)
    (bd : ∀ (cdv : Value) (A : Around) (outer : List Env) (s : Shared) (H : Hp) (vs : List V) (Q : VK) (E : XK), fd.code = cdv → (A.deeper (envOfC qual (defScope st) s.heap.objs.size f cdv)).guards = some [] →
      Room k (A.deeper (envOfC qual (defScope st) s.heap.objs.size f cdv)) → sp vs H Q E →
      ∃ t, PSs (cxOf CX0 P w K mg base N qual (defScope st) f cdv A outer s H E).nox (defBody st) t ∧ t { nx := fun _ H' => Q .non H', rt := Q } (start N vs) H) : FnG P w K mg base (k + 1) f fd ps sp := by
  obtain ⟨_, _, _, _, _, _, cdv, _, _, hfd, lk, hcd⟩ := F.ex
  subst hfd
  constructor
  · exact hlen
  intro A outer s H args us vs Q E hg hr env0 bind rel promise
  have vsl := hlen vs H Q E promise
  have kin : K.In s.heap := env0.mod.kin.keeps (fun b o z => (env0.bs b o z).1)
  have nolim : s.heap.NoLimit := env0.mod.nolimit.keeps (fun b o z => (env0.bs b o z).1)
  obtain ⟨t, der, rd⟩ := bd cdv A outer s H vs Q E rfl (guards_deeper hg) (hr.deeper _) promise
  refine codeAny_call_function hr.depth (kin _ _ lk) rfl S.co S.gen rfl (PySem.W.codeRec_of kin hcd) (bind _ _ _ _ (wpAny_newFunctionEnv_cells S.kind ?kinds ?enter))
  case kinds =>
    rintro ⟨n, v⟩ hy
    cases S.par n (List.of_mem_zip hy).1 with
    | inl q => exact Or.inl q
    | inr q => exact Or.inr (And.intro q (PySem.W.cellsFrom_some _ _ _ (Or.inl q)))
  case enter =>
    intro env he s1 inside
    subst he
    constructor
    · exact nolim.keeps inside.toInCall.keep
    refine codeAny_func (wpAny_mono (der.nox.run [] s1 (start N vs) H _ (inv_start S hr.hd env0 vsl rel inside) rd) ?_ (fun e s' z => z))
    intro flow s' z
    match flow, z with
    | .ret u, ⟨v, σ', H', J, rv, q⟩ => exact ⟨v, H', J.os, J.bare, J.base, J.hok, rv, q⟩
    | .next, ⟨σ', H', J, q⟩ => exact ⟨V.non, H', J.os, J.bare, J.base, J.hok, rfl, q⟩
    | .brk, ⟨_, _, _, q⟩ => exact q.elim
    | .cont, ⟨_, _, _, q⟩ => exact q.elim
/-- .. its code object left open -/
theorem okG {x qual : Str} {st : Stmt} {f : Addr} {fd : FuncData} {N ps : List Str} {k : Nat} {sp : Sp} (F : Fun K x qual st f fd) (S : FnScope N ps (defScope st)) (hlen : ∀ vs H Q E, sp vs H Q E → vs.length = ps.length)
    (bd : ∀ (cdv : Value) (A : Around) (outer : List Env) (s : Shared) (H : Hp) (vs : List V) (Q : VK) (E : XK), (A.deeper (envOfC qual (defScope st) s.heap.objs.size f cdv)).guards = some [] →
      Room k (A.deeper (envOfC qual (defScope st) s.heap.objs.size f cdv)) → sp vs H Q E →
      ∃ t, PSs (cxOf CX0 P w K mg base N qual (defScope st) f cdv A outer s H E).nox (defBody st) t ∧ t { nx := fun _ H' => Q .non H', rt := Q } (start N vs) H) : FnG P w K mg base (k + 1) f fd ps sp :=
  okGc F S hlen fun cdv A outer s H vs Q E _ hg hr h => bd cdv A outer s H vs Q E hg hr h
end
/-- a def that may be called by its name -/
structure Cal (P : Program) (w : World) (K : PySem.W.Frag) (mg : Str → Option Value) (base : Heap) (k : Nat) (x : Str) (sp : Sp) : Prop where
  is : ∃ (f : Addr) (fd : FuncData) (ps : List Str), FnG P w K mg base k f fd ps sp ∧ mg x = some (.ref f) ∧ PySem.W.keepIn K (.ref f) = true ∧ Binds K fd ps []
/-- .. by keywords alone -/
structure CalK (P : Program) (w : World) (K : PySem.W.Frag) (mg : Str → Option Value) (base : Heap) (k : Nat) (x : Str) (ks : List Str) (gV : List V → List V) (sp : Sp) : Prop where
  is : ∃ (f : Addr) (fd : FuncData) (ps : List Str) (g : List Value → List Value), FnG P w K mg base k f fd ps sp ∧ mg x = some (.ref f) ∧ PySem.W.keepIn K (.ref f) = true ∧ KBn K fd ps 0 ks (fun _ ws => g ws) (fun _ zs => gV zs)
def noErr : XK := fun _ _ _ => False
def tC1 (sp : Sp) (t : TA) : TE := fun σ H Q => t σ H fun vs H1 => sp vs H1 Q noErr
def tCK (m : Nat) (sp : Sp) (gV : List V → List V) (tk : TA) : TE := fun σ H Q => tk σ H fun zs H1 => zs.length = m ∧ sp (gV zs) H1 Q noErr
section
variable {X : Cx} {j k : Nat} {x : Str} {sp : Sp} {p pos : Pos} {e : Expr} {es : List Expr} {t tk : TA} {kws : List Keyword} {ks : List Str} {gV : List V → List V}
theorem goesG {pins : List (Addr × Obj)} {σ : L2.St} {H : Hp} {s : Shared} {Q : VK} {f : Addr} {fd : FuncData} {ps : List Str} {args : Args} {us : List Value} {vs : List V} (F : FnG X.prog X.w X.K X.mg X.base k f fd ps sp) (hg : X.A.guards = some []) (hr : Room k X.A)
    (I : Inv X pins σ H s) (b : BindsTo s fd args (ps.zip us)) (r : Vals vs us) (h : sp vs H Q noErr) : wpAny (model X.prog X.w) X.A (call (.ref f) args.pos args.kw) (EP X pins σ Q) X.xe s := by
  refine wpAny_call (codeAny_mono (F.goes X.A X.stack s H args us vs Q noErr hg hr I.env0 b r h) ?_)
  intro res s' z
  match res, z with
  | .error e, z => exact pass0 pins σ H s e s' I z
  | .ok (.ret u), z => exact I.after z
  | .ok .next, z => exact z.elim
  | .ok .brk, z => exact z.elim
  | .ok .cont, z => exact z.elim
theorem pe_c (c : Cal X.prog X.w X.K X.mg X.base k x sp) (hr : X.A.guards = some [] ∧ Room j X.A) (hk : k ≤ j) (gl : Gl X x) (ha : PA X (e :: es) t)
    (hdb : (x == ("__debug__" : Str)) = false := by decide) (he : starEach (e :: es) X.env = (false, eval e X.env) :: starEach es X.env := by rfl) (hpl : (backTo pos (starEach es X.env)).any (·.1) = false := by rfl) :
    PE X (.Call (.Name x p) (e :: es) [] pos) (tC1 sp t) := by
  obtain ⟨f, fd, ps, F, hm, kp, b⟩ := c.is
  constructor
  intro pins s σ H Q I h
  have vsl := F.size
  refine Call_ (ld_glob I gl hm ?_ hdb)
  refine PySem.W.callWith_K (h₀ := X.base) I.ok.mod.kin kp ?_ he hpl
  refine thn (ha.run pos pins s σ H _ I h) fun us s1 ⟨vs, H1, I1, r, q⟩ => ⟨I1.kIn, ?_⟩
  have hl : us.length = ps.length := by rw [← r.length]; exact vsl _ _ _ _ q
  have bb := b s1 us I1.kIn (by rw [List.append_nil]; exact hl)
  rw [List.append_nil] at bb
  exact goesG F hr.1 (hr.2.mono hk) I1 bb r q
theorem pe_cK0 (c : CalK X.prog X.w X.K X.mg X.base k x ks gV sp) (hr : X.A.guards = some [] ∧ Room j X.A) (hk : k ≤ j) (gl : Gl X x) (hkw : PK X kws tk)
    (h1 : (backToKw pos (keywordEach kws X.env)).all (·.1.isSome) = true := by rfl) (h2 : (backToKw pos (keywordEach kws X.env)).filterMap (·.1) = ks := by rfl)
    (hdb : (x == ("__debug__" : Str)) = false := by decide) (hpl : ((backTo pos (starEach [] X.env)).any (·.1) || (backToKw pos (keywordEach kws X.env)).any (·.1.isNone)) = false := by rfl) :
    PE X (.Call (.Name x p) [] kws pos) (tCK ks.length sp gV tk) := by
  obtain ⟨f, fd, ps, g, F, hm, kp, b⟩ := c.is
  constructor
  intro pins s σ H Q I h
  refine wpAny_Call_Name_kw (ld_glob I gl hm ?_ hdb)
  refine PySem.W.callWith_KW0 (h₀ := X.base) I.ok.mod.kin kp h1 ?_ hpl
  refine thn (hkw.run pos pins s σ H _ I h) fun ws s1 ⟨zs, H1, I1, r, hz, q⟩ => ⟨I1.kIn, ?_⟩
  rw [h2]
  have bb := b.to s1 [] ws I1.kIn rfl (r.length.symm.trans hz)
  exact goesG (args := ⟨[], ks.zip ws⟩) F hr.1 (hr.2.mono hk) I1 bb (b.rel (vs := []) .nil r) q
end
/-- the law's call at the caller of a claim: the script is the one object that is known -/
theorem lawG {P : Program} {w : World} {K : PySem.W.Frag} {mg mb : Str → Option Value} {k : Nat} {fa a : Addr} {fd : FuncData} {x : Str} {sp : Sp} {s₁ : Shared} {vs : List Value} {ns : List Int}
    (KX : K.In s₁.heap) (gn : s₁.heap.Ns mainGlobals mg) (bn : s₁.heap.Ns builtinsNs mb) (bb : ∀ x : Str, x ≠ "__name__" → mb x = bootBuiltins x) (nl : s₁.heap.NoLimit) (gens : s₁.gens = #[])
    (at_a : s₁.heap.get? a = some { cls := .type "list", data := .seq vs.toArray }) (iv : IntsAre vs ns) (few : ns.length ≤ sizeLine) (room : Room k callerA)
    (F : ∀ base : Heap, K.In base → base.Ns mainGlobals mg → FnG P w K mg base k fa fd [x] sp) (bind : ∀ (s : Shared) (u : Value), BindsTo s fd ⟨[u], []⟩ [(x, u)])
    (goal : ∀ H : Hp, SqL K H a (ns.map V.int) → sp [.ref a] H (fun v _ => v = .bl true) fun _ _ _ => False) :
    codeAny (model P w) callerA (.call (.ref fa) ⟨[.ref a], []⟩) (fun out t => out = .ok (.ret (.bool true)) ∧ OldK s₁.heap t.heap ∧ t.os = s₁.os ∧ AllBare t.gens) s₁ := by
  have rel := vals_ints iv
  -- the abstract heap: the script, unless it is an object of the written part
  obtain ⟨H, only, sql, ok, mine, offK⟩ : ∃ H : Hp, (∀ b, H b = none ∨ ∃ o xs, H b = some (.frz o (.lst xs))) ∧ SqL K H a (ns.map V.int) ∧ HOk P w H s₁.heap ∧ (∀ b, H b ≠ none → b = a) ∧ (H a ≠ none → K.lookup a = none) := by
    cases look : K.lookup a with
    | some o =>
      have same := KX a o look
      rw [at_a] at same
      cases same
      exact ⟨fun _ => none, fun _ => Or.inl rfl, .inr ⟨_, vs.toArray, _, look, rfl, rfl, rfl, by rw [List.size_toArray, iv.length]; exact few, by simpa using rel⟩, (fun _ _ z => by cases (show (none : Option HO) = some _ from z)), (fun _ z => absurd rfl z), (fun z => absurd rfl z)⟩
    | none =>
      refine ⟨fun b => if b = a then some (.frz { cls := .type "list", data := .seq vs.toArray } (.lst (ns.map V.int))) else none, fun b => ?_, .inl (.inr ⟨_, if_pos rfl⟩), fun b u z => ?_, fun b z => ?_, fun _ => rfl⟩
      · by_cases hb : b = a
        · exact Or.inr ⟨_, _, if_pos hb⟩
        · exact Or.inl (if_neg hb)
      · by_cases hb : b = a
        · subst hb
          have zz := (if_pos rfl).symm.trans z
          cases zz
          exact ⟨at_a, by rw [List.length_map]; exact few, vs, _, rel, at_a⟩
        · have zz := (if_neg hb).symm.trans z
          cases zz
      · by_cases hb : b = a
        · exact hb
        · exact absurd (if_neg hb) z
  have hid : ∀ {b : Addr} {o : Obj}, s₁.heap.get? b = some o → H b = none → (hidT s₁.heap H).get? b = some o := fun e n => hidT_get e n
  have dicts : ∀ {b : Addr} {o : Obj} {es : Array DictEntry} {ep : Nat}, s₁.heap.get? b = some o → o.data = .dict es ep → H b = none := by
    intro b o es ep e d
    apply Classical.byContradiction
    intro z
    have eb := mine b z
    subst eb
    rw [at_a] at e
    cases e
    exact absurd d (fun q => nomatch q)
  have names : ∀ {b : Addr} {m : Str → Option Value}, s₁.heap.Ns b m → (hidT s₁.heap H).Ns b m := by
    rintro b m ⟨o, es, ep, e, d, r⟩
    exact ⟨o, es, ep, hid e (dicts e d), d, r⟩
  have kin : K.In (hidT s₁.heap H) := by
    intro b o e
    refine hid (KX b o e) (Classical.byContradiction fun z => ?_)
    have eb := mine b z
    subst eb
    rw [offK z] at e
    cases e
  obtain ⟨mc, n1, n2⟩ := nl
  have env0 : Env0 P w K mg (hidT s₁.heap H) callerA [] s₁ H :=
    ⟨rfl, ⟨kin, names gn, ⟨mb, names bn, bb⟩, ⟨mc, names n1, n2⟩⟩, fun b o e => of_hidT e, Nat.le_of_eq (hidT_size _ _), trivial, fun b hb => (List.not_mem_nil hb).elim, ok, .of_eq gens⟩
  refine codeAny_mono ((F _ kin (names gn)).goes callerA [] s₁ H ⟨[.ref a], []⟩ [.ref a] [.ref a] _ _ rfl room env0 (bind s₁ (.ref a)) (.cons rfl .nil) (goal H sql)) ?_
  intro res s' z
  match res, z with
  | .ok .next, z => exact z.elim
  | .ok .brk, z => exact z.elim
  | .ok .cont, z => exact z.elim
  | .ok (.ret u), ⟨v, H', os, bare, un, ok', rv, q⟩ =>
    have vt : v = V.bl true := q
    subst vt
    have ut : u = Value.bool true := rv
    subst ut
    refine ⟨rfl, OldK.of_keep (fun b o e => ?_), os, bare⟩
    rcases only b with n | ⟨ob, xs, fz⟩
    · exact un.keep b o e n (fun m => (List.not_mem_nil m).elim) (by simp)
    · have g1 := (ok b _ fz).1
      have g2 := (ok' b _ (un.frzs b ob _ fz)).1
      rw [e] at g1
      cases g1
      exact g2
theorem walkG {l : PySem.W.OpenLaw} {k : Nat} {q : Program} {loose : List Str} {XP : (Str → Option Value) → Heap → Prop} {YP : World → Heap → Prop} {d : DefRec} {K : Params → PySem.W.Frag} {sp : PySem.W.Frag → Sp} {x : Str}
    (hn : l.most = some 63) (hdf : d.params.defaults = []) (room : Room k callerA) (hY : ∀ (w : World) (h : Heap), YP w h → (K w.params).In h)
    (F : ∀ (w : World) (mg : Str → Option Value) (at_ : Addr) (top : Heap), (K w.params).In top → top.Ns mainGlobals mg → mg d.name = some (.ref at_) →
      ∃ fd : FuncData, (∀ (s : Shared) (u : Value), BindsTo s fd ⟨[u], []⟩ [(x, u)]) ∧ ∀ base : Heap, (K w.params).In base → base.Ns mainGlobals mg → FnG l.prog w (K w.params) mg base k at_ fd [x] (sp (K w.params)))
    (goal : ∀ (K : PySem.W.Frag) (H : Hp) (a : Addr) (ns : List Int), ns.length ≤ 63 → SqL K H a (ns.map V.int) → sp K [.ref a] H (fun v _ => v = .bl true) fun _ _ _ => False) :
    PySem.W.WalkO q loose XP YP l.row.toRowW d [] (fun g args => PySem.call g args) := by
  refine Att.attach_call hn hdf ?_
  intro w _ _ mg _ fa _ _ _ _ a _ ns top behind _ _ _ named script iv few gens
  obtain ⟨fd, bind, made⟩ := F w mg fa _ (hY w _ behind) top.T.g named
  exact lawG (hY w _ behind) top.T.g top.T.b top.T.builtins top.T.nolimit gens script iv (Nat.le_trans few (by decide)) room made bind fun H hS => goal _ H a ns few hS
end Pf

set_option Elab.async false
set_option linter.all false
set_option maxRecDepth 100000
/-! Data of any kind in the abstract heap, and its repr. -/
namespace Pf
open PySem PySem.Spec PyProof.Rows L2
mutual
/-- b: it may hold dicts (then its lists do not stand at the modules' place); p: an address that is none of its own -/
inductive Dq (b : Bool) (p : Addr) (H : Hp) : V → PyData → Prop
  | non : Dq b p H .non .none
  | bl (x : Bool) : Dq b p H (.bl x) (.bool x)
  | int (i : Int) : Dq b p H (.int i) (.int i)
  | str (x : Str) : Dq b p H (.str x) (.str x)
  | lst {a : Addr} {xs : List V} {ds : List PyData} : H a = some (.lst xs) → a ≠ p → (b = true → a ≠ sysModules) → DqAll b p H xs ds → Dq b p H (.ref a) (.list ds)
  | tup {a : Addr} {xs : List V} {ds : List PyData} : H a = some (.tup xs) → a ≠ p → DqAll b p H xs ds → Dq b p H (.ref a) (.tuple ds)
  | dc0 {a : Addr} : b = true → H a = some (.dK []) → a ≠ p → Dq b p H (.ref a) (.dict [])
  | dc1 {a : Addr} {x : Str} {v : V} {d : PyData} : b = true → H a = some (.dK [(Sum.inr x, v)]) → a ≠ p → Dq b p H v d → Dq b p H (.ref a) (.dict [(.str x, d)])
inductive DqAll (b : Bool) (p : Addr) (H : Hp) : List V → List PyData → Prop
  | nil : DqAll b p H [] []
  | cons {v : V} {vs : List V} {d : PyData} {ds : List PyData} : Dq b p H v d → DqAll b p H vs ds → DqAll b p H (v :: vs) (d :: ds)
end
section
variable {X : Cx} {pins : List (Addr × Obj)} {σ : L2.St} {H : Hp} {s : Shared} {b : Bool} {p : Addr}
mutual
theorem Dq.reads (I : Inv X pins σ H s) : ∀ (d : PyData) (v : V) (u : Value), Dq b p H v d → RelV v u → ∃ as, Reads s.heap u d as ∧ (b = true → sysModules ∉ as) ∧ (b = false → d.hasDict = false)
  | .none, _, _, h, r => by
    cases h
    cases r
    exact ⟨[], Reads.none, fun _ z => (List.not_mem_nil z).elim, fun _ => by simp only [PyData.hasDict]⟩
  | .bool x, _, _, h, r => by
    cases h
    cases r
    exact ⟨[], Reads.bool x, fun _ z => (List.not_mem_nil z).elim, fun _ => by simp only [PyData.hasDict]⟩
  | .int i, _, _, h, r => by
    cases h
    obtain ⟨t, rfl⟩ := r
    exact ⟨[], Reads.int i t, fun _ z => (List.not_mem_nil z).elim, fun _ => by simp only [PyData.hasDict]⟩
  | .str x, _, _, h, r => by
    cases h
    obtain ⟨t, rfl⟩ := r
    exact ⟨[], Reads.str x t, fun _ z => (List.not_mem_nil z).elim, fun _ => by simp only [PyData.hasDict]⟩
  | .list ds, _, _, h, r => by
    cases h with
    | lst e ne sm ha =>
      cases r
      obtain ⟨_, its, n, rv, g⟩ := I.hok _ _ e
      obtain ⟨as, q, z1, z2⟩ := Dq.readsAll I ds _ its ha rv
      refine ⟨_, Reads.list g rfl rfl q, fun t m => ?_, fun f => by simp only [PyData.hasDict]; exact z2 f⟩
      rcases List.mem_cons.mp m with m | m
      · exact sm t m.symm
      · exact z1 t m
  | .tuple ds, _, _, h, r => by
    cases h with
    | tup e ne ha =>
      cases r
      obtain ⟨_, its, rv, o, g, c, n, dd⟩ := I.hok _ _ e
      obtain ⟨as, q, z1, z2⟩ := Dq.readsAll I ds _ its ha rv
      exact ⟨_, Reads.tuple g c dd q, z1, fun f => by simp only [PyData.hasDict]; exact z2 f⟩
  | .dict kvs, _, _, h, r => by
    cases h with
    | dc0 bt e ne =>
      cases r
      obtain ⟨_, sm, vs, kv, o, es, ep, g, ex, dd, _, pr, _⟩ := I.hok _ _ e
      cases kv
      have el : es.toList = [] := by cases hh : es.toList with
        | nil => rfl
        | cons x r => rw [hh] at pr; cases pr
      refine ⟨_, Reads.dict (as := []) (bs := []) g ex.1 dd (by rw [el]; exact .nil) (by rw [el]; exact .nil), fun _ m => ?_, fun f => by rw [bt] at f; cases f⟩
      rcases List.mem_cons.mp m with m | m
      · exact absurd m.symm (beq_eq_false_iff_ne.mp sm)
      · exact List.not_mem_nil m
    | @dc1 a x v d bt e ne hd =>
      cases r
      obtain ⟨_, sm, vs, kv, o, es, ep, g, ex, dd, _, pr, _⟩ := I.hok _ _ e
      obtain ⟨w, rfl, rw'⟩ : ∃ w, vs = [((Sum.inr x : Key), w)] ∧ RelV v w := by
        cases vs with
        | nil => cases kv
        | cons q r =>
          cases r with
          | nil =>
            cases kv with
            | cons k1 k2 =>
              obtain ⟨kk, w⟩ := q
              obtain ⟨k1, k3⟩ := k1
              simp only at k1 k3
              subst k1
              exact ⟨w, rfl, k3⟩
          | cons _ _ =>
            cases kv with
            | cons k1 k2 => cases k2
      by_cases tt0 : True
      · skip
        have el : ∃ en : DictEntry, es.toList = [en] ∧ keyIs (Sum.inr x) en.key = true ∧ en.val = w := by
          cases hh : es.toList with
          | nil => rw [hh] at pr; cases pr
          | cons en r =>
            rw [hh] at pr
            cases pr with
            | cons i1 i2 i3 => cases i3; exact ⟨en, rfl, i1, i2⟩
        obtain ⟨en, el, hk, hv⟩ := el
        obtain ⟨t, ek⟩ : ∃ t, en.key = Value.str x t := by
          rcases keyIs_shape hk with ⟨i, t, e1, e2⟩ | ⟨y, t, e1, e2⟩
          · cases e1
          · cases e1; exact ⟨t, e2⟩
        obtain ⟨as, q, z1, z2⟩ := Dq.reads I d v w hd rw'
        refine ⟨_, Reads.dict (as := [] ++ []) (bs := as ++ []) g ex.1 dd (by rw [el]; exact .cons (by show Reads s.heap en.key (.str x) []; rw [ek]; exact Reads.str x t) .nil) (by rw [el]; exact .cons (by show Reads s.heap en.val d as; rw [hv]; exact q) .nil), fun tt m => ?_, fun f => by rw [bt] at f; cases f⟩
        simp only [List.append_nil, List.nil_append] at m
        rcases List.mem_cons.mp m with m | m
        · exact absurd m.symm (beq_eq_false_iff_ne.mp sm)
        · exact z1 tt m
      · exact absurd trivial tt0
theorem Dq.readsAll (I : Inv X pins σ H s) : ∀ (ds : List PyData) (vs : List V) (us : List Value), DqAll b p H vs ds → Vals vs us → ∃ as, ReadsAll s.heap us ds as ∧ (b = true → sysModules ∉ as) ∧ (b = false → PyData.hasDictAll ds = false)
  | [], _, _, h, r => by
    cases h
    cases r
    exact ⟨[], ReadsAll.nil, fun _ z => (List.not_mem_nil z).elim, fun _ => by simp only [PyData.hasDictAll]⟩
  | d :: ds, _, _, h, r => by
    cases h with
    | cons h1 h2 =>
      cases r with
      | cons r1 r2 =>
        obtain ⟨as, q1, y1, y2⟩ := Dq.reads I d _ _ h1 r1
        obtain ⟨bs, q2, z1, z2⟩ := Dq.readsAll I ds _ _ h2 r2
        refine ⟨_, ReadsAll.cons q1 q2, fun t m => ?_, fun f => by simp only [PyData.hasDictAll, y2 f, z2 f, Bool.or_self]⟩
        rcases List.mem_append.mp m with m | m
        · exact y1 t m
        · exact z1 t m
end
end
/-- the text of a value, what it asks -/
def Fits (d : PyData) : Prop := d.showable = true ∧ d.shown.length ≤ sizeLine ∧ d.depth ≤ 60
section
variable {X : Cx} {k : Nat}
theorem call_reprD (hr : X.A.guards = some [] ∧ Room k X.A) : CallR X (.builtin "repr") (fun xs H Q => ∃ a d b p, xs = [.ref a] ∧ Dq b p H (.ref a) d ∧ Fits d ∧ Q (.str d.shown) H) := by
  intro pins s σ H xs us Q I r h
  obtain ⟨a, d, b, p, rfl, hd, ⟨f1, f2, f3⟩, q⟩ := h
  obtain ⟨u, rfl, ru⟩ := vals1 r
  obtain ⟨as, rd, z1, z2⟩ := Dq.reads I d _ u hd ru
  cases ru
  have un := hr.2.un
  refine repr_of_reads' rd f1 (fun hx => ?_) hr.1 (by omega) (fun _ _ e => e) (fun h' u tk hk => ?_) f2
  · cases b with
    | true => exact z1 rfl
    | false => rw [z2 rfl] at hx; cases hx
  · exact ⟨.str _, H, I.kept hk, ⟨u, rfl⟩, q⟩
theorem call_reprV (hr : X.A.guards = some [] ∧ Room k X.A) : CallR X (.builtin "repr") (fun xs H Q => ∃ v d b p, xs = [v] ∧ Dq b p H v d ∧ Fits d ∧ Q (.str d.shown) H) := by
  intro pins s σ H xs us Q I r h
  obtain ⟨v, d, b, p, e, hd, f, q⟩ := h
  have go : ∀ a, v = .ref a → wpAny (model X.prog X.w) X.A (call (.builtin "repr") us) (EP X pins σ Q) X.xe s := fun a z => by
    subst z
    exact call_reprD hr pins s σ H xs us Q I r ⟨a, d, b, p, e, hd, f, q⟩
  cases hd with
  | non =>
    subst e
    obtain ⟨u, rfl, ru⟩ := vals1 r
    cases ru
    exact PySem.P.repr_of_none ⟨.str _, H, I.tok _, ⟨_, rfl⟩, q⟩
  | bl x =>
    subst e
    obtain ⟨u, rfl, ru⟩ := vals1 r
    cases ru
    refine PySem.P.repr_of_bool ⟨.str _, H, I.tok _, ⟨_, rfl⟩, ?_⟩
    simp only [PyData.shown] at q
    cases x <;> exact q
  | int x =>
    subst e
    obtain ⟨u, rfl, t, rfl⟩ := vals1 r
    exact PySem.P.repr_of_int (of_decide_eq_true f.1) ⟨.str _, H, I.tok _, ⟨_, rfl⟩, q⟩
  | str x =>
    subst e
    obtain ⟨u, rfl, t, rfl⟩ := vals1 r
    exact PySem.P.repr_of_str ⟨.str _, H, I.tok _, ⟨_, rfl⟩, q⟩ f.2.1
  | lst _ _ _ _ => exact go _ rfl
  | tup _ _ _ => exact go _ rfl
  | dc0 _ _ _ => exact go _ rfl
  | dc1 _ _ _ _ => exact go _ rfl
/-- a new list is not the table of modules -/
def tLstM (t : TA) : TE := fun σ H Q => t σ H fun xs H1 => xs.length ≤ sizeLine ∧ ∀ p, H1 p = none → p ≠ sysModules → Q (.ref p) (upd H1 p (.lst xs))
theorem pe_lstM {es : List Expr} {t : TA} {pos : Pos} (h : PA X es t) : PE X (.List es pos) (tLstM t) := by
  constructor
  intro pins s σ H Q I hq
  refine wpAny_List_spliced (thn (h.run pos pins s σ H _ I hq) ?_)
  rintro us s1 ⟨xs, H1, I1, r, z, q⟩
  have big := I1.big
  have new := I1.hok.fresh (Nat.le_refl s1.heap.objs.size)
  refine ⟨r.length ▸ z, .ref s1.heap.objs.size, upd H1 s1.heap.objs.size (.lst xs), I1.laid (t' := s1.toks) (fun _ _ e => Heap.get?_push_of_some _ e) (Nat.le_refl _) ⟨z, us, 0, r, Heap.get?_push_size _ rfl⟩, rfl, q _ new (Nat.ne_of_gt big)⟩
/-- a power of whole numbers -/
theorem op_powW : OpR X (binaryOp .Pow) (rI (fun i j => 0 ≤ j ∧ (Builtin.Int.intBits i : Int) * j ≤ 2 ^ 27) fun i j => .int (i ^ j.toNat)) := opI fun _ _ _ _ _ _ _ hc q => pow_int hc.1 hc.2 q
end
end Pf

set_option Elab.async false
set_option linter.all false
set_option maxRecDepth 100000
/-! Heaps, the pot, rules for tracked things: no text of a program. -/
namespace Pf
open PySem PySem.Spec PyProof.Rows L2
theorem at20 {x y : V} : atI [x, y] 0 = some x := rfl
theorem at21 {x y : V} : atI [x, y] 1 = some y := rfl
theorem at0 {x y z : V} : atI [x, y, z] 0 = some x := rfl
theorem at1 {x y z : V} : atI [x, y, z] 1 = some y := rfl
theorem at2 {x y z : V} : atI [x, y, z] 2 = some z := rfl
/-- an item of a list that is tracked -/
def rIxV : R2 := fun x y H Q => ∃ p xs i v, x = .ref p ∧ y = .int i ∧ H p = some (.lst xs) ∧ atI xs i = some v ∧ Q v H
theorem ix_v {X : Cx} : IxR X rIxV := by
  intro value slice pins s σ H x y u v Q I rx ry h hs
  obtain ⟨p, xs, i, z, e1, e2, e3, e4, q⟩ := h
  exact ix_list value slice pins s σ H x y u v Q I rx ry ⟨p, xs, i, z, e1, e2, SqL.of e3, e4, q⟩ hs
theorem call_intI {X : Cx} : CallR X (.type "int") (fun xs H Q => ∃ i, xs = [.int i] ∧ Q (.int i) H) := fun pins s σ H xs us Q I r h => call_int1 pins s σ H xs us Q I r (Or.inl h)
theorem call_lenL {X : Cx} : CallR X (.builtin "len") (fun xs H Q => ∃ p ys, xs = [.ref p] ∧ H p = some (.lst ys) ∧ Q (.int ys.length) H) := by
  intro pins s σ H xs us Q I r h
  obtain ⟨p, ys, e1, e2, q⟩ := h
  exact call_len_seq pins s σ H xs us Q I r ⟨p, ys, e1, .inl (SqL.of e2), q⟩
theorem call_lenT {X : Cx} : CallR X (.builtin "len") (fun xs H Q => ∃ p ys, xs = [.ref p] ∧ H p = some (.tup ys) ∧ Q (.int ys.length) H) := by
  intro pins s σ H xs us Q I r h
  obtain ⟨p, ys, e1, e2, q⟩ := h
  exact call_len_seq pins s σ H xs us Q I r ⟨p, ys, e1, .inr (SqT.of e2), q⟩
theorem atI_some {α : Type} {xs : List α} {i : Int} (h0 : 0 ≤ i) (h1 : i < xs.length) : ∃ x, atI xs i = some x ∧ x ∈ xs := by
  obtain ⟨n, rfl⟩ := Int.eq_ofNat_of_zero_le h0
  have hn : n < xs.length := by omega
  exact ⟨xs[n], atI_nat (List.getElem?_eq_getElem hn), List.getElem_mem hn⟩
def rIxP : R2 := fun x y H Q => ∃ p xs i v, x = .ref p ∧ y = .int i ∧ H p = some (.tup xs) ∧ atI xs i = some v ∧ Q v H
theorem ix_t {X : Cx} : IxR X rIxP := by
  intro value slice pins s σ H x y u v Q I rx ry h hs
  obtain ⟨p, xs, i, z, e1, e2, e3, e4, q⟩ := h
  exact ix_tup value slice pins s σ H x y u v Q I rx ry ⟨p, xs, i, z, e1, e2, SqT.of e3, e4, q⟩ hs
/-- (a, b) = a tracked tuple -/
def gTupV (n : Nat) (t : TGs) : TG := fun v σ H Q => ∃ a xs, v = .ref a ∧ H a = some (.tup xs) ∧ xs.length = n ∧ t xs σ H Q
theorem pg_tupV {X : Cx} {es : List Expr} {k : Nat} {t : TGs} {n : Nat} {pos : Pos} (hc : X.calm = true) (h : PGs X es t) (hn : (assignEach es X.env).length = n := by rfl) (hs : (assignEach es X.env).findIdx? (·.1) = none := by rfl) : PG X (.Tuple es k pos) (gTupV n t) := by
  constructor
  intro pins s σ H v u Q I r ⟨a, xs, e1, e2, e3, q⟩
  exact (pg_tup hc h hn hs).run pins s σ H v u Q I r ⟨a, xs, e1, SqT.of e2, e3, q⟩
/-- all(l), any(l) of a tracked list of truths -/
def rAllB : List V → Hp → VK → Prop := fun xs H Q => ∃ (a : Addr) (bs : List Bool), xs = [V.ref a] ∧ H a = some (.lst (bs.map V.bl)) ∧ Q (.bl (bs.all id)) H
def rAnyB : List V → Hp → VK → Prop := fun xs H Q => ∃ (a : Addr) (bs : List Bool), xs = [V.ref a] ∧ H a = some (.lst (bs.map V.bl)) ∧ Q (.bl (bs.any id)) H
theorem call_allB {X : Cx} (hc : X.calm = true) : CallR X (.builtin "all") rAllB := fun pins s σ H xs us Q I r ⟨a, bs, e1, e2, q⟩ => cr_all hc pins s σ H xs us Q I r ⟨a, bs, e1, SqL.of e2, q⟩
theorem call_anyB {X : Cx} (hc : X.calm = true) : CallR X (.builtin "any") rAnyB := fun pins s σ H xs us Q I r ⟨a, bs, e1, e2, q⟩ => cr_any hc pins s σ H xs us Q I r ⟨a, bs, e1, SqL.of e2, q⟩
/-- t[1:] of a tracked tuple -/
def rSl1 : V → Option Int → Option Int → Hp → VK → Prop := fun x lo hi H Q => ∃ (a : Addr) (xs : List V), x = .ref a ∧ lo = some 1 ∧ hi = none ∧ H a = some (.tup xs) ∧ ∀ (H' : Hp) (c : Addr), Same H H' → H' c = some (.tup (xs.drop 1)) → Q (.ref c) H'
theorem sl_one {X : Cx} : SlR X rSl1 := by
  intro pins s σ H x v vl vu lo hi sl Q I rx hs pl pu h
  obtain ⟨a, xs, e1, e2, e3, e4, q⟩ := h
  subst e2 e3
  have h1 : HT.sIx xs.length 0 (some 1) = min 1 xs.length := HT.sIx_nat xs.length 0 1
  have h2 : HT.sIx xs.length xs.length none = xs.length := HT.sIx_none ..
  refine sl_tupA pins s σ H x v vl vu _ _ sl Q I rx hs pl pu ⟨a, xs, e1, SqT.of e4, fun z => ?_, fun z c hc => ?_⟩
  · rw [h1, h2] at z
    have nil : xs = [] := List.eq_nil_of_length_eq_zero (by omega)
    subst nil
    exact q H a (Same.refl H) e4
  · refine q _ c (fun b o g => ?_) ?_
    · rw [upd_ne (ne_of_none g hc)]
      exact g
    · have cut : cutV xs (some 1) none = xs.drop 1 := by
        unfold cutV
        rw [h1, h2]
        cases xs with
        | nil => rfl
        | cons y r =>
          rw [show min 1 (y :: r).length = 1 from Nat.min_eq_left (by simp)]
          exact List.take_of_length_le (by simp)
      rw [cut, upd_same]
theorem call_tupleL {X : Cx} : CallR X (.type "tuple") (fun xs H Q => ∃ p ys, xs = [.ref p] ∧ H p = some (.lst ys) ∧ ∀ l, H l = none → Q (.ref l) (upd H l (.tup ys))) := fun pins s σ H xs us Q I r ⟨p, ys, e1, e2, q⟩ => call_tuple_of pins s σ H xs us Q I r ⟨p, ys, e1, .inl ⟨SqL.of e2, q⟩⟩
theorem call_listT {X : Cx} : CallR X (.type "list") (fun xs H Q => ∃ p ys, xs = [.ref p] ∧ H p = some (.tup ys) ∧ ∀ l, H l = none → Q (.ref l) (upd H l (.lst ys))) := fun pins s σ H xs us Q I r ⟨p, ys, e1, e2, q⟩ => call_list_of pins s σ H xs us Q I r ⟨p, ys, e1, .inr (SqT.of e2), q⟩
theorem ixN30 : ixN 3 0 = some 0 := rfl
theorem ixN32 : ixN 3 2 = some 2 := rfl
local macro_rules | `(tactic| walk_at "rd") => `(tactic| simp only [tC1, tCK, tB, rNe, rEq, tChain, gTupV, gCons, gNil, Nat.sub_self, Nat.reduceSub, List.replicate_zero, List.replicate_succ, tTest, tIfS, tIf, tNot, tAnd, tOr, tAndV, tOrV, tNotV, tDrop, tNext, rIxV, rIxP,
  gSub, rSetL, tSl, tPart, tNoPart, rSl1, tAsg2, ipI, tDNewK, tBM, rAppend, wipe, rAllB, rAnyB, iTup, iList, RZ.iZipA, iRng1, iRng2, tYes, upd_same, at0, at1, at2, at20, at21, ixN30, ixN32, HO.lst.injEq, HO.tup.injEq, Nat.reduceAdd, tSeq, tAsg, tPar, tAug, tOp, tVar, tC, tCB, tCons, tNil, rI, rI0, rU, tUn, gName, tRet, tLst, tLstM, tTup, L2.start, List.map_cons, List.map_nil, List.length_cons, List.length_nil, List.replicate, List.cons_append,
  List.nil_append, List.set_cons_zero, List.set_cons_succ, List.getElem?_cons_zero, List.getElem?_cons_succ, Option.some.injEq, V.int.injEq, V.ref.injEq, V.bl.injEq, V.str.injEq, List.cons.injEq, exists_eq_left', exists_eq_left, exists_and_left, exists_and_right, and_true, true_and, reduceCtorEq, false_and,
  exists_false, or_false, false_or, exists_const, exists_eq, exists_eq', Bool.not_true, Bool.not_false, Bool.false_eq_true, if_true, if_false, ite_true, ite_false])
/-- all that stood stays, but what is at p -/
def Kp (p : Addr) (H H' : Hp) : Prop := ∀ b o, b ≠ p → H b = some o → H' b = some o
theorem Kp.refl (p : Addr) (H : Hp) : Kp p H H := fun _ _ _ h => h
theorem Kp.trans {p : Addr} {H H1 H2 : Hp} (a : Kp p H H1) (b : Kp p H1 H2) : Kp p H H2 := fun c o n h => b c o n (a c o n h)
theorem Kp.of {p : Addr} {H H' : Hp} (a : Same H H') : Kp p H H' := fun c o _ h => a c o h
theorem Kp.new {p q : Addr} {H : Hp} {o : HO} (h : H q = none) : Kp p H (upd H q o) := fun b u _ e => by
  rw [upd_ne (ne_of_none e h)]
  exact e
theorem Kp.put {p : Addr} {H : Hp} {o : HO} : Kp p H (upd H p o) := fun b u n e => by
  rw [upd_ne n]
  exact e
theorem new_same {q : Addr} {H : Hp} {o : HO} (h : H q = none) : Same H (upd H q o) := fun b u e => by
  rw [upd_ne (ne_of_none e h)]
  exact e
theorem Kp.seqL {K : PySem.W.Frag} {p a : Addr} {H H' : Hp} {xs : List V} (k : Kp p H H') (n : a ≠ p) (h : SqL K H a xs) : SqL K H' a xs := by
  rcases h with (h | ⟨o, h⟩) | h
  · exact .inl (.inl (k _ _ n h))
  · exact .inl (.inr ⟨o, k _ _ n h⟩)
  · exact .inr h
/-- a place that is free behind was free ahead -/
theorem Kp.free {p q : Addr} {H H' : Hp} {u : HO} (k : Kp p H H') (hp : H' p = some u) (h : H' q = none) : H q = none := by
  cases e : H q with
  | none => rfl
  | some o =>
    by_cases n : q = p
    · rw [n, hp] at h
      cases h
    · rw [k _ _ n e] at h
      cases h
/-- a comprehension without ifs, whose turns leave what stood: its new list is out -/
theorem lcMap {J : It} {n : Nat} {G : Hp → Prop} {Y : Nat → Hp → V → Hp → Prop} (w : Walk J n G Y) {g : TG} {te : TE} {vs : List Nat} {σ : L2.St} {H1 : Hp} {Qd : Addr → Hp → Prop} (out : List V) (hn : out.length = n) (hz : n ≤ sizeLine) (hG : ∀ H, Same H1 H → G H)
    (hs : ∀ (i : Nat) (x : V) (H H' : Hp) (y : V) (R : VK), out[i]? = some y → Same H1 H → Y i H x H' → (∀ H4, Same H H4 → R y H4) → g x (wipe σ vs) H' fun σ2 H2 => wipe σ2 vs = wipe σ vs ∧ te σ2 H2 R)
    (hd : ∀ H D, H1 D = none → Same H1 H → H D = some (.lst out) → Qd D H) :
    ∀ D, H1 D = none → ∃ W : Nat → Nat → Hp → Prop, (∃ m, W 0 m (upd H1 D (.lst []))) ∧ ∀ i m H, W i m H →
      (J.stop i H ∧ Qd D H) ∨ (J.go i H ∧ ∃ Nx : Hp → Prop, (∀ H', Nx H' → ∃ m', m' < m ∧ W (i + 1) m' H') ∧ ∀ x H', J.yld i H x H' → g x (wipe σ vs) H' fun σ2 H2 => wipe σ2 vs = wipe σ vs ∧ tYes σ2 H2 fun on H3 =>
        if on = true then te σ2 H3 fun y H4 => ∃ made, H4 D = some (.lst made) ∧ made.length < sizeLine ∧ Nx (upd H4 D (.lst (made ++ [y]))) else Nx H3) := by
  intro D hD
  refine lc_it w (Qd := fun H => Qd D H) (fun i H => Same H1 H ∧ H D = some (.lst (out.take i))) ⟨new_same hD, by rw [upd_same]; rfl⟩ (fun i H _ h => hG H h.1) ?_ (fun H h => hd H D hD h.1 (by rw [h.2, List.take_of_length_le (by omega)]))
  rintro i x H H' hi ⟨hS, hL⟩ hy
  have hi2 : i < out.length := by omega
  simp only [tYes, if_true]
  refine hs i x H H' out[i] _ (List.getElem?_eq_getElem hi2) hS hy fun H4 h4 => ?_
  have l4 := h4 _ _ hL
  refine ⟨_, l4, by rw [List.length_take]; omega, fun b o e => ?_, ?_⟩
  · rw [upd_ne (ne_of_none e hD)]
    exact h4 _ _ (hS _ _ e)
  · rw [upd_same, List.take_add_one, List.getElem?_eq_getElem hi2]
    rfl
/-- zip of two tuples -/
theorem walk_zipT {K : PySem.W.Frag} {a b : Addr} {xs ys : List V} {n : Nat} (hn : n = min xs.length ys.length) : Walk (RZ.ItzT K a b) n (fun H => SqT K H a xs ∧ SqT K H b ys) (YPair (fun i => xs[i]?) (fun i => ys[i]?)) := by
  subst hn
  constructor
  · intro i H hi q
    have h1 : i < xs.length := Nat.lt_of_lt_of_le hi (Nat.min_le_left _ _)
    have h2 : i < ys.length := Nat.lt_of_lt_of_le hi (Nat.min_le_right _ _)
    exact ⟨xs, ys, xs[i], ys[i], q.1, q.2, List.getElem?_eq_getElem h1, List.getElem?_eq_getElem h2⟩
  · intro H q
    exact ⟨xs, ys, q.1, q.2, by omega⟩
  · rintro i H v H' _ q ⟨T, x, y, e1, e2, e3, e4, e5⟩
    exact ⟨T, x, y, e1, e2, e3, e4 xs q.1, e5 ys q.2⟩
/-- the pot: what is left of the cell, the mixed number, the draws so far (at most m) -/
def Pot (H : Hp) (p : Addr) (m : Nat) : Prop := ∃ a b c : Int, H p = some (.lst [.int a, .int b, .int c]) ∧ 0 ≤ a ∧ a.natAbs < 2 ^ 1000 ∧ 0 ≤ b ∧ b < 2 ^ 61 ∧ 0 ≤ c ∧ c ≤ m
theorem Pot.lst {H : Hp} {p : Addr} {m : Nat} (h : Pot H p m) : ∃ xs, H p = some (.lst xs) := by
  obtain ⟨a, b, c, e, _⟩ := h
  exact ⟨_, e⟩
theorem Pot.up {H : Hp} {p : Addr} {m n : Nat} (h : Pot H p m) (l : m ≤ n) : Pot H p n := by
  obtain ⟨a, b, c, e, h1, h2, h3, h4, h5, h6⟩ := h
  exact ⟨a, b, c, e, h1, h2, h3, h4, h5, by omega⟩
theorem Pot.same {H H' : Hp} {p : Addr} {m : Nat} (h : Pot H p m) (s : Same H H') : Pot H' p m := by
  obtain ⟨a, b, c, e, r⟩ := h
  exact ⟨a, b, c, s _ _ e, r⟩
theorem cell_at {ns : List Int} {k : Nat} (h : k < ns.length) : atI (ns.map V.int) (k : Int) = some (.int ns[k]) := atI_nat (by rw [List.getElem?_map, List.getElem?_eq_getElem h]; rfl)
theorem pow_bits {i j : Int} (h0 : 0 ≤ j) {n : Nat} (h : Builtin.Int.intBits i ≤ n) (h2 : (n : Int) * j ≤ 2 ^ 27) : 0 ≤ j ∧ (Builtin.Int.intBits i : Int) * j ≤ 2 ^ 27 :=
  ⟨h0, Int.le_trans (Int.mul_le_mul_of_nonneg_right (by omega) h0) h2⟩
theorem pot_c1 : (0 : Int) ≤ 60 ∧ (Builtin.Int.intBits 10 : Int) * 60 ≤ 2 ^ 27 := by decide +kernel
theorem pot_c2 : (0 : Int) ≤ 5 ∧ (Builtin.Int.intBits (10 ^ Int.toNat 60) : Int) * 5 ≤ 2 ^ 27 := by decide +kernel
theorem pot_c3 : (0 : Int) < (10 ^ Int.toNat 60) ^ Int.toNat 5 := by decide +kernel
theorem pot_c4 : (0 : Int) ≤ 18 ∧ (Builtin.Int.intBits 10 : Int) * 18 ≤ 2 ^ 27 := by decide +kernel
theorem pot_c5 {x y : Int} {b : Bool} : CMul (x % y) (if b = true then 1 else 0) := by
  cases b with
  | true => exact Or.inr (by decide)
  | false => exact Or.inr (by decide)
theorem pot_c6 (c : Int) : CMul (c % 2305843009213693951) 71993 := Or.inr (by decide)
theorem pot_c7 (x : Int) (h : -(2 ^ 64) < x ∧ x < 2 ^ 64) {k : Nat} (hk : k ≤ 63) : CMul x (k : Int) := Or.inl h
theorem pot_c8 {k : Nat} (hk : k ≤ 63) : CMul (9241 * (k : Int)) (k : Int) := Or.inr (by omega)
theorem pot_c9 : (((10 : Int) ^ Int.toNat 60) ^ Int.toNat 5).natAbs < 2 ^ 1000 := by decide +kernel
theorem pot_made (H : Hp) (p : Addr) (x y : Int) (b : Bool) : Pot (upd H p (.lst [.int (x % (10 ^ Int.toNat 60) ^ Int.toNat 5 * if b = true then 1 else 0), .int (y % 2305843009213693921), .int 0])) p 0 := by
  have g1 := Int.emod_nonneg x (Int.ne_of_gt pot_c3)
  have g2 := Int.emod_lt_of_pos x pot_c3
  have g3 := pot_c9
  refine ⟨_, _, _, upd_same, ?_, ?_, by omega, by omega, by decide, by decide⟩
  · cases b with
    | true => exact Int.mul_nonneg g1 (by decide)
    | false => exact Int.mul_nonneg g1 (by decide)
  · cases b with
    | true =>
      rw [if_pos rfl, Int.mul_one]
      exact Nat.lt_trans (Int.natAbs_lt_natAbs_of_nonneg_of_lt g1 g2) g3
    | false =>
      rw [if_neg Bool.false_ne_true, Int.mul_zero]
      exact Nat.two_pow_pos _
theorem five {j : Int} (h0 : 0 ≤ j) (h5 : j < 5) : ∃ q : Int, 0 < q ∧ q < 2 ^ 31 ∧ atI [V.int 2147483647, V.int 2147483629, V.int 2147483587, V.int 2147483579, V.int 2147483563] j = some (.int q) := by
  have c : j = 0 ∨ j = 1 ∨ j = 2 ∨ j = 3 ∨ j = 4 := by omega
  rcases c with rfl | rfl | rfl | rfl | rfl
  · exact ⟨2147483647, by decide, by decide, rfl⟩
  · exact ⟨2147483629, by decide, by decide, rfl⟩
  · exact ⟨2147483587, by decide, by decide, rfl⟩
  · exact ⟨2147483579, by decide, by decide, rfl⟩
  · exact ⟨2147483563, by decide, by decide, rfl⟩
end Pf

set_option Elab.async false
set_option linter.all false
set_option maxRecDepth 100000
/-! Which values are range sets; pairs. -/
namespace Pf
open PySem PySem.Spec PyProof.Rows L2
local macro_rules | `(tactic| walk_at "rd") => `(tactic| simp only [tC1, tCK, tB, rNe, rEq, tChain, gTupV, gCons, gNil, Nat.sub_self, Nat.reduceSub, List.replicate_zero, List.replicate_succ, tTest, tIfS, tIf, tNot, tAnd, tOr, tAndV, tOrV, tNotV, tDrop, tNext, rIxV, rIxP,
  gSub, rSetL, tSl, tPart, tNoPart, rSl1, tAsg2, ipI, tDNewK, tBM, rAppend, wipe, rAllB, rAnyB, iTup, iList, RZ.iZipA, iRng1, iRng2, tYes, upd_same, at0, at1, at2, at20, at21, ixN30, ixN32, HO.lst.injEq, HO.tup.injEq, Nat.reduceAdd, tSeq, tAsg, tPar, tAug, tOp, tVar, tC, tCB, tCons, tNil, rI, rI0, rU, tUn, gName, tRet, tLst, tLstM, tTup, L2.start, List.map_cons, List.map_nil, List.length_cons, List.length_nil, List.replicate, List.cons_append,
  List.nil_append, List.set_cons_zero, List.set_cons_succ, List.getElem?_cons_zero, List.getElem?_cons_succ, Option.some.injEq, V.int.injEq, V.ref.injEq, V.bl.injEq, V.str.injEq, List.cons.injEq, exists_eq_left', exists_eq_left, exists_and_left, exists_and_right, and_true, true_and, reduceCtorEq, false_and,
  exists_false, or_false, false_or, exists_const, exists_eq, exists_eq', Bool.not_true, Bool.not_false, Bool.false_eq_true, if_true, if_false, ite_true, ite_false])
/-! ### the mirror -/
def isIntD : PyData → Bool
  | .int _ => true
  | .bool _ => true
  | _ => false
def isBoolD : PyData → Bool
  | .bool _ => true
  | _ => false
def isTupD : PyData → Bool
  | .tuple _ => true
  | _ => false
def isNumD : PyData → Bool
  | .int _ => true
  | _ => false
def pairOf : PyData → Option (Int × Int)
  | .tuple [.int a, .int b] => some (a, b)
  | _ => none
def isPairD (d : PyData) : Bool :=
  match pairOf d with
  | some q => decide (q.1 ≤ q.2)
  | none => false
def stepD (d e : PyData) : Bool :=
  match pairOf d, pairOf e with
  | some q, some r => decide (q.2 + 2 ≤ r.1)
  | _, _ => false
def stepsD : List PyData → List Bool
  | d :: e :: r => stepD d e :: stepsD (e :: r)
  | _ => []
def isRangesD : PyData → Bool
  | .tuple ds => ds.all isPairD && (stepsD ds).all id
  | _ => false
theorem pairOf_len {ds : List PyData} (h : ds.length ≠ 2) : pairOf (.tuple ds) = none := by
  unfold pairOf
  split
  · rename_i e
    cases e
    exact absurd rfl h
  · rfl
theorem _root_.L2.Same.seqT {K : PySem.W.Frag} {H H' : Hp} {a : Addr} {xs : List V} (e : Same H H') (h : SqT K H a xs) : SqT K H' a xs := by
  rcases h with (h | ⟨o, h⟩) | h
  · exact .inl (.inl (e _ _ h))
  · exact .inl (.inr ⟨o, e _ _ h⟩)
  · exact .inr h
theorem DqAll.length {b : Bool} {p : Addr} {H : Hp} : ∀ {vs : List V} {ds : List PyData}, DqAll b p H vs ds → vs.length = ds.length
  | _, _, .nil => rfl
  | _, _, .cons _ t => congrArg Nat.succ (DqAll.length t)
theorem DqAll.get {b : Bool} {p : Addr} {H : Hp} : ∀ {vs : List V} {ds : List PyData} {i : Nat} {v : V}, DqAll b p H vs ds → vs[i]? = some v → ∃ d, ds[i]? = some d ∧ Dq b p H v d
  | _, _, _, _, .nil, e => by simp at e
  | _, _, 0, _, .cons h _, e => by
    simp at e
    subst e
    exact ⟨_, rfl, h⟩
  | _, _, i + 1, _, .cons _ t, e => by
    obtain ⟨d, e1, e2⟩ := DqAll.get (i := i) t (by simpa using e)
    exact ⟨d, by simpa using e1, e2⟩
mutual
theorem Dq.keep {b : Bool} {p : Addr} {H H' : Hp} (k : Kp p H H') : ∀ (d : PyData) (v : V), Dq b p H v d → Dq b p H' v d
  | .none, _, h => by cases h; exact .non
  | .bool x, _, h => by cases h; exact .bl x
  | .int x, _, h => by cases h; exact .int x
  | .str x, _, h => by cases h; exact .str x
  | .list ds, _, h => by
    cases h with
    | lst g ne sm ha => exact .lst (k _ _ ne g) ne sm (Dq.keepAll k ds _ ha)
  | .tuple ds, _, h => by
    cases h with
    | tup g ne ha => exact .tup (k _ _ ne g) ne (Dq.keepAll k ds _ ha)
  | .dict kvs, _, h => by
    cases h with
    | dc0 t g ne => exact .dc0 t (k _ _ ne g) ne
    | @dc1 a x v d t g ne hd => exact .dc1 t (k _ _ ne g) ne (Dq.keep k d v hd)
theorem Dq.keepAll {b : Bool} {p : Addr} {H H' : Hp} (k : Kp p H H') : ∀ (ds : List PyData) (vs : List V), DqAll b p H vs ds → DqAll b p H' vs ds
  | [], _, h => by cases h; exact .nil
  | d :: ds, _, h => by
    cases h with
    | cons h1 h2 => exact .cons (Dq.keep k d _ h1) (Dq.keepAll k ds _ h2)
end
theorem Dq.same {b : Bool} {p : Addr} {H H' : Hp} {d : PyData} {v : V} (h : Dq b p H v d) (s : Same H H') : Dq b p H' v d := Dq.keep (Kp.of s) d v h
theorem DqAll.same {b : Bool} {p : Addr} {H H' : Hp} {ds : List PyData} {vs : List V} (h : DqAll b p H vs ds) (s : Same H H') : DqAll b p H' vs ds := Dq.keepAll (Kp.of s) ds vs h
theorem stepsD_len : ∀ ds : List PyData, (stepsD ds).length = ds.length - 1
  | [] => rfl
  | [_] => rfl
  | d :: e :: r => by
    have ih := stepsD_len (e :: r)
    unfold stepsD
    rw [List.length_cons, ih]
    simp
theorem stepsD_get : ∀ {ds : List PyData} {i : Nat} {d e : PyData}, ds[i]? = some d → ds[i + 1]? = some e → (stepsD ds)[i]? = some (stepD d e)
  | [], _, _, _, h, _ => by simp at h
  | [_], 0, _, _, _, h => by simp at h
  | [_], i + 1, _, _, h, _ => by simp at h
  | a :: b :: r, 0, d, e, h, h2 => by
    simp at h h2
    subst h h2
    rfl
  | a :: b :: r, i + 1, d, e, h, h2 => by
    unfold stepsD
    simpa using stepsD_get (ds := b :: r) (i := i) (by simpa using h) (by simpa using h2)
theorem pair_of {ds : List PyData} {i : Nat} {d : PyData} (al : ds.all isPairD = true) (h : ds[i]? = some d) : ∃ l r, pairOf d = some (l, r) := by
  have q := List.all_eq_true.mp al d (List.mem_of_getElem? h)
  unfold isPairD at q
  split at q
  · rename_i z e
    exact ⟨z.1, z.2, e⟩
  · cases q
theorem Dq.pair {b : Bool} {p : Addr} {H : Hp} {v : V} {d : PyData} {l r : Int} (h : Dq b p H v d) (e : pairOf d = some (l, r)) : ∃ t, v = .ref t ∧ H t = some (.tup [.int l, .int r]) := by
  unfold pairOf at e
  split at e
  · cases e
    cases h with
    | tup g ne ha =>
      cases ha with
      | cons h1 t1 =>
        cases t1 with
        | cons h2 t2 =>
          cases h1
          cases h2
          cases t2
          exact ⟨_, rfl, g⟩
  · cases e
def loD (d : PyData) : Int :=
  match pairOf d with
  | some q => q.1
  | none => 0
def hiD (d : PyData) : Int :=
  match pairOf d with
  | some q => q.2
  | none => 0
def inOne (n : Int) (d : PyData) : Bool :=
  match pairOf d with
  | some q => decide (q.1 ≤ n) && decide (n ≤ q.2)
  | none => false
def inD (ds : List PyData) (n : Int) : Bool := ds.any (inOne n)
theorem pair_lohi {d : PyData} {l h : Int} (e : pairOf d = some (l, h)) : loD d = l ∧ hiD d = h ∧ ∀ n, inOne n d = (decide (l ≤ n) && decide (n ≤ h)) := by
  unfold loD hiD inOne
  rw [e]
  exact ⟨rfl, rfl, fun _ => rfl⟩
structure Rgs (ds : List PyData) : Prop where
  pr : ∀ i, i < ds.length → pairOf (ds.getD i .none) = some (loD (ds.getD i .none), hiD (ds.getD i .none))
  le : ∀ i, i < ds.length → loD (ds.getD i .none) ≤ hiD (ds.getD i .none)
  st : ∀ i, i + 1 < ds.length → hiD (ds.getD i .none) + 2 ≤ loD (ds.getD (i + 1) .none)
theorem getD_at {ds : List PyData} {i : Nat} (h : i < ds.length) : ds[i]? = some (ds.getD i .none) := by
  rw [List.getD_eq_getElem?_getD, List.getElem?_eq_getElem h]
  rfl
theorem rgs_of {ds : List PyData} (h : isRangesD (.tuple ds) = true) : Rgs ds := by
  have h' : (ds.all isPairD && (stepsD ds).all id) = true := h
  obtain ⟨h1, h2⟩ := Bool.and_eq_true_iff.mp h'
  have pr : ∀ i, i < ds.length → pairOf (ds.getD i .none) = some (loD (ds.getD i .none), hiD (ds.getD i .none)) := fun i hi => by
    obtain ⟨l, r, e⟩ := pair_of h1 (getD_at hi)
    obtain ⟨e1, e2, _⟩ := pair_lohi e
    rw [e1, e2]
    exact e
  refine ⟨pr, fun i hi => ?_, fun i hi => ?_⟩
  · have q := List.all_eq_true.mp h1 _ (List.mem_of_getElem? (getD_at hi))
    unfold isPairD at q
    rw [pr i hi] at q
    exact of_decide_eq_true q
  · have g := stepsD_get (getD_at (show i < ds.length by omega)) (getD_at hi)
    have q := List.all_eq_true.mp h2 _ (List.mem_of_getElem? g)
    unfold stepD at q
    rw [pr i (by omega), pr (i + 1) hi] at q
    exact of_decide_eq_true q
theorem Rgs.up {ds : List PyData} (r : Rgs ds) : ∀ (j i : Nat), i ≤ j → j < ds.length → loD (ds.getD i .none) ≤ loD (ds.getD j .none) ∧ hiD (ds.getD i .none) ≤ hiD (ds.getD j .none)
  | 0, i, h, _ => by
    have e : i = 0 := by omega
    rw [e]
    exact ⟨Int.le_refl _, Int.le_refl _⟩
  | j + 1, i, h, hj => by
    by_cases e : i = j + 1
    · rw [e]
      exact ⟨Int.le_refl _, Int.le_refl _⟩
    · have ih := r.up j i (by omega) (by omega)
      have s1 := r.st j hj
      have s2 := r.le j (by omega)
      have s3 := r.le (j + 1) hj
      omega
theorem Rgs.find {ds : List PyData} (r : Rgs ds) {n : Int} {f : Nat} (hf : f ≤ ds.length) (h1 : ∀ i, i < f → hiD (ds.getD i .none) < n) (h2 : ∀ i, f ≤ i → i < ds.length → n ≤ hiD (ds.getD i .none)) :
    inD ds n = (decide (f < ds.length) && decide (loD (ds.getD f .none) ≤ n)) := by
  have one : ∀ i, i < ds.length → inOne n (ds.getD i .none) = (decide (loD (ds.getD i .none) ≤ n) && decide (n ≤ hiD (ds.getD i .none))) := fun i hi => (pair_lohi (r.pr i hi)).2.2 n
  by_cases hl : f < ds.length ∧ loD (ds.getD f .none) ≤ n
  · rw [decide_eq_true hl.1, decide_eq_true hl.2]
    refine List.any_eq_true.mpr ⟨ds.getD f .none, List.mem_of_getElem? (getD_at hl.1), ?_⟩
    rw [one f hl.1, decide_eq_true hl.2, decide_eq_true (h2 f (Nat.le_refl _) hl.1)]
    rfl
  · have e : (decide (f < ds.length) && decide (loD (ds.getD f .none) ≤ n)) = false := by
      rw [← Bool.decide_and]
      exact decide_eq_false hl
    rw [e]
    refine List.any_eq_false.mpr fun d hd => ?_
    obtain ⟨i, hi, e⟩ := List.getElem_of_mem hd
    have ed : d = ds.getD i .none := by
      have := getD_at hi
      rw [List.getElem?_eq_getElem hi, e] at this
      exact Option.some.inj this
    rw [ed, one i hi]
    by_cases lt : i < f
    · rw [decide_eq_false (show ¬ n ≤ hiD (ds.getD i .none) by have := h1 i lt; omega), Bool.and_false]
      exact Bool.false_ne_true
    · have u := (r.up i f (by omega) hi).1
      have nl : ¬ loD (ds.getD i .none) ≤ n := fun z => hl ⟨by omega, by omega⟩
      rw [decide_eq_false nl, Bool.false_and]
      exact Bool.false_ne_true
def gap : L2.St → Nat
  | [_, _, some (.int x), some (.int y), _] => (y - x).toNat
  | _ => 0
/-! ### rules -/
theorem isiD {X : Cx} {b : Bool} {p : Addr} {H : Hp} {v : V} {d : PyData} (h : Dq b p H v d) {T : String} {r : Bool} (e : ∀ t, TyX X.K H v (.type t) → t ∈ ["NoneType", "bool", "int", "str", "list", "tuple", "dict"] → kitB t T = some r) : ∃ t, TyX X.K H v t ∧ PySem.W.kitOne X.K t (.type T) = some r := by
  cases h with
  | non => exact ⟨_, .base .non, kit_ty (e _ (.base .non) (by decide))⟩
  | bl x => exact ⟨_, .base (.bl x), kit_ty (e _ (.base (.bl x)) (by decide))⟩
  | int x => exact ⟨_, .base (.int x), kit_ty (e _ (.base (.int x)) (by decide))⟩
  | str x => exact ⟨_, .base (.str x), kit_ty (e _ (.base (.str x)) (by decide))⟩
  | lst g _ _ _ => exact ⟨_, .base (.lst g), kit_ty (e _ (.base (.lst g)) (by decide))⟩
  | tup g _ _ => exact ⟨_, .base (.tup g), kit_ty (e _ (.base (.tup g)) (by decide))⟩
  | dc0 _ g _ => exact ⟨_, .base (.dK g), kit_ty (e _ (.base (.dK g)) (by decide))⟩
  | dc1 _ g _ _ => exact ⟨_, .base (.dK g), kit_ty (e _ (.base (.dK g)) (by decide))⟩
theorem tyD {K : PySem.W.Frag} {b : Bool} {p : Addr} {H : Hp} {v : V} {d : PyData} (h : Dq b p H v d) : ∃ t, TyX K H v (.type t) ∧ kitB t "int" = some (isIntD d) ∧ kitB t "bool" = some (isBoolD d) ∧ kitB t "tuple" = some (isTupD d) := by
  cases h with
  | non => exact ⟨_, .base .non, by decide +kernel, by decide +kernel, by decide +kernel⟩
  | bl x => exact ⟨_, .base (.bl x), by show kitB "bool" "int" = some true; decide +kernel, by show kitB "bool" "bool" = some true; decide +kernel, by show kitB "bool" "tuple" = some false; decide +kernel⟩
  | int x => exact ⟨_, .base (.int x), by show kitB "int" "int" = some true; decide +kernel, by show kitB "int" "bool" = some false; decide +kernel, by show kitB "int" "tuple" = some false; decide +kernel⟩
  | str x => exact ⟨_, .base (.str x), by show kitB "str" "int" = some false; decide +kernel, by show kitB "str" "bool" = some false; decide +kernel, by show kitB "str" "tuple" = some false; decide +kernel⟩
  | lst g _ _ _ => exact ⟨_, .base (.lst g), by show kitB "list" "int" = some false; decide +kernel, by show kitB "list" "bool" = some false; decide +kernel, by show kitB "list" "tuple" = some false; decide +kernel⟩
  | tup g _ _ => exact ⟨_, .base (.tup g), by show kitB "tuple" "int" = some false; decide +kernel, by show kitB "tuple" "bool" = some false; decide +kernel, by show kitB "tuple" "tuple" = some true; decide +kernel⟩
  | dc0 _ g _ => exact ⟨_, .base (.dK g), by show kitB "dict" "int" = some false; decide +kernel, by show kitB "dict" "bool" = some false; decide +kernel, by show kitB "dict" "tuple" = some false; decide +kernel⟩
  | dc1 _ g _ _ => exact ⟨_, .base (.dK g), by show kitB "dict" "int" = some false; decide +kernel, by show kitB "dict" "bool" = some false; decide +kernel, by show kitB "dict" "tuple" = some false; decide +kernel⟩
section
variable {X : Cx}
theorem call_isiInt : CallR X (.builtin "isinstance") (fun xs H Q => ∃ v d b p, xs = [v, .ty "int"] ∧ Dq b p H v d ∧ Q (.bl (isIntD d)) H) := by
  intro pins s σ H xs us Q I r h
  obtain ⟨v, d, b, p, e, hd, q⟩ := h
  obtain ⟨t, ty, k1, k2, k3⟩ := tyD (K := X.K) hd
  exact call_isi pins s σ H xs us Q I r ⟨v, _, _, _, _, e, .ty _, ty, kit_ty k1, q⟩
theorem call_isiBool : CallR X (.builtin "isinstance") (fun xs H Q => ∃ v d b p, xs = [v, .ty "bool"] ∧ Dq b p H v d ∧ Q (.bl (isBoolD d)) H) := by
  intro pins s σ H xs us Q I r h
  obtain ⟨v, d, b, p, e, hd, q⟩ := h
  obtain ⟨t, ty, k1, k2, k3⟩ := tyD (K := X.K) hd
  exact call_isi pins s σ H xs us Q I r ⟨v, _, _, _, _, e, .ty _, ty, kit_ty k2, q⟩
theorem call_isiTup : CallR X (.builtin "isinstance") (fun xs H Q => ∃ v d b p, xs = [v, .ty "tuple"] ∧ Dq b p H v d ∧ Q (.bl (isTupD d)) H) := by
  intro pins s σ H xs us Q I r h
  obtain ⟨v, d, b, p, e, hd, q⟩ := h
  obtain ⟨t, ty, k1, k2, k3⟩ := tyD (K := X.K) hd
  exact call_isi pins s σ H xs us Q I r ⟨v, _, _, _, _, e, .ty _, ty, kit_ty k3, q⟩
end
/-! ### pairs as tuples of two numbers -/
def prD (q : Int × Int) : PyData := .tuple [.int q.1, .int q.2]
theorem pairOf_pr (q : Int × Int) : pairOf (prD q) = some q := rfl
/-- v is a tuple of the two numbers q -/
def PrAt (H : Hp) (v : V) (q : Int × Int) : Prop := ∃ t, v = .ref t ∧ H t = some (.tup [.int q.1, .int q.2])
abbrev PrAll (H : Hp) : List V → List (Int × Int) → Prop := Paired (PrAt H)
/-- tuples stay -/
def TK (H H' : Hp) : Prop := ∀ b xs, H b = some (.tup xs) → H' b = some (.tup xs)
theorem TK.refl (H : Hp) : TK H H := fun _ _ h => h
theorem TK.trans {H H1 H2 : Hp} (a : TK H H1) (b : TK H1 H2) : TK H H2 := fun c xs h => b c xs (a c xs h)
theorem TK.of {H H' : Hp} (s : Same H H') : TK H H' := fun b xs h => s b _ h
theorem TK.kp {p : Addr} {H H' : Hp} (k : Kp p H H') {ys : List V} (e : H p = some (.lst ys)) : TK H H' := fun b xs h => k b _ (fun z => by rw [z, e] at h; cases h) h
theorem TK.put {l : Addr} {H : Hp} {ys : List V} {o : HO} (e : H l = some (.lst ys)) : TK H (upd H l o) := fun b xs h => by
  rw [upd_ne (fun z => by rw [z, e] at h; cases h)]
  exact h
theorem PrAll.tk {H H' : Hp} {xs : List V} {ps : List (Int × Int)} (h : PrAll H xs ps) (k : TK H H') : PrAll H' xs ps := Paired.mono (fun v q ⟨t, e1, e2⟩ => ⟨t, e1, k _ _ e2⟩) h
theorem PrAll.len {H : Hp} {xs : List V} {ps : List (Int × Int)} (h : PrAll H xs ps) : xs.length = ps.length := Paired.length h
theorem PrAll.snoc {H : Hp} {xs : List V} {ps : List (Int × Int)} {v : V} {q : Int × Int} (h : PrAll H xs ps) (k : PrAt H v q) : PrAll H (xs ++ [v]) (ps ++ [q]) := Paired.snoc h k
theorem PrAll.dq {b : Bool} {p : Addr} {H : Hp} {ys : List V} (e : H p = some (.lst ys)) : ∀ {xs : List V} {ps : List (Int × Int)}, PrAll H xs ps → DqAll b p H xs (ps.map prD)
  | _, _, .nil => .nil
  | _, _, .cons ⟨t, e1, e2⟩ r => by
    subst e1
    exact .cons (.tup e2 (fun z => by rw [z, e] at e2; cases e2) (.cons (.int _) (.cons (.int _) .nil))) (PrAll.dq e r)
theorem Kp.putNew {p l : Addr} {H H' : Hp} {o : HO} (k : Kp p H H') (hl : H l = none) : Kp p H (upd H' l o) := fun b u n e => by
  rw [upd_ne (ne_of_none e hl)]
  exact k b u n e
theorem Pot.eq {p : Addr} {H H' : Hp} {m : Nat} (h : Pot H p m) (e : H' p = H p) : Pot H' p m := by
  obtain ⟨a, b, c, g, r⟩ := h
  exact ⟨a, b, c, e.trans g, r⟩
theorem menu6 {w a b c : Int} (hw : 0 ≤ w) (ha : 0 ≤ a ∧ a ≤ 5) (hb : 0 ≤ b ∧ b ≤ 5) (hc : 0 ≤ c ∧ c ≤ 5) {x : V} (h : x ∈ [V.int 0, V.int 0, V.int a, V.int b, V.int c, V.int w]) : ∃ v, x = .int v ∧ 0 ≤ v ∧ v ≤ w + 5 := by
  simp only [List.mem_cons, List.not_mem_nil, or_false] at h
  rcases h with rfl | rfl | rfl | rfl | rfl | rfl
  · exact ⟨0, rfl, by omega, by omega⟩
  · exact ⟨0, rfl, by omega, by omega⟩
  · exact ⟨a, rfl, by omega, by omega⟩
  · exact ⟨b, rfl, by omega, by omega⟩
  · exact ⟨c, rfl, by omega, by omega⟩
  · exact ⟨w, rfl, by omega, by omega⟩
theorem menu5 {w a b : Int} (hw : 0 ≤ w) (ha : 0 ≤ a ∧ a ≤ 5) (hb : 0 ≤ b ∧ b ≤ 5) {x : V} (h : x ∈ [V.int 0, V.int 0, V.int a, V.int b, V.int w]) : ∃ v, x = .int v ∧ 0 ≤ v ∧ v ≤ w + 5 := by
  simp only [List.mem_cons, List.not_mem_nil, or_false] at h
  rcases h with rfl | rfl | rfl | rfl | rfl
  · exact ⟨0, rfl, by omega, by omega⟩
  · exact ⟨0, rfl, by omega, by omega⟩
  · exact ⟨a, rfl, by omega, by omega⟩
  · exact ⟨b, rfl, by omega, by omega⟩
  · exact ⟨w, rfl, by omega, by omega⟩
theorem pair_intro : ∀ {es : List PyData}, es.length = 2 → es.all isNumD = true → ∃ q, pairOf (.tuple es) = some q
  | [], h, _ => by cases h
  | [_], h, _ => by cases h
  | a :: b :: c :: r, h, _ => by simp at h
  | [a, b], _, h => by
    have h' : (isNumD a && (isNumD b && true)) = true := h
    cases a with
    | int x =>
      cases b with
      | int y => exact ⟨(x, y), rfl⟩
      | none => cases h'
      | bool _ => cases h'
      | str _ => cases h'
      | list _ => cases h'
      | tuple _ => cases h'
      | dict _ => cases h'
    | none => cases h'
    | bool _ => cases h'
    | str _ => cases h'
    | list _ => cases h'
    | tuple _ => cases h'
    | dict _ => cases h'
theorem pair_some {es : List PyData} {q : Int × Int} (h : pairOf (.tuple es) = some q) : es.length = 2 ∧ es.all isNumD = true := by
  unfold pairOf at h
  split at h
  · rename_i e
    cases e
    exact ⟨rfl, rfl⟩
  · cases h
theorem not_pair {d : PyData} (h : pairOf d = none) : isPairD d = false := by
  unfold isPairD
  rw [h]
theorem not_ranges {ds : List PyData} {i : Nat} {d : PyData} (e : ds[i]? = some d) (h : isPairD d = false) : isRangesD (.tuple ds) = false := by
  have n : ds.all isPairD = false := by
    cases q : ds.all isPairD with
    | false => rfl
    | true =>
      have := List.all_eq_true.mp q d (List.mem_of_getElem? e)
      rw [h] at this
      cases this
  show (ds.all isPairD && (stepsD ds).all id) = false
  rw [n]
  rfl
end Pf

set_option Elab.async false
set_option linter.all false
set_option maxRecDepth 100000
/-! The length of a text. -/
namespace Pf
open PySem PySem.Spec PyProof.Rows L2
def tlB : PyData → Bool
  | .tuple ds => decide (ds.length ≤ 1000)
  | _ => true
def szB (n k : Nat) (d : PyData) : Bool := d.showable && (decide (d.shown.length ≤ n) && (decide (d.depth ≤ k) && tlB d))
def Sz (n k : Nat) (d : PyData) : Prop := d.showable = true ∧ d.shown.length ≤ n ∧ d.depth ≤ k ∧ tlB d = true
theorem sz_of {n k : Nat} {d : PyData} (h : szB n k d = true) : Sz n k d := by
  unfold szB at h
  rw [Bool.and_eq_true, Bool.and_eq_true, Bool.and_eq_true] at h
  exact ⟨h.1, of_decide_eq_true h.2.1, of_decide_eq_true h.2.2.1, h.2.2.2⟩
theorem Sz.up {n k n' k' : Nat} {d : PyData} (h : Sz n k d) (hn : n ≤ n') (hk : k ≤ k') : Sz n' k' d := ⟨h.1, Nat.le_trans h.2.1 hn, Nat.le_trans h.2.2.1 hk, h.2.2.2⟩
theorem Sz.tl {n k : Nat} {d : PyData} (h : Sz n k d) : ∀ ds, d = .tuple ds → ds.length ≤ 1000 := fun ds e => by
  have q := h.2.2.2
  rw [e] at q
  exact of_decide_eq_true q
theorem Sz.fits {n k : Nat} {d : PyData} (h : Sz n k d) (hn : n ≤ sizeLine) (hk : k ≤ 60) : Fits d := ⟨h.1, Nat.le_trans h.2.1 hn, Nat.le_trans h.2.2.1 hk⟩
theorem Sz.all {n k : Nat} : ∀ {ds : List PyData}, (∀ d ∈ ds, Sz n k d) → PyData.showableAll ds = true ∧ ((PyData.shownAll ds).map (·.length)).sum ≤ ds.length * n ∧ (PyData.shownAll ds).length = ds.length ∧ PyData.depthAll ds ≤ k
  | [], _ => ⟨rfl, by simp [PyData.shownAll], rfl, Nat.zero_le _⟩
  | d :: ds, h => by
    obtain ⟨h1, h2, h3, _⟩ := h d List.mem_cons_self
    obtain ⟨i1, i2, i3, i4⟩ := Sz.all (ds := ds) fun e he => h e (List.mem_cons_of_mem _ he)
    refine ⟨?_, ?_, ?_, ?_⟩
    · simp only [PyData.showableAll, h1, i1, Bool.and_self]
    · simp only [PyData.shownAll, List.map_cons, List.sum_cons, List.length_cons, Nat.add_mul, Nat.one_mul]
      omega
    · simp only [PyData.shownAll, List.length_cons, i3]
    · simp only [PyData.depthAll]
      exact Nat.max_le.mpr ⟨h3, i4⟩
theorem Sz.tuple {n k : Nat} {ds : List PyData} (h : ∀ d ∈ ds, Sz n k d) (hl : ds.length ≤ 1000 := by simp) : Sz (ds.length * (n + 2) + 3) (k + 1) (.tuple ds) := by
  obtain ⟨i1, i2, i3, i4⟩ := Sz.all h
  refine ⟨by simp only [PyData.showable]; exact i1, ?_, by simp only [PyData.depth]; omega, decide_eq_true hl⟩
  have := tupleText_len_le (PyData.shownAll ds)
  simp only [PyData.shown]
  rw [Nat.mul_add]
  omega
theorem Sz.list {n k : Nat} {ds : List PyData} (h : ∀ d ∈ ds, Sz n k d) : Sz (ds.length * (n + 2) + 3) (k + 1) (.list ds) := by
  obtain ⟨i1, i2, i3, i4⟩ := Sz.all h
  refine ⟨by simp only [PyData.showable]; exact i1, ?_, by simp only [PyData.depth]; omega, rfl⟩
  have := listText_len_le (PyData.shownAll ds)
  simp only [PyData.shown]
  rw [Nat.mul_add]
  omega
theorem int_sz {i : Int} (h : i.natAbs < 10 ^ 40) : Sz 41 0 (.int i) := by
  have e := int_text_length_le10 (k := 40) (by decide) h
  have lg : i.natAbs.log2 < 1920 := by
    by_cases z : i.natAbs = 0
    · rw [z]
      decide
    · exact (Nat.log2_lt z).mpr (Nat.lt_of_lt_of_le h (by decide +kernel))
  refine ⟨by simp only [PyData.showable]; exact decide_eq_true lg, ?_, by simp only [PyData.depth]; omega, rfl⟩
  simp only [PyData.shown]
  rw [PySem.ofString_length]
  exact e
def Near (q : Int × Int) : Prop := q.1.natAbs < 10 ^ 40 ∧ q.2.natAbs < 10 ^ 40
theorem pr_sz {q : Int × Int} (h : Near q) : Sz 100 1 (prD q) := by
  refine (Sz.tuple (n := 41) (k := 0) fun e he => ?_).up (by simp only [List.length_cons, List.length_nil]; omega) (by omega)
  rcases List.mem_cons.mp he with e1 | he
  · rw [e1]
    exact int_sz h.1
  · rw [List.mem_singleton.mp he]
    exact int_sz h.2
theorem prs_sz {ps : List (Int × Int)} (h : ∀ q ∈ ps, Near q) : ∀ d ∈ ps.map prD, Sz 100 1 d := fun d hd => by
  obtain ⟨q, hq, e⟩ := List.mem_map.mp hd
  rw [← e]
  exact pr_sz (h q hq)
end Pf

/-! Range sets as lists of pairs: what is in them, that each set of numbers has one, and what the program's functions make of them. No Python here. -/
namespace Rng
abbrev Prs := List (Int × Int)
/-- ascending pairs that do not touch, from k upwards -/
def From (k : Int) : Prs → Prop
  | [] => True
  | q :: r => k ≤ q.1 ∧ q.1 ≤ q.2 ∧ From (q.2 + 2) r
/-- a range set -/
def Rg (ps : Prs) : Prop := ∃ k, From k ps
def In (n : Int) (ps : Prs) : Prop := ∃ q, q ∈ ps ∧ q.1 ≤ n ∧ n ≤ q.2
theorem From.down {k j : Int} {ps : Prs} (h : From k ps) (l : j ≤ k) : From j ps := by
  cases ps with
  | nil => trivial
  | cons q r => exact ⟨by have := h.1; omega, h.2⟩
theorem In.nil {n : Int} : ¬ In n [] := fun ⟨_, m, _⟩ => List.not_mem_nil m
theorem In.cons {n : Int} {q : Int × Int} {r : Prs} : In n (q :: r) ↔ (q.1 ≤ n ∧ n ≤ q.2) ∨ In n r := by
  constructor
  · rintro ⟨z, m, h⟩
    rcases List.mem_cons.mp m with e | m
    · exact Or.inl (e ▸ h)
    · exact Or.inr ⟨z, m, h⟩
  · rintro (h | ⟨z, m, h⟩)
    · exact ⟨q, List.mem_cons_self, h⟩
    · exact ⟨z, List.mem_cons_of_mem _ m, h⟩
theorem In.app {n : Int} {r s : Prs} : In n (r ++ s) ↔ In n r ∨ In n s := by
  constructor
  · rintro ⟨z, m, h⟩
    rcases List.mem_append.mp m with m | m
    · exact Or.inl ⟨z, m, h⟩
    · exact Or.inr ⟨z, m, h⟩
  · rintro (⟨z, m, h⟩ | ⟨z, m, h⟩)
    · exact ⟨z, List.mem_append_left _ m, h⟩
    · exact ⟨z, List.mem_append_right _ m, h⟩
theorem From.ge {k n : Int} : ∀ {ps : Prs}, From k ps → In n ps → k ≤ n
  | [], _, h => (In.nil h).elim
  | q :: r, ⟨h1, h2, h3⟩, h => by
    rcases In.cons.mp h with h | h
    · omega
    · have := From.ge h3 h
      omega
/-- each set of numbers has one range set -/
theorem From.one : ∀ {k j : Int} {ps qs : Prs}, From k ps → From j qs → (∀ n, In n ps ↔ In n qs) → ps = qs
  | _, _, [], [], _, _, _ => rfl
  | _, _, [], q :: s, _, h, e => (In.nil ((e q.1).mpr (In.cons.mpr (Or.inl ⟨Int.le_refl _, h.2.1⟩)))).elim
  | _, _, p :: r, [], h, _, e => (In.nil ((e p.1).mp (In.cons.mpr (Or.inl ⟨Int.le_refl _, h.2.1⟩)))).elim
  | _, _, p :: r, q :: s, ⟨a1, a2, a3⟩, ⟨b1, b2, b3⟩, e => by
    have low : ∀ {p : Int × Int} {r : Prs} {n : Int}, p.1 ≤ p.2 → From (p.2 + 2) r → In n (p :: r) → p.1 ≤ n := fun {p r n} h f g => by
      rcases In.cons.mp g with g | g
      · exact g.1
      · have := f.ge g
        omega
    have hd : p.1 = q.1 := by
      have x1 := low b2 b3 ((e p.1).mp (In.cons.mpr (Or.inl ⟨Int.le_refl _, a2⟩)))
      have x2 := low a2 a3 ((e q.1).mpr (In.cons.mpr (Or.inl ⟨Int.le_refl _, b2⟩)))
      omega
    have gap : ∀ {p : Int × Int} {r : Prs}, From (p.2 + 2) r → ¬ In (p.2 + 1) (p :: r) := fun {p r} f g => by
      rcases In.cons.mp g with g | g
      · omega
      · have := f.ge g
        omega
    have tl : p.2 = q.2 := by
      rcases Int.lt_trichotomy p.2 q.2 with c | c | c
      · exact (gap a3 ((e (p.2 + 1)).mpr (In.cons.mpr (Or.inl ⟨by omega, by omega⟩)))).elim
      · exact c
      · exact (gap b3 ((e (q.2 + 1)).mp (In.cons.mpr (Or.inl ⟨by omega, by omega⟩)))).elim
    have pq : p = q := Prod.ext hd tl
    subst pq
    have rest : r = s := From.one a3 b3 fun n => by
      have en := e n
      constructor
      · intro g
        have ge := a3.ge g
        rcases In.cons.mp (en.mp (In.cons.mpr (Or.inr g))) with z | z
        · omega
        · exact z
      · intro g
        have ge := b3.ge g
        rcases In.cons.mp (en.mpr (In.cons.mpr (Or.inr g))) with z | z
        · omega
        · exact z
    rw [rest]
theorem Rg.one {ps qs : Prs} (h : Rg ps) (g : Rg qs) (e : ∀ n, In n ps ↔ In n qs) : ps = qs := by
  obtain ⟨_, h⟩ := h
  obtain ⟨_, g⟩ := g
  exact h.one g e
/-! ### both -/
def cutTo (p q : Int × Int) : Prs := if max p.1 q.1 ≤ min p.2 q.2 then [(max p.1 q.1, min p.2 q.2)] else []
def both : Prs → Prs → Prs
  | [], _ => []
  | _ :: _, [] => []
  | p :: r, q :: s => cutTo p q ++ (if p.2 < q.2 then both r (q :: s) else both (p :: r) s)
termination_by x y => x.length + y.length
theorem in_cut {n : Int} {p q : Int × Int} : In n (cutTo p q) ↔ (p.1 ≤ n ∧ n ≤ p.2) ∧ q.1 ≤ n ∧ n ≤ q.2 := by
  unfold cutTo
  split
  · rename_i h
    constructor
    · intro g
      rcases In.cons.mp g with g | g
      · simp only at g
        omega
      · exact (In.nil g).elim
    · intro g
      exact In.cons.mpr (Or.inl ⟨by show max p.1 q.1 ≤ n; omega, by show n ≤ min p.2 q.2; omega⟩)
  · rename_i h
    constructor
    · exact fun g => (In.nil g).elim
    · intro g
      omega
theorem both_in (n : Int) : ∀ (x y : Prs) (k j : Int), From k x → From j y → (In n (both x y) ↔ In n x ∧ In n y)
  | [], y, _, _, _, _ => by
    unfold both
    exact ⟨fun g => (In.nil g).elim, fun g => (In.nil g.1).elim⟩
  | p :: r, [], _, _, _, _ => by
    unfold both
    exact ⟨fun g => (In.nil g).elim, fun g => (In.nil g.2).elim⟩
  | p :: r, q :: s, k, j, f, g => by
    unfold both
    rw [In.app, in_cut]
    by_cases c : p.2 < q.2
    · rw [if_pos c, both_in n r (q :: s) _ _ f.2.2 g, In.cons, In.cons]
      constructor
      · rintro (h | h)
        · exact ⟨Or.inl h.1, Or.inl h.2⟩
        · exact ⟨Or.inr h.1, h.2⟩
      · rintro ⟨h | h, h2⟩
        · rcases h2 with h2 | h2
          · exact Or.inl ⟨h, h2⟩
          · have := g.2.2.ge h2
            omega
        · exact Or.inr ⟨h, h2⟩
    · rw [if_neg c, both_in n (p :: r) s _ _ f g.2.2, In.cons, In.cons]
      constructor
      · rintro (h | h)
        · exact ⟨Or.inl h.1, Or.inl h.2⟩
        · exact ⟨h.1, Or.inr h.2⟩
      · rintro ⟨h1, h | h⟩
        · rcases h1 with h1 | h1
          · exact Or.inl ⟨h1, h⟩
          · have := f.2.2.ge h1
            omega
        · exact Or.inr ⟨h1, h⟩
termination_by x y => x.length + y.length
theorem both_from : ∀ (x y : Prs) (k j : Int), From k x → From j y → From (max k j) (both x y)
  | [], y, _, _, _, _ => by
    unfold both
    trivial
  | p :: r, [], _, _, _, _ => by
    unfold both
    trivial
  | p :: r, q :: s, k, j, f, g => by
    have f' := f
    have g' := g
    obtain ⟨f1, f2, f3⟩ := f
    obtain ⟨g1, g2, g3⟩ := g
    unfold both
    by_cases c : p.2 < q.2
    · rw [if_pos c]
      have ih := both_from r (q :: s) (p.2 + 2) q.1 f3 ⟨Int.le_refl _, g2, g3⟩
      unfold cutTo
      split
      · refine ⟨by show max k j ≤ max p.1 q.1; omega, by show max p.1 q.1 ≤ min p.2 q.2; omega, ?_⟩
        exact ih.down (by show min p.2 q.2 + 2 ≤ max (p.2 + 2) q.1; omega)
      · exact ih.down (by omega)
    · rw [if_neg c]
      have ih := both_from (p :: r) s p.1 (q.2 + 2) ⟨Int.le_refl _, f2, f3⟩ g3
      unfold cutTo
      split
      · refine ⟨by show max k j ≤ max p.1 q.1; omega, by show max p.1 q.1 ≤ min p.2 q.2; omega, ?_⟩
        exact ih.down (by show min p.2 q.2 + 2 ≤ max p.1 (q.2 + 2); omega)
      · exact ih.down (by omega)
termination_by x y => x.length + y.length
/-! ### united -/
/-- pairs with their ends in order, ascending by their beginnings, from k upwards -/
def Asc (k : Int) : Prs → Prop
  | [] => True
  | q :: r => k ≤ q.1 ∧ q.1 ≤ q.2 ∧ Asc q.1 r
theorem Asc.down {k j : Int} {ps : Prs} (h : Asc k ps) (l : j ≤ k) : Asc j ps := by
  cases ps with
  | nil => trivial
  | cons q r => exact ⟨by have := h.1; omega, h.2⟩
def pour (l h : Int) : Prs → Prs
  | [] => [(l, h)]
  | q :: r => if q.1 > h + 1 then (l, h) :: pour q.1 q.2 r else pour l (max h q.2) r
theorem pour_spec : ∀ (r : Prs) (l h : Int), l ≤ h → Asc l r → From l (pour l h r) ∧ ∀ n, In n (pour l h r) ↔ (l ≤ n ∧ n ≤ h) ∨ In n r
  | [], l, h, lh, _ => by
    unfold pour
    exact ⟨⟨Int.le_refl _, lh, trivial⟩, fun n => In.cons⟩
  | q :: r, l, h, lh, ⟨a1, a2, a3⟩ => by
    unfold pour
    by_cases c : q.1 > h + 1
    · rw [if_pos c]
      obtain ⟨i1, i2⟩ := pour_spec r q.1 q.2 a2 a3
      refine ⟨⟨Int.le_refl _, lh, i1.down (by show h + 2 ≤ q.1; omega)⟩, fun n => ?_⟩
      rw [In.cons, In.cons, i2]
    · rw [if_neg c]
      obtain ⟨i1, i2⟩ := pour_spec r l (max h q.2) (by omega) (a3.down a1)
      refine ⟨i1, fun n => ?_⟩
      rw [i2, In.cons]
      constructor
      · rintro (g | g)
        · by_cases z : n ≤ h
          · exact Or.inl ⟨g.1, z⟩
          · exact Or.inr (Or.inl ⟨by omega, by omega⟩)
        · exact Or.inr (Or.inr g)
      · rintro (g | g | g)
        · exact Or.inl ⟨g.1, by omega⟩
        · exact Or.inl ⟨by omega, by omega⟩
        · exact Or.inr g
def united : Prs → Prs
  | [] => []
  | q :: r => pour q.1 q.2 r
theorem united_spec {ps : Prs} {k : Int} (h : Asc k ps) : Rg (united ps) ∧ ∀ n, In n (united ps) ↔ In n ps := by
  cases ps with
  | nil => exact ⟨⟨0, trivial⟩, fun n => Iff.rfl⟩
  | cons q r =>
    obtain ⟨i1, i2⟩ := pour_spec r q.1 q.2 h.2.1 h.2.2
    exact ⟨⟨_, i1⟩, fun n => by
      show In n (pour q.1 q.2 r) ↔ _
      rw [i2, In.cons]⟩
/-! ### gaps -/
/-- the numbers from s to high that are not in inner, whose pairs lie from s upwards -/
def holes (s high : Int) : Prs → Prs
  | [] => if s ≤ high then [(s, high)] else []
  | q :: r => (if s ≤ q.1 - 1 then [(s, q.1 - 1)] else []) ++ holes (q.2 + 1) high r
theorem holes_spec (high : Int) : ∀ (r : Prs) (s : Int), From s r → (∀ n, In n r → n ≤ high) → From s (holes s high r) ∧ ∀ n, In n (holes s high r) ↔ (s ≤ n ∧ n ≤ high) ∧ ¬ In n r
  | [], s, _, _ => by
    unfold holes
    split
    · rename_i c
      refine ⟨⟨Int.le_refl _, c, trivial⟩, fun n => ?_⟩
      rw [In.cons]
      exact ⟨fun g => ⟨g.elim id fun z => (In.nil z).elim, In.nil⟩, fun g => Or.inl g.1⟩
    · rename_i c
      refine ⟨trivial, fun n => ⟨fun g => (In.nil g).elim, fun g => ?_⟩⟩
      omega
  | q :: r, s, ⟨a1, a2, a3⟩, hh => by
    have hi : q.2 ≤ high := hh q.2 (In.cons.mpr (Or.inl ⟨a2, Int.le_refl _⟩))
    obtain ⟨i1, i2⟩ := holes_spec high r (q.2 + 1) (a3.down (by omega)) (fun n g => hh n (In.cons.mpr (Or.inr g)))
    have mid : ∀ n, In n ((if s ≤ q.1 - 1 then [(s, q.1 - 1)] else []) ++ holes (q.2 + 1) high r) ↔ (s ≤ n ∧ n ≤ high) ∧ ¬ In n (q :: r) := fun n => by
      rw [In.app, i2, In.cons]
      constructor
      · rintro (g | g)
        · have g' : s ≤ n ∧ n ≤ q.1 - 1 := by
            split at g
            · rcases In.cons.mp g with g | g
              · exact g
              · exact (In.nil g).elim
            · exact (In.nil g).elim
          refine ⟨⟨by omega, by omega⟩, ?_⟩
          rintro (z | z)
          · omega
          · have := a3.ge z
            omega
        · refine ⟨⟨by omega, by omega⟩, ?_⟩
          rintro (z | z)
          · omega
          · exact g.2 z
      · rintro ⟨⟨g1, g2⟩, g3⟩
        by_cases c : n < q.1
        · left
          rw [if_pos (by omega)]
          exact In.cons.mpr (Or.inl ⟨g1, by show n ≤ q.1 - 1; omega⟩)
        · right
          refine ⟨⟨?_, g2⟩, fun z => g3 (Or.inr z)⟩
          apply Classical.byContradiction
          intro z
          exact g3 (Or.inl ⟨by omega, by omega⟩)
    refine ⟨?_, mid⟩
    show From s ((if s ≤ q.1 - 1 then [(s, q.1 - 1)] else []) ++ holes (q.2 + 1) high r)
    split
    · rename_i c
      exact ⟨Int.le_refl _, c, i1.down (by show q.1 - 1 + 2 ≤ q.2 + 1; omega)⟩
    · exact i1.down (by omega)
end Rng

set_option Elab.async false
set_option linter.all false
set_option maxRecDepth 100000
/-! sorted(t) of a tuple of pairs. -/
namespace SrtO
open PySem PyProof.Rows Srt
section
variable {prog : Program} {w : World} {A : Around} {E : Value → Shared → Prop} {s : Shared}
theorem sorted_tupP {t : Addr} {o : Obj} {n : Nat} {vs : List Value} {k : Value → Int × Int} {Q : Value → Shared → Prop} (ho : s.heap.get? t = some o) (hc : o.cls = .type "tuple") (hd : o.data = .seq vs.toArray n)
    (hz : vs.length ≤ sizeLine) (hp : ∀ v ∈ vs, IsPair s.heap v (k v).1 (k v).2)
    (h : ∀ (h' : Heap) (d : Addr) (out : List Value), Srtd (fun v u => lexB (k v) (k u)) out → Stb (fun v u => lexB (k v) (k u)) out vs → ∀ h1 : Heap, (∀ b o, s.heap.get? b = some o → h1.get? b = some o) → (∀ b o, h1.get? b = some o → h'.get? b = some o) → h1.objs.size ≤ d →
      (∃ n, h'.get? d = some (seqObj "list" out.toArray n)) → Q (.ref d) { s with heap := h' }) :
    wpAny (model prog w) A (call (.builtin "sorted") [.ref t]) Q E s := by
  refine Calls.call_function_entry kind_sorted plain_sorted entry_sorted (args_sorted1 _) ?_
  unfold Builtin.«sorted»
  refine wpAny_bind (m := checkCount "sorted" 1 1 _) (wpAny_pure ?_)
  refine wpAny_bind (wpAny_collect_seq t (.inr rfl) ho hc hd (fun h1 k1 => ?_) (by rw [List.size_toArray]; exact hz))
  have e0 : vs.toArray.toList = vs := by simp
  rw [e0]
  refine wpAny_bind (wpAny_newList ?_ hz)
  have at1 : (h1.push (seqObj "list" vs.toArray 0)).get? h1.objs.size = some (seqObj "list" vs.toArray 0) := Heap.get?_push_size _ rfl
  have old : ∀ b o, h1.get? b = some o → b ≠ h1.objs.size ∧ (h1.push (seqObj "list" vs.toArray 0)).get? b = some o := fun b o e => ⟨Nat.ne_of_lt (Heap.lt_size e), Heap.get?_push_of_some _ e⟩
  refine wpAny_bind (wpAny_holding (wpAny_call_entry slot_list_sort ⟨_, at1, rfl⟩ entry_list_sort (list_sort_ord (swo_lex k) at1 hz (fun h2 => ?_) fun out hs hb => ⟨_, rfl, ?_⟩) (args_list_sort _)))
  · refine pairs_sortableO (by omega) (fun v hv => (hp v hv).keeps fun b o e _ => (old b o (k1 b o e)).2) fun o e c => ?_
    have z : some o = some (seqObj "list" vs.toArray 0) := e.symm.trans at1
    cases z
    exact absurd (Value.type.inj c) (by decide)
  · refine wpAny_pure ⟨_, rfl, h _ _ out hs hb h1 k1 (fun b o e => ?_) (Nat.le_refl _) (sortedHeap_at at1)⟩
    obtain ⟨x1, x2⟩ := old b o e
    exact (sortedHeap_old x1 (Heap.lt_size x2)).trans x2
end
end SrtO
namespace L2
open PySem PySem.Spec PyProof.Rows
/-- sorted(t) of a tuple of pairs: k says which -/
def rSortTP (K : PySem.W.Frag) : List V → Hp → VK → Prop := fun vs H Q => ∃ (a : Addr) (xs : List V) (k : V → Int × Int), vs = [V.ref a] ∧ SqT K H a xs ∧ (∀ x ∈ xs, ∃ t, x = V.ref t ∧ H t = some (.tup [.int (k x).1, .int (k x).2])) ∧
  ∀ ys p, SrtO.Srtd (ltP k) ys → SrtO.Stb (ltP k) ys xs → H p = none → Q (.ref p) (upd H p (.lst ys))
theorem cr_sortTP {X : Cx} : CallR X (.builtin "sorted") (rSortTP X.K) := by
  intro pins s σ H vs us Q I r h
  obtain ⟨a, xs, k, rfl, hs, hx, q⟩ := h
  obtain ⟨its, rv, ⟨o, ho, hc, n, hd⟩, hz⟩ := I.tuple hs
  obtain ⟨u, rfl, ru⟩ := vals1 r
  cases ru
  have len := rv.length
  obtain ⟨e1, e2⟩ := refs_back rv fun x m => (hx x m).imp fun _ z => z.1
  refine SrtO.sorted_tupP (k := fun u => k (backV u)) ho hc hd (by omega) (fun v hv => ?_) fun h' d out h1 h2 hm km kp hd' hn => ?_
  · obtain ⟨t, rfl⟩ := e2 v hv
    have hmem : V.ref t ∈ xs := e1 ▸ List.mem_map.mpr ⟨Value.ref t, hv, rfl⟩
    obtain ⟨t', e, ht⟩ := hx _ hmem
    cases e
    obtain ⟨_, its2, r2, o2, ho2, hc2, n2, hd2⟩ := I.hok _ _ ht
    obtain ⟨u1, u2, rfl, ⟨t1, rfl⟩, ⟨t2, rfl⟩⟩ := vals2 r2
    exact ⟨t, o2, t1, t2, n2, rfl, ho2, hc2, hd2⟩
  · obtain ⟨n2, hn⟩ := hn
    have all : ∀ u ∈ out, ∃ a, u = Value.ref a := fun u hu => e2 u (h2.perm.subset hu)
    have stb : SrtO.Stb (ltP k) (out.map backV) xs := e1 ▸ SrtO.Stb.map (ltP_swo k) backV h2
    have I1 : Inv X pins σ H { s with heap := hm, toks := s.toks } := I.kept (t' := s.toks) km
    have z : (out.map backV).length ≤ sizeLine := by
      rw [stb.len]
      omega
    exact ⟨.ref d, upd H d (.lst (out.map backV)), I1.laid (t' := s.toks) kp hd' ⟨z, out, n2, vals_back all, hn⟩, rfl, q _ d (SrtO.srtd_map h1) stb (I1.hok.fresh hd')⟩
end L2

set_option Elab.async false
set_option linter.all false
set_option maxRecDepth 100000
/-! Rows of noughts and ones as texts: repeated, turned about, read as a number, written of one. -/
namespace Pf
open PySem PySem.Spec PyProof.Rows L2
/-- z[::-1] -/
def tRevS (te : TE) : TE := fun σ H Q => te σ H fun x H1 => ∃ z : Str, x = .str z ∧ z.length ≤ sizeLine ∧ Q (.str (Txt.sliceBy z none none (-1, 0))) H1
theorem sliceBy_tok (z : Str) (u : Tok) : Txt.sliceBy z none none (-1, u) = Txt.sliceBy z none none (-1, 0) := rfl
theorem pe_revS {X : Cx} {e : Expr} {te : TE} {k : Nat} {p1 p2 p3 pos : Pos} (he : PE X e te) (ht : ∀ o r, letTemporaryGo e o r = pure () := by intro _ _; rfl) :
    PE X (.Subscript e (.Slice none none (some (.UnaryOp .USub (.Constant (.int 1) k p1) p2)) p3) pos) (tRevS te) := by
  constructor
  intro pins s σ H Q I h
  apply Subscript_
  apply thn (he.run pins s σ H _ I h)
  rintro v s1 ⟨x, H1, I1, r1, z, rfl, hz, q⟩
  obtain ⟨t, rfl⟩ := r1
  have step : PO X (some (.UnaryOp .USub (.Constant (.int 1) k p1) p2)) (tPart (tUn (rU fun i => .int (-i)) (tC (.int 1)))) := po_some (pe_un un_neg pe_int)
  apply wpAny_Slice
  apply thn (po_none.run pins s1 σ H1 (fun o G => o = none ∧ G = H1) I1 ⟨rfl, rfl⟩)
  rintro vl s2 ⟨l, H2, I2, pl, rfl, rfl⟩
  apply thn (po_none.run pins s2 σ H2 (fun o G => o = none ∧ G = H2) I2 ⟨rfl, rfl⟩)
  rintro vu s3 ⟨u, H3, I3, pu, rfl, rfl⟩
  apply thn (step.run pins s3 σ H3 (fun o G => o = some (-1) ∧ G = H3) I3 ⟨1, rfl, -1, rfl, rfl, rfl⟩)
  rintro vs s4 ⟨o, H4, I4, ps, rfl, rfl⟩
  obtain ⟨l', rfl, el⟩ := IsPart.raw pl
  obtain ⟨u', rfl, eu⟩ := IsPart.raw pu
  obtain ⟨o', rfl, eo⟩ := IsPart.raw ps
  cases l' with
  | some _ => cases el
  | none =>
  cases u' with
  | some _ => cases eu
  | none =>
  cases o' with
  | none => cases eo
  | some y =>
  obtain ⟨y1, y2⟩ := y
  have ey : y1 = -1 := Option.some.inj eo
  subst ey
  refine tail_any (ops := [.ref s4.heap.objs.size, .str z t]) (typeIs_str _ z t) PySem.F.slot_str_getitem.lookup ?_ (by with_unfolding_all rfl)
  refine wpAny_getItem_str_slice (l := none) (u := none) (st := some (-1, y2)) ⟨_, Heap.get?_push_size _ rfl, rfl, rfl⟩ (by rfl) ?_
  refine post_val_or_str ⟨Nat.le_trans (PySem.Txt.sliceBy_le z none none (-1, y2) (show (-1 : Int) ≠ 0 by decide)) hz, fun t' c => ?_⟩
  exact ⟨.str _, H4, (I4.kept (t' := c) fun b ob g => Heap.get?_push_of_some _ g), ⟨t', rfl⟩, q⟩
/-! ### a row of bits as a text -/
def cb (b : Bool) : Nat := if b then 49 else 48
def bs (w : List Bool) : Str := ⟨(w.map cb).toArray⟩
theorem bs_list (w : List Bool) : (bs w).cps.toList = w.map cb := by simp [bs]
theorem bs_len (w : List Bool) : (bs w).length = w.length := by simp [bs, Str.length]
theorem cb_dig (b : Bool) : 48 ≤ cb b ∧ cb b ≤ 57 := by cases b <;> decide
/-- the number of a row, the first bit the lowest -/
def valB : List Bool → Nat
  | [] => 0
  | b :: r => b.toNat + 2 * valB r
theorem valB_bit : ∀ (w : List Bool) (k : Nat), (valB w).testBit k = w.getD k false
  | [], k => by simp [valB]
  | b :: r, 0 => by
    cases b <;> simp [valB, Nat.testBit_zero] <;> omega
  | b :: r, k + 1 => by
    have h : (b.toNat + 2 * valB r) / 2 = valB r := by cases b <;> simp <;> omega
    show (b.toNat + 2 * valB r).testBit (k + 1) = _
    rw [Nat.testBit_succ, h, valB_bit r k]
    rfl
theorem val_snoc : ∀ (w : List Bool) (a : Nat), w.foldl (fun acc b => acc * 2 + b.toNat) a = a * 2 ^ w.length + valB w.reverse := by
  have key : ∀ (w : List Bool) (b : Bool), valB (w ++ [b]) = valB w + 2 ^ w.length * b.toNat := by
    intro w
    induction w with
    | nil => intro b; simp [valB]
    | cons c r ih =>
      intro b
      rw [List.cons_append]
      show c.toNat + 2 * valB (r ++ [b]) = c.toNat + 2 * valB r + _
      rw [ih, List.length_cons, Nat.pow_succ, Nat.mul_add, Nat.mul_comm (2 ^ r.length) 2, Nat.mul_assoc]
      omega
  intro w
  induction w with
  | nil => intro a; simp [valB]
  | cons c r ih =>
    intro a
    rw [List.foldl_cons, ih, List.reverse_cons, key, List.length_reverse, List.length_cons, Nat.pow_succ, Nat.add_mul, Nat.mul_comm (2 ^ r.length) 2, Nat.mul_assoc, Nat.mul_comm (2 ^ r.length)]
    omega
open PySem.NumText in
theorem step2 {ds : Array Nat} {f : Bool} (b : Bool) : step 2 (ds, f) (cb b) = some (ds.push b.toNat, true) := by
  cases b <;> rfl
open PySem.NumText in
theorem fold2 : ∀ (w : List Bool) (ds : Array Nat), (w.map cb).foldlM (step 2) (ds, true) = some (w.foldl (fun acc b => acc.push b.toNat) ds, true)
  | [], _ => rfl
  | b :: r, ds => by
    rw [List.map_cons, List.foldlM_cons, step2]
    exact fold2 r _
theorem push2 : ∀ (w : List Bool) (ds : Array Nat), (w.foldl (fun acc b => acc.push b.toNat) ds).foldl (fun acc d => acc * 2 + d) 0 = w.foldl (fun acc b => acc * 2 + b.toNat) (ds.foldl (fun acc d => acc * 2 + d) 0)
  | [], _ => rfl
  | b :: r, ds => by
    rw [List.foldl_cons, push2 r, List.foldl_cons, Array.foldl_push]
open PySem.NumText in
theorem read2 (limit : Nat) {w : List Bool} (h : w ≠ []) : (int_private% "readNumeral") limit 2 (w.map cb) = (int_private% "Numeral.value") ((valB w.reverse : Nat) : Int) := by
  have ad : AllDigits (w.map cb) := fun c m => by
    obtain ⟨b, _, rfl⟩ := List.mem_map.mp m
    exact cb_dig b
  obtain ⟨b, r, rfl⟩ : ∃ b r, w = b :: r := by
    cases w with
    | nil => exact absurd rfl h
    | cons b r => exact ⟨b, r, rfl⟩
  have s1 : sign ((b :: r).map cb) = (false, (b :: r).map cb) := by
    rw [List.map_cons]
    exact sign_of (by cases b <;> decide) (by cases b <;> decide)
  have b1 : based 2 ((b :: r).map cb) = (2, false, (b :: r).map cb) := by
    cases r with
    | nil => cases b <;> rfl
    | cons c r => cases b <;> cases c <;> rfl
  have d1 : digits? 2 ((b :: r).map cb) = some ((b :: r).foldl (fun acc b => acc.push b.toNat) #[]) := by
    unfold digits?
    rw [List.map_cons, List.foldlM_cons, step2]
    show ((r.map cb).foldlM (step 2) _).bind _ = _
    rw [fold2]
    rfl
  refine (readNumeral_eq limit 2 _).trans ?_
  rw [dropWhile_digits ad, s1]
  show judge limit false (based 2 ((b :: r).map cb)).1 (based 2 ((b :: r).map cb)).2.1 (digits? (based 2 ((b :: r).map cb)).1 (((based 2 ((b :: r).map cb)).2.2.reverse.dropWhile blank).reverse)) = _
  rw [b1]
  show judge limit false 2 false (digits? 2 ((((b :: r).map cb).reverse.dropWhile blank).reverse)) = _
  rw [dropWhile_digits ad.reverse, List.reverse_reverse, d1]
  unfold judge
  have e := push2 (b :: r) #[]
  have e2 := val_snoc (b :: r) 0
  rw [Nat.zero_mul, Nat.zero_add] at e2
  have e3 : ((#[] : Array Nat).foldl (fun acc d => acc * 2 + d) 0) = 0 := rfl
  rw [e3, e2] at e
  simp only [List.contains_cons, beq_self_eq_true, Bool.true_or, Bool.not_true, Bool.false_and, Bool.false_eq_true, if_false, show ((2 : Nat) == 10) = false from rfl, e]
/-! ### int(text, 2) -/
section
variable {prog : Program} {w : World} {A : Around} {E : Value → Shared → Prop} {s : Shared}
open PySem.Calls
theorem wp_most {Q : Nat → Shared → Prop} (nd : s.heap.NoDigits) (h : Q 4300 s) : wpAny (model prog w) A Builtin.intMaxStrDigits Q E s := by
  obtain ⟨mc, h1, h2⟩ := nd
  unfold Builtin.intMaxStrDigits
  refine wpAny_bind (wpAny_nsGet h1 ?_)
  rw [h2]
  exact wpAny_pure h
theorem wp_two {Q : Value → Shared → Prop} {v : Value} {text : List Nat} {n : Int} (nd : s.heap.NoDigits) (hr : ∀ limit, (int_private% "readNumeral") limit 2 (text.takeWhile (· != 0)) = (int_private% "Numeral.value") n)
    (ha : ((text.takeWhile (· != 0)).length == text.length) = true) (h : Q (.int n s.toks) { s with toks := s.toks + 1 }) : wpAny (model prog w) A ((int_private% "intFromText") v text 2) Q E s := by
  by_cases hs : (text.takeWhile (· != 0)).length ≤ 640
  · obtain ⟨hp, g, d, tk, os⟩ := s
    have hr0 := hr 0
    repeat (any_goals (first
      | assumption
      | (with_reducible refine wpAny_ite_true (decide_eq_true hs) ?_)
      | (with_reducible refine wpAny_ite_true (decide_eq_true ha) ?_)
      | wp_step))
    all_goals (try rw [hr0])
    all_goals (try dsimp only)
    repeat (any_goals (first
      | assumption
      | (with_reducible refine wpAny_ite_true (decide_eq_true ha) ?_)
      | wp_step))
  · obtain ⟨hp, g, d, tk, os⟩ := s
    have hr1 := hr 4300
    repeat (any_goals (first
      | assumption
      | (with_reducible refine wpAny_ite_false (decide_eq_false hs) ?_)
      | (with_reducible refine wp_most nd ?_)
      | wp_step))
    all_goals (try rw [hr1])
    all_goals (try dsimp only)
    repeat (any_goals (first
      | assumption
      | (with_reducible refine wpAny_ite_true (decide_eq_true ha) ?_)
      | wp_step))
end
open PySem.Calls in
theorem new_two {w : List Bool} {u v : Tok} (hw : w ≠ []) :
    Meets (Builtin.«int.__new__» ⟨[.type "int", .str (bs w) u, .int 2 v], []⟩) (fun _ R s => s.heap.NoDigits ∧ ∀ t k, R (.ok (.ret (.int ((valB w.reverse : Nat) : Int) t))) { s with toks := k }) :=
  Meets.of_wp fun prog wd A R s hq => by
    obtain ⟨nd, h⟩ := hq
    obtain ⟨hp, g, d, tk, os⟩ := s
    have f1 := F.conv_sub_int
    have f2 := F.madeHere_int
    have f6 : typeOf (.str (bs w) u) = pure (.type "str") := rfl
    have e1 : (bs w).cps.toList.takeWhile (· != 0) = w.map cb := by
      rw [bs_list]
      exact PySem.NumText.takeWhile_all fun c m => by
        obtain ⟨b, _, rfl⟩ := List.mem_map.mp m
        cases b <;> rfl
    repeat (any_goals (first
      | assumption
      | ((with_reducible show wpAny _ _ ((int_private% "intFromText") _ _ _) _ _ _); refine wp_two nd ?_ ?_ ?_)
      | wp_step))
    have e2 : (if ((bs w).cps.all fun x => decide (x < 128)) = true then (bs w).cps.toList else PySem.Unicode.numberText (bs w).cps.toList) = w.map cb := by
      rw [if_pos, bs_list]
      rw [← Array.all_toList, bs_list, List.all_eq_true]
      intro c m
      obtain ⟨b, _, rfl⟩ := List.mem_map.mp m
      cases b <;> rfl
    have e3 : (w.map cb).takeWhile (· != 0) = w.map cb := bs_list w ▸ e1
    show wpAny _ _ ((int_private% "intFromText") (.str (bs w) u) (if ((bs w).cps.all fun x => decide (x < 128)) = true then (bs w).cps.toList else PySem.Unicode.numberText (bs w).cps.toList) 2) _ _ _
    rw [e2]
    refine wp_two nd (fun limit => by rw [e3]; exact read2 limit hw) (by rw [e3]; exact beq_self_eq_true _) ?_
    repeat (any_goals (first | assumption | wp_step))
    exact ⟨_, rfl, h _ _⟩
end Pf

set_option Elab.async false
set_option linter.all false
set_option maxRecDepth 100000
/-! A number written in bits. -/
namespace Pf
open PySem PySem.Spec PyProof.Rows L2
def oneB : Str := ⟨#[98]⟩
def specB : Builtin.Float.FormatSpec := { type := some 98, fill := 32, align := 62 }
theorem parse_b (name : String) : Builtin.Float.parseFormatSpec oneB.cps.toList name 62 = .ok specB := by rfl
open Builtin Builtin.Str Builtin.Int Builtin.Float in
set_option maxHeartbeats 400000 in
theorem fmt_b {i : Int} {t u : Tok} {x : Str} {f : Builtin.Float.FormatSpec} (hp : ∀ name, Builtin.Float.parseFormatSpec oneB.cps.toList name 62 = .ok f) (f1 : f.type = some 98) (f2 : f.precision.isSome = false) (f3 : f.noNeg0 = false) (f4 : f.width.getD 0 ≤ 100000) (f5 : f.alt = false) (f6 : f.grouping = none)
    (hx : intField' f (decide (i < 0)) [] ((Nat.toDigits 2 i.natAbs).map fun c => (if (98 : Nat) == 88 then c.toUpper else c).toNat) [] 4 = x) (hz : x.length ≤ sizeLine) :
    Meets (Builtin.«int.__format__» ⟨[.int i t, .str oneB u], []⟩) (fun _ R s => ∀ t' k, R (.ok (.ret (.str x t'))) { s with toks := k }) := by
  refine Meets.of_wp fun prog wd A R s h => ?_
  unfold Builtin.«int.__format__»
  simp only [selfAndOne, noKeywords, intOfSelf, asInt?, asStr?, List.isEmpty_nil, if_true, pure_bind, bind_pure, bind_assoc, Bool.false_eq_true, if_false, show (Value.str oneB u == Value.none) = false from rfl, show (oneB.length == 0) = false from rfl,
    show ((oneB.cps.toList.drop 1).any (· ≥ 128) || (oneB.cps.getD 0 0 ≥ 128 && !([60, 62, 61, 94] : List Nat).contains (oneB.cps.getD 1 0))) = false from rfl]
  apply wpAny_bind
  apply wpAny_typeNameOf (T := "str") (typeIs_str _ _ _) (by decide)
  intro nm
  apply wpAny_bind
  apply wpAny_typeNameOfCut_int
  simp only [hp, f1]
  have hgo : wpAny (model prog wd) A.in1 (retStr x) (fun fin s' => ∃ v, fin = Fin.done (Flow.ret v) ∧ R (Except.ok (Flow.ret v)) s') (fun e s' => R (Except.error e) s') s := PySem.W.KXf.ret_text rfl hz fun t k => ⟨_, rfl, h t k⟩
  rw [if_pos (by rfl)]
  show wpAny _ _ (if _ then _ else _) _ _ _
  rw [if_neg (by rw [f2]; decide)]
  show wpAny _ _ (if _ then _ else _) _ _ _
  rw [if_neg (by rw [f3]; decide)]
  show wpAny _ _ (if _ then _ else _) _ _ _
  rw [if_neg (by decide)]
  show wpAny _ _ (if _ then _ else _) _ _ _
  rw [if_neg (by decide)]
  show wpAny _ _ (if _ then _ else _) _ _ _
  rw [if_neg (by simpa using f4)]
  have key : ∀ X : Str, X = x → wpAny (model prog wd) A.in1 (retStr X) (fun fin s' => ∃ v, fin = Fin.done (Flow.ret v) ∧ R (Except.ok (Flow.ret v)) s') (fun e s' => R (Except.error e) s') s := fun X e => by
    rw [e]
    exact hgo
  show wpAny _ _ (retStr _) _ _ _
  refine key _ ?_
  rw [← hx, f5]
  clear key hgo h hz hx hp
  obtain ⟨a1, a2, a3, a4, a5, a6, a7, a8, a9⟩ := f
  have e6 : a7 = none := f6
  subst e6
  rfl
/-- the bits of a number, the lowest first -/
def lowB (n : Nat) : List Bool := if h : n < 2 then [n == 1] else (n % 2 == 1) :: lowB (n / 2)
termination_by n
decreasing_by omega
theorem lowB_lt {n : Nat} (h : n < 2) : lowB n = [n == 1] := by
  rw [lowB, dif_pos h]
theorem lowB_ge {n : Nat} (h : 2 ≤ n) : lowB n = (n % 2 == 1) :: lowB (n / 2) := by
  rw [lowB, dif_neg (by omega)]
theorem lowB_val : ∀ n : Nat, valB (lowB n) = n := by
  intro n
  induction n using Nat.strongRecOn with
  | ind n ih =>
    by_cases h : n < 2
    · rw [lowB_lt h]
      have : n = 0 ∨ n = 1 := by omega
      rcases this with rfl | rfl <;> rfl
    · rw [lowB_ge (by omega)]
      show (n % 2 == 1).toNat + 2 * valB (lowB (n / 2)) = n
      rw [ih (n / 2) (by omega)]
      have : n % 2 = 0 ∨ n % 2 = 1 := by omega
      rcases this with e | e
      · rw [e]
        show 0 + 2 * (n / 2) = n
        omega
      · rw [e]
        show 1 + 2 * (n / 2) = n
        omega
theorem lowB_bit (n k : Nat) : (lowB n).getD k false = n.testBit k := by
  rw [← valB_bit, lowB_val]
theorem lowB_ne (n : Nat) : lowB n ≠ [] := by
  by_cases h : n < 2
  · rw [lowB_lt h]
    exact fun z => nomatch z
  · rw [lowB_ge (by omega)]
    exact fun z => nomatch z
theorem lowB_len : ∀ (m n : Nat), 1 ≤ m → n < 2 ^ m → (lowB n).length ≤ m
  | 0, _, h, _ => absurd h (by decide)
  | m + 1, n, _, h => by
    by_cases c : n < 2
    · rw [lowB_lt c]
      exact Nat.succ_le_succ (Nat.zero_le _)
    · rw [lowB_ge (by omega), List.length_cons]
      have hm : 1 ≤ m := by
        rcases Nat.eq_zero_or_pos m with e | e
        · rw [e] at h
          omega
        · exact e
      have := lowB_len m (n / 2) hm (by rw [Nat.pow_succ] at h; omega)
      omega
theorem digits_low : ∀ n : Nat, (Nat.toDigits 2 n).map Char.toNat = (lowB n).reverse.map cb := by
  intro n
  induction n using Nat.strongRecOn with
  | ind n ih =>
    by_cases h : n < 2
    · rw [lowB_lt h, Nat.toDigits_of_lt_base h]
      have : n = 0 ∨ n = 1 := by omega
      rcases this with rfl | rfl <;> rfl
    · rw [lowB_ge (by omega), Nat.toDigits_of_base_le (by decide) (by omega), List.map_append, ih (n / 2) (by omega), List.reverse_cons, List.map_append]
      have : n % 2 = 0 ∨ n % 2 = 1 := by omega
      rcases this with e | e <;> rw [e] <;> rfl
end Pf

set_option Elab.async false
set_option linter.all false
set_option maxRecDepth 100000
/-! Rules for rows of bits as texts. -/
namespace Pf
open PySem PySem.Spec PyProof.Rows L2
/-! ### where a bit comes first -/
section
open Builtin Builtin.Str PySem.StrLaws
theorem occ_full (s sub : Str) (hi : Nat) : ∀ (l : List Nat) (st : Array Nat × Nat), 1 ≤ st.fst.size → (forIn l st (occBody s sub hi 1)).run.fst = st.fst
  | [], _, _ => rfl
  | i :: l, st, h => by
    rw [List.forIn_cons]
    unfold occBody
    rw [if_neg (fun z => by have := z.1.1.1; omega)]
    exact occ_full s sub hi l st h
theorem occ_find (s sub : Str) (hi : Nat) : ∀ (l : List Nat) (free : Nat), (∀ i ∈ l, free ≤ i) →
    (forIn l ((#[] : Array Nat), free) (occBody s sub hi 1)).run.fst.toList = (l.find? fun i => decide (i + sub.length ≤ hi ∧ subAt s sub i = true)).toList
  | [], _, _ => rfl
  | i :: l, free, hf => by
    have hi0 : free ≤ i := hf i List.mem_cons_self
    rw [List.forIn_cons]
    unfold occBody
    by_cases c : i + sub.length ≤ hi ∧ subAt s sub i = true
    · have f1 : (fun i => decide (i + sub.length ≤ hi ∧ subAt s sub i = true)) i = true := decide_eq_true c
      rw [if_pos ⟨⟨⟨by simp, hi0⟩, c.1⟩, c.2⟩, List.find?_cons_of_pos (p := fun i => decide (i + sub.length ≤ hi ∧ subAt s sub i = true)) f1]
      show (forIn l ((#[] : Array Nat).push i, i + sub.length) (occBody s sub hi 1)).run.fst.toList = _
      rw [occ_full _ _ _ _ _ (by simp)]
      rfl
    · have f1 : ¬ (fun i => decide (i + sub.length ≤ hi ∧ subAt s sub i = true)) i = true := fun z => c (of_decide_eq_true z)
      rw [if_neg (fun z => c ⟨z.1.2, z.2⟩), List.find?_cons_of_neg (p := fun i => decide (i + sub.length ≤ hi ∧ subAt s sub i = true)) f1]
      exact occ_find s sub hi l free fun j m => hf j (List.mem_cons_of_mem _ m)
theorem cb_inj {a b : Bool} (h : cb a = cb b) : a = b := by
  cases a <;> cases b <;> first | rfl | exact absurd h (by decide)
theorem subAt_bit {w : List Bool} {b : Bool} {i : Nat} (h : i < w.length) : subAt (bs w) (bs [b]) i = decide (w[i]? = some b) := by
  have e : (bs w).cps.extract i (i + (bs [b]).length) = #[cb w[i]] := by
    have l1 : (bs [b]).length = 1 := rfl
    rw [l1]
    apply Array.ext'
    rw [Array.toList_extract, bs_list]
    show ((w.map cb).extract i (i + 1)) = [cb w[i]]
    rw [List.extract_eq_take_drop, Nat.add_sub_cancel_left, List.drop_eq_getElem_cons (by simpa using h)]
    simp
  unfold subAt
  rw [e]
  show (#[cb w[i]] == (#[cb b] : Array Nat)) = _
  rw [List.getElem?_eq_getElem h]
  by_cases c : w[i] = b
  · rw [c]
    simp
  · have n : cb w[i] ≠ cb b := fun z => c (cb_inj z)
    simp [c, n]
theorem find_bit (w : List Bool) (b : Bool) (start : Nat) :
    (∃ k : Nat, Txt.find3 (bs w) (bs [b]) (start : Int) = (k : Int) ∧ start ≤ k ∧ w[k]? = some b ∧ ∀ j, start ≤ j → j < k → w[j]? = some (!b)) ∨
    (Txt.find3 (bs w) (bs [b]) (start : Int) = -1 ∧ ∀ j, start ≤ j → j < w.length → w[j]? = some (!b)) := by
  have fi : fromIndex (bs w).length (start : Int) = start := by
    unfold fromIndex
    rw [if_neg (by omega)]
    omega
  have oc : occurrences (bs w) (bs [b]) start (bs w).length 1 = ((List.range' start ((bs w).length + 1 - start)).find? fun i => decide (i + (bs [b]).length ≤ (bs w).length ∧ subAt (bs w) (bs [b]) i = true)).toList := by
    rw [occ_eq]
    exact occ_find _ _ _ _ _ fun i m => (List.mem_range'_1.mp m).1
  have other : ∀ j, j < w.length → ¬ w[j]? = some b → w[j]? = some (!b) := fun j hj n => by
    rw [List.getElem?_eq_getElem hj] at n ⊢
    cases e : w[j] <;> cases b <;> first | rfl | exact absurd (by rw [e]) n
  have ls : (bs [b]).length = 1 := rfl
  unfold Txt.find3
  rw [fi, oc, ls, bs_len w]
  cases hf : (List.range' start (w.length + 1 - start)).find? fun i => decide (i + 1 ≤ w.length ∧ subAt (bs w) (bs [b]) i = true) with
  | some k =>
    left
    rw [List.find?_range'_eq_some] at hf
    obtain ⟨h1, h2, h3⟩ := hf
    obtain ⟨h4, h5⟩ := of_decide_eq_true h1
    rw [subAt_bit h4, decide_eq_true_eq] at h5
    refine ⟨k, rfl, (List.mem_range'_1.mp h2).1, h5, fun j j1 j2 => other j (by omega) fun z => ?_⟩
    have q := h3 j j1 j2
    rw [Bool.not_eq_true', decide_eq_false_iff_not] at q
    exact q ⟨by omega, by rw [subAt_bit (by omega), decide_eq_true_eq]; exact z⟩
  | none =>
    right
    rw [List.find?_range'_eq_none] at hf
    refine ⟨rfl, fun j j1 j2 => other j j2 fun z => ?_⟩
    have q := hf j j1 (by omega)
    rw [Bool.not_eq_true', decide_eq_false_iff_not] at q
    exact q ⟨by omega, by rw [subAt_bit j2, decide_eq_true_eq]; exact z⟩
end
/-! ### the rules -/
theorem bs_app (a b : List Bool) : bs a ++ bs b = bs (a ++ b) := by
  show (⟨(a.map cb).toArray ++ (b.map cb).toArray⟩ : Str) = ⟨((a ++ b).map cb).toArray⟩
  rw [List.map_append]
  simp
theorem bs_nil : (⟨#[]⟩ : Str) = bs [] := rfl
theorem fold_rep (b : Bool) : ∀ (n : Nat) (acc : Array Nat), (List.replicate n (bs [b]).cps).foldl (· ++ ·) acc = acc ++ ((List.replicate n b).map cb).toArray
  | 0, acc => by simp
  | n + 1, acc => by
    rw [List.replicate_succ, List.foldl_cons, fold_rep b n, List.replicate_succ, List.map_cons]
    apply Array.ext'
    simp [bs]
theorem mul_bit (b : Bool) (n : Int) : Txt.mul (bs [b]) n = bs (List.replicate n.toNat b) := by
  unfold Txt.mul
  by_cases c : n < 1
  · rw [if_pos c, Int.toNat_of_nonpos (by omega)]
    rfl
  · rw [if_neg c]
    by_cases d : n = 1
    · subst d
      rfl
    · have e : (n == 1 || (bs [b]).length == 0) = false := by
        rw [bs_len]
        simp [d]
      rw [e, if_neg Bool.false_ne_true, fold_rep]
      unfold bs
      simp
theorem join_bs : ∀ ws : List (List Bool), Txt.join (⟨#[]⟩ : Str) (ws.map bs) = bs ws.flatten := by
  intro ws
  show Builtin.Str.glued _ _ = _
  rw [PySem.StrLaws.glued_eq_join]
  induction ws with
  | nil => rfl
  | cons a r ih =>
    cases r with
    | nil =>
      show bs a = bs ([a].flatten)
      simp
    | cons c r =>
      show bs a ++ (⟨#[]⟩ : Str) ++ Str.join (⟨#[]⟩ : Str) ((c :: r).map bs) = _
      rw [ih, bs_nil, bs_app, bs_app, List.append_nil]
      rfl
theorem rev_bs (w : List Bool) : Txt.sliceBy (bs w) none none (-1, 0) = bs w.reverse := by
  have h := step_rev_list (bs w) 0
  rw [bs_len] at h
  generalize Txt.sliceBy (bs w) none none (-1, 0) = z at *
  obtain ⟨c⟩ := z
  have e : c.toList = w.reverse.map cb := by
    rw [h]
    apply List.ext_getElem
    · simp
    · intro i h1 h2
      have hi : i < w.length := by simpa using h2
      have hb : (bs w).cps[w.length - 1 - i]?.getD 0 = cb w[w.length - 1 - i] := by
        have l : w.length - 1 - i < w.length := by omega
        show ((w.map cb).toArray)[w.length - 1 - i]?.getD 0 = _
        simp [l]
      simp [hb]
  show (⟨c⟩ : Str) = ⟨(w.reverse.map cb).toArray⟩
  rw [← e]
section
variable {X : Cx}
/-- a text of one bit, n times -/
def rMulB : R2 := fun x y H Q => ∃ (b : Bool) (n : Int), x = .str (bs [b]) ∧ y = .int n ∧ n ≤ 100000 ∧ -100000000000000 ≤ n ∧ Q (.str (bs (List.replicate n.toNat b))) H
theorem op_mulB : OpR X (binaryOp .Mult) rMulB := by
  intro pins s σ H x y v u Q I rx ry h
  obtain ⟨b, n, rfl, rfl, h1, h2, q⟩ := h
  obtain ⟨t, rfl⟩ := rx
  obtain ⟨t', rfl⟩ := ry
  have b1 : (100000 : Nat) ≤ sizeLine := by decide
  refine PySem.SB.mul ⟨by rw [decide_eq_false (by omega), decide_eq_false (by omega)]; rfl, fun c _ => ?_, fun c _ => ?_⟩ fun t2 k => ⟨.str _, H, I.tok _, ⟨t2, by rw [mul_bit]⟩, q⟩
  · rw [bs_len]
    show ¬ ((1 : Nat) : Int) > (2 ^ 63 - 1) / n
    have : 1 * n ≤ 2 ^ 63 - 1 := by omega
    have := (Int.le_ediv_iff_mul_le (show 0 < n by omega)).mpr this
    omega
  · rw [bs_len]
    show decide (1 * n.toNat > sizeLine) = false
    exact decide_eq_false (by omega)
theorem call_int2 (nd : X.base.NoDigits) : CallR X (.type "int") (fun xs H Q => ∃ w : List Bool, xs = [.str (bs w), .int 2] ∧ w ≠ [] ∧ Q (.int ((valB w.reverse : Nat) : Int)) H) := by
  intro pins s σ H xs us Q I r h
  obtain ⟨w, rfl, hw, q⟩ := h
  obtain ⟨u1, u2, rfl, ⟨t1, rfl⟩, ⟨t2, rfl⟩⟩ := vals2 r
  refine callType_new F.called_int F.newNe_int (by kernel_rfl) (by kernel_rfl) (fun obj => F.args_object_init_3 obj _ _) F.entry_int_new (new_two hw) ?_
  exact ⟨nd.keeps I.bk, fun t k => ⟨PySem.typeIs_int _ _ _, .int _, H, I.tok _, ⟨_, rfl⟩, q⟩⟩
/-- f'{n:b}' -/
def tFmtB (te : TE) : TE := fun σ H Q => te σ H fun x H1 => ∃ n : Nat, x = .int (n : Int) ∧ (lowB n).length ≤ 1000000 ∧ Q (.str (bs (lowB n).reverse)) H1
theorem pe_fmtB {e spec : Expr} {te : TE} {pos : Pos} (he : PE X e te) (hs : PE X spec (tC (.str "b"))) : PE X (.FormattedValue e (-1) (some spec) pos) (tFmtB te) := by
  constructor
  intro pins s σ H Q I h
  apply wpAny_FormattedValue_spec
  apply thn (he.run pins s σ H _ I h)
  rintro v s1 ⟨x, H1, I1, r1, n, rfl, hz, q⟩
  obtain ⟨t, rfl⟩ := r1
  apply thn (hs.run pins s1 σ H1 (fun z G => z = .str "b" ∧ G = H1) I1 ⟨rfl, rfl⟩)
  rintro v2 s2 ⟨z, H2, I2, r2, rfl, rfl⟩
  obtain ⟨t2, rfl⟩ := r2
  refine ⟨_, _, rfl, ?_⟩
  have b1 : (1000000 : Nat) ≤ sizeLine := by decide
  have eb : ("b" : Str) = oneB := by decide
  refine PySem.W.KXf.field_int eb (by decide) (by decide) (fun u => fmt_b (f := specB) parse_b rfl rfl rfl (by decide) rfl rfl (x := bs (lowB n).reverse) ?_ ?_) fun t3 k => ⟨.str _, _, I2.tok _, ⟨t3, rfl⟩, q⟩
  · have e1 : decide ((n : Int) < 0) = false := decide_eq_false (by omega)
    have e2 : ((Nat.toDigits 2 (n : Int).natAbs).map fun c => (if (98 : Nat) == 88 then c.toUpper else c).toNat) = (lowB n).reverse.map cb := by
      rw [← digits_low]
      rfl
    rw [e1, e2]
    have ne : ((lowB n).reverse.map cb).isEmpty = false := by
      have := lowB_ne n
      cases hh : lowB n with
      | nil => exact absurd hh this
      | cons a r => simp
    unfold intField' specB
    simp only [ne, Bool.false_eq_true, if_false]
    unfold bs
    rw [List.map_reverse]
    simp
  · rw [bs_len, List.length_reverse]
    omega
end
end Pf

/-! The range set of what is true, made by its points. No Python here. -/
namespace Rng
def stepM (p : Int → Bool) (acc : Prs) (lo hi : Int) : Prs :=
  if p lo = true then
    match acc.getLast? with
    | some q => if q.2 = lo - 1 then acc.dropLast ++ [(q.1, hi)] else acc ++ [(lo, hi)]
    | none => [(lo, hi)]
  else acc
def madeM (p : Int → Bool) : Prs → List Int → Prs
  | acc, a :: b :: r => madeM p (stepM p acc a (b - 1)) (b :: r)
  | acc, _ => acc
/-- p stays as it is from a point to the next -/
def Stays (p : Int → Bool) : List Int → Prop
  | a :: b :: r => (∀ n, a ≤ n → n < b → p n = p a) ∧ Stays p (b :: r)
  | _ => True
theorem From.snoc {a b : Int} : ∀ {k : Int} {ps : Prs}, From k ps → (∀ q ∈ ps, q.2 + 2 ≤ a) → k ≤ a → a ≤ b → From k (ps ++ [(a, b)])
  | _, [], _, _, h, l => ⟨h, l, trivial⟩
  | _, q :: r, ⟨h1, h2, h3⟩, u, h, l => ⟨h1, h2, From.snoc h3 (fun z m => u z (List.mem_cons_of_mem _ m)) (u q List.mem_cons_self) l⟩
theorem From.longer {a b c : Int} (l : b ≤ c) : ∀ {k : Int} {ps : Prs}, From k (ps ++ [(a, b)]) → From k (ps ++ [(a, c)])
  | _, [], ⟨h1, h2, _⟩ => ⟨h1, by show a ≤ c; have : a ≤ b := h2; omega, trivial⟩
  | _, q :: r, ⟨h1, h2, h3⟩ => ⟨h1, h2, From.longer (ps := r) l h3⟩
theorem From.last {a b : Int} : ∀ {k : Int} {ps : Prs}, From k (ps ++ [(a, b)]) → k ≤ a ∧ a ≤ b ∧ ∀ q ∈ ps, q.2 + 2 ≤ a
  | _, [], ⟨h1, h2, _⟩ => ⟨h1, h2, fun _ z => (List.not_mem_nil z).elim⟩
  | k, q :: r, ⟨h1, h2, h3⟩ => by
    obtain ⟨i1, i2, i3⟩ := From.last (ps := r) h3
    refine ⟨by omega, i2, fun z m => ?_⟩
    rcases List.mem_cons.mp m with e | m
    · rw [e]
      exact i1
    · exact i3 z m
theorem stepM_spec {p : Int → Bool} {acc : Prs} {k a b : Int} (f : From k acc) (up : ∀ q ∈ acc, q.2 < a) (ka : k ≤ a) (ab : a < b) (st : ∀ n, a ≤ n → n < b → p n = p a) :
    From k (stepM p acc a (b - 1)) ∧ (∀ q ∈ stepM p acc a (b - 1), q.2 < b) ∧ ∀ n, In n (stepM p acc a (b - 1)) ↔ In n acc ∨ (a ≤ n ∧ n < b ∧ p n = true) := by
  unfold stepM
  by_cases pa : p a = true
  · rw [if_pos pa]
    have new : From k (acc ++ [(a, b - 1)]) → (∀ q ∈ acc ++ [(a, b - 1)], q.2 < b) ∧ ∀ n, In n (acc ++ [(a, b - 1)]) ↔ In n acc ∨ (a ≤ n ∧ n < b ∧ p n = true) := fun _ => by
      refine ⟨fun q m => ?_, fun n => ?_⟩
      · rcases List.mem_append.mp m with m | m
        · have := up q m
          omega
        · rw [List.mem_singleton.mp m]
          show b - 1 < b
          omega
      · rw [In.app, In.cons]
        constructor
        · rintro (h | h | h)
          · exact Or.inl h
          · have h' : a ≤ n ∧ n ≤ b - 1 := h
            exact Or.inr ⟨h'.1, by omega, by rw [st n h'.1 (by omega)]; exact pa⟩
          · exact (In.nil h).elim
        · rintro (h | ⟨h1, h2, _⟩)
          · exact Or.inl h
          · exact Or.inr (Or.inl ⟨h1, by show n ≤ b - 1; omega⟩)
    cases e : acc.getLast? with
    | none =>
      have nil : acc = [] := List.getLast?_eq_none_iff.mp e
      subst nil
      have g : From k ([] ++ [(a, b - 1)]) := ⟨ka, by show a ≤ b - 1; omega, trivial⟩
      exact ⟨g, new g⟩
    | some q =>
      obtain ⟨init, rfl⟩ := List.getLast?_eq_some_iff.mp e
      obtain ⟨q1, q2⟩ := q
      dsimp only
      by_cases c : q2 = a - 1
      · rw [if_pos c, List.dropLast_concat]
        obtain ⟨l1, l2, l3⟩ := f.last
        refine ⟨f.longer (by omega), fun z m => ?_, fun n => ?_⟩
        · rcases List.mem_append.mp m with m | m
          · have := up z (List.mem_append_left _ m)
            omega
          · rw [List.mem_singleton.mp m]
            show b - 1 < b
            omega
        · rw [In.app, In.app, In.cons, In.cons]
          constructor
          · rintro (h | h | h)
            · exact Or.inl (Or.inl h)
            · have h' : q1 ≤ n ∧ n ≤ b - 1 := h
              by_cases z : n ≤ q2
              · exact Or.inl (Or.inr (Or.inl ⟨h'.1, z⟩))
              · exact Or.inr ⟨by omega, by omega, by rw [st n (by omega) (by omega)]; exact pa⟩
            · exact (In.nil h).elim
          · rintro ((h | h | h) | ⟨h1, h2, _⟩)
            · exact Or.inl h
            · have h' : q1 ≤ n ∧ n ≤ q2 := h
              exact Or.inr (Or.inl ⟨h'.1, by show n ≤ b - 1; omega⟩)
            · exact (In.nil h).elim
            · exact Or.inr (Or.inl ⟨by show q1 ≤ n; omega, by show n ≤ b - 1; omega⟩)
      · rw [if_neg c]
        have g : From k ((init ++ [(q1, q2)]) ++ [(a, b - 1)]) := by
          refine f.snoc (fun z m => ?_) ka (by omega)
          rcases List.mem_append.mp m with m | m
          · have h1 := f.last.2.2 z m
            have h2 := f.last.2.1
            have h3 : q2 < a := up (q1, q2) (List.mem_append_right _ (List.mem_singleton.mpr rfl))
            omega
          · rw [List.mem_singleton.mp m]
            have h3 : q2 < a := up (q1, q2) (List.mem_append_right _ (List.mem_singleton.mpr rfl))
            show q2 + 2 ≤ a
            omega
        exact ⟨g, new g⟩
  · rw [if_neg pa]
    refine ⟨f, fun q m => by have := up q m; omega, fun n => ⟨Or.inl, ?_⟩⟩
    rintro (h | ⟨h1, h2, h3⟩)
    · exact h
    · rw [st n h1 h2] at h3
      exact (pa h3).elim
theorem madeM_spec {p : Int → Bool} : ∀ (r : List Int) (a : Int) (acc : Prs) (k : Int), (a :: r).Pairwise (· < ·) → Stays p (a :: r) → From k acc → (∀ q ∈ acc, q.2 < a) → k ≤ a →
    Rg (madeM p acc (a :: r)) ∧ ∀ n, In n (madeM p acc (a :: r)) ↔ In n acc ∨ (a ≤ n ∧ (∃ e ∈ a :: r, n < e) ∧ p n = true)
  | [], a, acc, k, _, _, f, _, _ => by
    unfold madeM
    refine ⟨⟨k, f⟩, fun n => ⟨Or.inl, ?_⟩⟩
    rintro (h | ⟨h1, ⟨e, m, h2⟩, _⟩)
    · exact h
    · rw [List.mem_singleton.mp m] at h2
      omega
  | b :: r, a, acc, k, pw, st, f, up, ka => by
    unfold madeM
    obtain ⟨pw1, pw2⟩ := List.pairwise_cons.mp pw
    have ab : a < b := pw1 b List.mem_cons_self
    obtain ⟨s1, s2, s3⟩ := stepM_spec f up ka ab st.1
    obtain ⟨i1, i2⟩ := madeM_spec r b _ k pw2 st.2 s1 s2 (by omega)
    refine ⟨i1, fun n => ?_⟩
    rw [i2, s3]
    constructor
    · rintro ((h | ⟨h1, h2, h3⟩) | ⟨h1, ⟨e, m, h2⟩, h3⟩)
      · exact Or.inl h
      · exact Or.inr ⟨h1, ⟨b, List.mem_cons_of_mem _ List.mem_cons_self, h2⟩, h3⟩
      · exact Or.inr ⟨by omega, ⟨e, List.mem_cons_of_mem _ m, h2⟩, h3⟩
    · rintro (h | ⟨h1, ⟨e, m, h2⟩, h3⟩)
      · exact Or.inl (Or.inl h)
      · by_cases z : n < b
        · exact Or.inl (Or.inr ⟨h1, z, h3⟩)
        · rcases List.mem_cons.mp m with e1 | m
          · omega
          · exact Or.inr ⟨by omega, ⟨e, m, h2⟩, h3⟩
/-- .. of all points of what p tells -/
theorem madeM_all {p : Int → Bool} {ns : List Int} (pw : ns.Pairwise (· < ·)) (st : Stays p ns) (cov : ∀ n, p n = true → (∃ a ∈ ns, a ≤ n) ∧ ∃ e ∈ ns, n < e) : Rg (madeM p [] ns) ∧ ∀ n, In n (madeM p [] ns) ↔ p n = true := by
  cases ns with
  | nil =>
    refine ⟨⟨0, trivial⟩, fun n => ⟨fun h => (In.nil h).elim, fun h => ?_⟩⟩
    obtain ⟨⟨_, m, _⟩, _⟩ := cov n h
    exact (List.not_mem_nil m).elim
  | cons a r =>
    obtain ⟨i1, i2⟩ := madeM_spec r a [] a pw st trivial (fun _ z => (List.not_mem_nil z).elim) (Int.le_refl _)
    refine ⟨i1, fun n => ?_⟩
    rw [i2]
    constructor
    · rintro (h | h)
      · exact (In.nil h).elim
      · exact h.2.2
    · intro h
      obtain ⟨⟨z, m, l⟩, e⟩ := cov n h
      refine Or.inr ⟨?_, e, h⟩
      rcases List.mem_cons.mp m with e1 | m
      · omega
      · have := (List.pairwise_cons.mp pw).1 z m
        omega
/-- between two points that follow each other no range set that ends at points changes -/
theorem stays_of {p : Int → Bool} : ∀ {ns : List Int}, ns.Pairwise (· < ·) → (∀ a b, a < b → a ∈ ns → b ∈ ns → (∀ z ∈ ns, z ≤ a ∨ b ≤ z) → ∀ n, a ≤ n → n < b → p n = p a) → Stays p ns := by
  intro ns
  have go : ∀ (r pre : List Int), (pre ++ r).Pairwise (· < ·) → (∀ a b, a < b → a ∈ pre ++ r → b ∈ pre ++ r → (∀ z ∈ pre ++ r, z ≤ a ∨ b ≤ z) → ∀ n, a ≤ n → n < b → p n = p a) → Stays p r := by
    intro r
    induction r with
    | nil => exact fun _ _ _ => trivial
    | cons a r ih =>
      intro pre pw h
      cases r with
      | nil => trivial
      | cons b r =>
        obtain ⟨p1, p2, p3⟩ := List.pairwise_append.mp pw
        obtain ⟨c1, c2⟩ := List.pairwise_cons.mp p2
        obtain ⟨d1, d2⟩ := List.pairwise_cons.mp c2
        refine ⟨h a b (c1 b List.mem_cons_self) (List.mem_append_right _ List.mem_cons_self) (List.mem_append_right _ (List.mem_cons_of_mem _ List.mem_cons_self)) fun z m => ?_, ?_⟩
        · rcases List.mem_append.mp m with m | m
          · exact Or.inl (Int.le_of_lt (p3 z m a List.mem_cons_self))
          · rcases List.mem_cons.mp m with e | m
            · exact Or.inl (by omega)
            · rcases List.mem_cons.mp m with e | m
              · exact Or.inr (by omega)
              · exact Or.inr (Int.le_of_lt (d1 z m))
        · refine ih (pre ++ [a]) (by rw [List.append_assoc]; exact pw) ?_
          rw [List.append_assoc]
          exact h
  exact fun pw h => go ns [] pw h
end Rng

set_option Elab.async false
set_option linter.all false
set_option maxRecDepth 100000
/-! Range sets as rows of bits: the mathematics. -/
namespace Pf
open PySem PySem.Spec PyProof.Rows L2
/-- the bits from s on -/
def row (s : Int) : List (Int × Int) → List Bool
  | [] => []
  | q :: r => List.replicate (q.1 - s).toNat false ++ (List.replicate (q.2 - q.1 + 1).toNat true ++ row (q.2 + 1) r)
theorem getD_l {α : Type} {a b : List α} {k : Nat} {d : α} (h : k < a.length) : (a ++ b).getD k d = a.getD k d := by
  rw [List.getD_eq_getElem?_getD, List.getD_eq_getElem?_getD, List.getElem?_append_left h]
theorem getD_r {α : Type} {a b : List α} {k : Nat} {d : α} (h : a.length ≤ k) : (a ++ b).getD k d = b.getD (k - a.length) d := by
  rw [List.getD_eq_getElem?_getD, List.getD_eq_getElem?_getD, List.getElem?_append_right h]
theorem getD_rep {α : Type} {x d : α} {n k : Nat} (h : k < n) : (List.replicate n x).getD k d = x := by
  rw [List.getD_eq_getElem?_getD, List.getElem?_replicate, if_pos h]
  rfl
theorem row_bit : ∀ (ps : List (Int × Int)) (s : Int) (k : Nat), Rng.From s ps → ((row s ps).getD k false = true ↔ Rng.In (s + k) ps)
  | [], _, k, _ => by
    unfold row
    simp only [List.getD_nil, Bool.false_eq_true, false_iff]
    exact Rng.In.nil
  | q :: r, s, k, ⟨h1, h2, h3⟩ => by
    have ih := row_bit r (q.2 + 1) (k - (q.1 - s).toNat - (q.2 - q.1 + 1).toNat) (h3.down (by omega))
    unfold row
    rw [Rng.In.cons]
    by_cases c1 : k < (q.1 - s).toNat
    · rw [getD_l (by simpa using c1), getD_rep c1]
      simp only [Bool.false_eq_true, false_iff]
      rintro (z | z)
      · omega
      · have := h3.ge z
        omega
    · rw [getD_r (by simpa using Nat.le_of_not_lt c1), List.length_replicate]
      by_cases c2 : k - (q.1 - s).toNat < (q.2 - q.1 + 1).toNat
      · rw [getD_l (by simpa using c2), getD_rep c2]
        simp only [true_iff]
        left
        omega
      · rw [getD_r (by simpa using Nat.le_of_not_lt c2), List.length_replicate, ih]
        have e : q.2 + 1 + ((k - (q.1 - s).toNat - (q.2 - q.1 + 1).toNat : Nat) : Int) = s + k := by omega
        rw [e]
        constructor
        · exact Or.inr
        · rintro (z | z)
          · omega
          · exact z
theorem row_len {hi : Int} : ∀ (ps : List (Int × Int)) (s : Int), Rng.From s ps → (∀ q ∈ ps, q.2 ≤ hi) → (row s ps).length ≤ (hi + 1 - s).toNat
  | [], _, _, _ => Nat.zero_le _
  | q :: r, s, ⟨h1, h2, h3⟩, hh => by
    have ih := row_len r (q.2 + 1) (h3.down (by omega)) fun z m => hh z (List.mem_cons_of_mem _ m)
    have := hh q List.mem_cons_self
    unfold row
    rw [List.length_append, List.length_append, List.length_replicate, List.length_replicate]
    omega
/-! ### smeared -/
def Sm (B w k : Nat) : Prop := ∃ d, d < w ∧ d ≤ k ∧ B.testBit (k - d) = true
theorem sm_one (B k : Nat) : B.testBit k = true ↔ Sm B 1 k := by
  constructor
  · exact fun h => ⟨0, by decide, Nat.zero_le _, h⟩
  · rintro ⟨d, h1, h2, h3⟩
    have e : d = 0 := by omega
    subst e
    exact h3
theorem sm_step {B C d step : Nat} (h : ∀ k, C.testBit k = true ↔ Sm B d k) (hs : step ≤ d) (k : Nat) : (C ||| C <<< step).testBit k = true ↔ Sm B (d + step) k := by
  rw [Nat.testBit_or, Bool.or_eq_true, Nat.testBit_shiftLeft, Bool.and_eq_true, decide_eq_true_eq, h, h]
  constructor
  · rintro (⟨e, h1, h2, h3⟩ | ⟨h0, e, h1, h2, h3⟩)
    · exact ⟨e, by omega, h2, h3⟩
    · refine ⟨e + step, by omega, by omega, ?_⟩
      rw [← h3]
      congr 1
      omega
  · rintro ⟨e, h1, h2, h3⟩
    by_cases c : e < d
    · exact Or.inl ⟨e, c, h2, h3⟩
    · right
      refine ⟨by omega, e - step, by omega, by omega, ?_⟩
      rw [← h3]
      congr 1
      omega
/-- no bit from m on -/
def Few (B m : Nat) : Prop := ∀ k, B.testBit k = true → k < m
theorem Few.lt {B m : Nat} (h : Few B m) : B < 2 ^ m := Nat.lt_pow_two_of_testBit _ fun k hk => by
  cases e : B.testBit k with
  | false => rfl
  | true => exact absurd (h k e) (by omega)
theorem Few.up {B m n : Nat} (h : Few B m) (l : m ≤ n) : Few B n := fun k hk => Nat.lt_of_lt_of_le (h k hk) l
theorem Few.sm {B C m w : Nat} (h : Few B m) (e : ∀ k, C.testBit k = true ↔ Sm B w k) : Few C (m + w) := fun k hk => by
  obtain ⟨d, h1, h2, h3⟩ := (e k).mp hk
  have := h _ h3
  omega
theorem Few.bits {B m : Nat} (h : Few B m) : Builtin.Int.intBits (B : Int) ≤ m := by
  have l := h.lt
  exact PySem.intBits_le_iff.mpr l
theorem or_shl {C step : Nat} : Builtin.bitOr (C : Int) ((C : Int) * 2 ^ (step : Int).toNat) = ((C ||| C <<< step : Nat) : Int) := by
  have e : (C : Int) * 2 ^ (step : Int).toNat = ((C <<< step : Nat) : Int) := by
    rw [Nat.shiftLeft_eq]
    push_cast
    rfl
  rw [e, bitOr_nn (Int.natCast_nonneg _) (Int.natCast_nonneg _)]
  rfl
end Pf

set_option Elab.async false
set_option linter.all false
set_option maxRecDepth 100000
/-! The law's call where the limit of digits is needed. -/
namespace Pf
open PySem PySem.Spec PyProof.Rows L2
/-- the law's call at the caller of a claim: the script is the one object that is known -/
theorem lawN {P : Program} {w : World} {K : PySem.W.Frag} {mg mb : Str → Option Value} {k : Nat} {fa a : Addr} {fd : FuncData} {x : Str} {sp : Sp} {s₁ : Shared} {vs : List Value} {ns : List Int}
    (KX : K.In s₁.heap) (gn : s₁.heap.Ns mainGlobals mg) (bn : s₁.heap.Ns builtinsNs mb) (bb : ∀ x : Str, x ≠ "__name__" → mb x = bootBuiltins x) (nl : s₁.heap.NoLimit) (nd : s₁.heap.NoDigits) (gens : s₁.gens = #[])
    (at_a : s₁.heap.get? a = some { cls := .type "list", data := .seq vs.toArray }) (iv : IntsAre vs ns) (few : ns.length ≤ sizeLine) (room : Room k callerA)
    (F : ∀ base : Heap, K.In base → base.Ns mainGlobals mg → base.NoDigits → FnG P w K mg base k fa fd [x] sp) (bind : ∀ (s : Shared) (u : Value), BindsTo s fd ⟨[u], []⟩ [(x, u)])
    (goal : ∀ H : Hp, SqL K H a (ns.map V.int) → sp [.ref a] H (fun v _ => v = .bl true) fun _ _ _ => False) :
    codeAny (model P w) callerA (.call (.ref fa) ⟨[.ref a], []⟩) (fun out t => out = .ok (.ret (.bool true)) ∧ OldK s₁.heap t.heap ∧ t.os = s₁.os ∧ AllBare t.gens) s₁ := by
  have rel := vals_ints iv
  -- the abstract heap: the script, unless it is an object of the written part
  obtain ⟨H, only, sql, ok, mine, offK⟩ : ∃ H : Hp, (∀ b, H b = none ∨ ∃ o xs, H b = some (.frz o (.lst xs))) ∧ SqL K H a (ns.map V.int) ∧ HOk P w H s₁.heap ∧ (∀ b, H b ≠ none → b = a) ∧ (H a ≠ none → K.lookup a = none) := by
    cases look : K.lookup a with
    | some o =>
      have same := KX a o look
      rw [at_a] at same
      cases same
      exact ⟨fun _ => none, fun _ => Or.inl rfl, .inr ⟨_, vs.toArray, _, look, rfl, rfl, rfl, by rw [List.size_toArray, iv.length]; exact few, by simpa using rel⟩, (fun _ _ z => by cases (show (none : Option HO) = some _ from z)), (fun _ z => absurd rfl z), (fun z => absurd rfl z)⟩
    | none =>
      refine ⟨fun b => if b = a then some (.frz { cls := .type "list", data := .seq vs.toArray } (.lst (ns.map V.int))) else none, fun b => ?_, .inl (.inr ⟨_, if_pos rfl⟩), fun b u z => ?_, fun b z => ?_, fun _ => rfl⟩
      · by_cases hb : b = a
        · exact Or.inr ⟨_, _, if_pos hb⟩
        · exact Or.inl (if_neg hb)
      · by_cases hb : b = a
        · subst hb
          have zz := (if_pos rfl).symm.trans z
          cases zz
          exact ⟨at_a, by rw [List.length_map]; exact few, vs, _, rel, at_a⟩
        · have zz := (if_neg hb).symm.trans z
          cases zz
      · by_cases hb : b = a
        · exact hb
        · exact absurd (if_neg hb) z
  have hid : ∀ {b : Addr} {o : Obj}, s₁.heap.get? b = some o → H b = none → (hidT s₁.heap H).get? b = some o := fun e n => hidT_get e n
  have dicts : ∀ {b : Addr} {o : Obj} {es : Array DictEntry} {ep : Nat}, s₁.heap.get? b = some o → o.data = .dict es ep → H b = none := by
    intro b o es ep e d
    apply Classical.byContradiction
    intro z
    have eb := mine b z
    subst eb
    rw [at_a] at e
    cases e
    exact absurd d (fun q => nomatch q)
  have names : ∀ {b : Addr} {m : Str → Option Value}, s₁.heap.Ns b m → (hidT s₁.heap H).Ns b m := by
    rintro b m ⟨o, es, ep, e, d, r⟩
    exact ⟨o, es, ep, hid e (dicts e d), d, r⟩
  have kin : K.In (hidT s₁.heap H) := by
    intro b o e
    refine hid (KX b o e) (Classical.byContradiction fun z => ?_)
    have eb := mine b z
    subst eb
    rw [offK z] at e
    cases e
  obtain ⟨mc, n1, n2⟩ := nl
  obtain ⟨md, d1, d2⟩ := nd
  have env0 : Env0 P w K mg (hidT s₁.heap H) callerA [] s₁ H :=
    ⟨rfl, ⟨kin, names gn, ⟨mb, names bn, bb⟩, ⟨mc, names n1, n2⟩⟩, fun b o e => of_hidT e, Nat.le_of_eq (hidT_size _ _), trivial, fun b hb => (List.not_mem_nil hb).elim, ok, .of_eq gens⟩
  refine codeAny_mono ((F _ kin (names gn) ⟨md, names d1, d2⟩).goes callerA [] s₁ H ⟨[.ref a], []⟩ [.ref a] [.ref a] _ _ rfl room env0 (bind s₁ (.ref a)) (.cons rfl .nil) (goal H sql)) ?_
  intro res s' z
  match res, z with
  | .ok .next, z => exact z.elim
  | .ok .brk, z => exact z.elim
  | .ok .cont, z => exact z.elim
  | .ok (.ret u), ⟨v, H', os, bare, un, ok', rv, q⟩ =>
    have vt : v = V.bl true := q
    subst vt
    have ut : u = Value.bool true := rv
    subst ut
    refine ⟨rfl, OldK.of_keep (fun b o e => ?_), os, bare⟩
    rcases only b with n | ⟨ob, xs, fz⟩
    · exact un.keep b o e n (fun m => (List.not_mem_nil m).elim) (by simp)
    · have g1 := (ok b _ fz).1
      have g2 := (ok' b _ (un.frzs b ob _ fz)).1
      rw [e] at g1
      cases g1
      exact g2
theorem walkN {l : PySem.W.OpenLaw} {k : Nat} {q : Program} {loose : List Str} {XP : (Str → Option Value) → Heap → Prop} {YP : World → Heap → Prop} {d : DefRec} {K : Params → PySem.W.Frag} {sp : PySem.W.Frag → Sp} {x : Str}
    (hn : l.most = some 63) (hdf : d.params.defaults = []) (room : Room k callerA) (hY : ∀ (w : World) (h : Heap), YP w h → (K w.params).In h)
    (F : ∀ (w : World) (mg : Str → Option Value) (at_ : Addr) (top : Heap), (K w.params).In top → top.Ns mainGlobals mg → mg d.name = some (.ref at_) →
      ∃ fd : FuncData, (∀ (s : Shared) (u : Value), BindsTo s fd ⟨[u], []⟩ [(x, u)]) ∧ ∀ base : Heap, (K w.params).In base → base.Ns mainGlobals mg → base.NoDigits → FnG l.prog w (K w.params) mg base k at_ fd [x] (sp (K w.params)))
    (goal : ∀ (K : PySem.W.Frag) (H : Hp) (a : Addr) (ns : List Int), ns.length ≤ 63 → SqL K H a (ns.map V.int) → sp K [.ref a] H (fun v _ => v = .bl true) fun _ _ _ => False) :
    PySem.W.WalkO q loose XP YP l.row.toRowW d [] (fun g args => PySem.call g args) := by
  refine Att.attach_call hn hdf ?_
  intro w _ _ mg _ fa _ _ _ _ a _ ns top behind _ _ _ named script iv few gens
  obtain ⟨fd, bind, made⟩ := F w mg fa _ (hY w _ behind) top.T.g named
  exact lawN (hY w _ behind) top.T.g top.T.b top.T.builtins top.T.nolimit top.T.nodigits gens script iv (Nat.le_trans few (by decide)) room made bind fun H hS => goal _ H a ns few hS
end Pf

set_option Elab.async false
set_option linter.all false
set_option maxRecDepth 100000
/-! The text of the program and of the law. -/
namespace Pf
open PySem PySem.Spec PyProof.Rows L2
def topS (i : Nat) : Stmt := PySem.Challenge.pw_piecefacts_k04_whole_rules_of_range_sets.main.body.getD i (.Pass ⟨0, 0, 0, 0⟩)
structure Txt (mg : Str → Option Value) : Prop where
  b_abs : mg "abs" = none
  b_all : mg "all" = none
  b_any : mg "any" = none
  b_bool : mg "bool" = none
  b_int : mg "int" = none
  b_isinstance : mg "isinstance" = none
  b_len : mg "len" = none
  b_max : mg "max" = none
  b_min : mg "min" = none
  b_range : mg "range" = none
  b_sorted : mg "sorted" = none
  b_tuple : mg "tuple" = none
  b_zip : mg "zip" = none
end Pf

set_option Elab.async false
set_option linter.all false
set_option maxRecDepth 100000
/-! The program's range sets: both, united, gaps, either, without. -/
namespace Pf
open PySem PySem.Spec PyProof.Rows L2
local macro_rules | `(tactic| walk_at "rd") => `(tactic| simp only [tC1, tCK, tB, rNe, rEq, tChain, gTupV, gCons, gNil, Nat.sub_self, Nat.reduceSub, List.replicate_zero, List.replicate_succ, tTest, tIfS, tIf, tNot, tAnd, tOr, tAndV, tOrV, tNotV, tDrop, tNext, rIxV, rIxP,
  gSub, rSetL, tSl, tPart, tNoPart, rSl1, tAsg2, ipI, tDNewK, tBM, rAppend, wipe, rAllB, rAnyB, iTup, iList, RZ.iZipA, iRng1, iRng2, tYes, upd_same, at0, at1, at2, at20, at21, ixN30, ixN32, HO.lst.injEq, HO.tup.injEq, Nat.reduceAdd, tSeq, tAsg, tPar, tAug, tOp, tVar, tC, tCB, tCons, tNil, rI, rI0, rU, tUn, gName, tRet, tLst, tLstM, tTup, L2.start, List.map_cons, List.map_nil, List.length_cons, List.length_nil, List.replicate, List.cons_append,
  List.nil_append, List.set_cons_zero, List.set_cons_succ, List.getElem?_cons_zero, List.getElem?_cons_succ, Option.some.injEq, V.int.injEq, V.ref.injEq, V.bl.injEq, V.str.injEq, List.cons.injEq, exists_eq_left', exists_eq_left, exists_and_left, exists_and_right, and_true, true_and, reduceCtorEq, false_and,
  exists_false, or_false, false_or, exists_const, exists_eq, exists_eq', Bool.not_true, Bool.not_false, Bool.false_eq_true, if_true, if_false, ite_true, ite_false])
/-- at a stands a tuple of the pairs ps -/
def SetAt (H : Hp) (a : Addr) (ps : List (Int × Int)) : Prop := ∃ xs, H a = some (.tup xs) ∧ PrAll H xs ps
theorem SetAt.same {H H' : Hp} {a : Addr} {ps : List (Int × Int)} (h : SetAt H a ps) (s : Same H H') : SetAt H' a ps := by
  obtain ⟨xs, e, p⟩ := h
  exact ⟨xs, s _ _ e, p.tk (TK.of s)⟩
theorem PrAll.at {H : Hp} {xs : List V} {ps : List (Int × Int)} {i : Nat} (h : PrAll H xs ps) (hi : i < ps.length) : ∃ t, atI xs (i : Int) = some (.ref t) ∧ H t = some (.tup [.int ps[i].1, .int ps[i].2]) := by
  induction h generalizing i with
  | nil => exact absurd hi (Nat.not_lt_zero _)
  | @cons v q xs ps h1 _ ih =>
    cases i with
    | zero =>
      obtain ⟨t, e1, e2⟩ := h1
      exact ⟨t, atI_nat (j := 0) (by rw [e1]; rfl), e2⟩
    | succ i =>
      obtain ⟨t, e1, e2⟩ := ih (i := i) (by simpa using hi)
      refine ⟨t, ?_, e2⟩
      have hx : i < xs.length := by
        have := Paired.length ‹Paired (PrAt H) xs ps›
        have h2 : i < ps.length := by simpa using hi
        omega
      have e3 : atI xs (i : Int) = some xs[i] := atI_nat (List.getElem?_eq_getElem hx)
      rw [e3] at e1
      exact atI_nat (j := i + 1) (by rw [List.getElem?_cons_succ, List.getElem?_eq_getElem hx]; exact e1)
abbrev s_both : Stmt := topS 10
theorem sc_both : FnScope ["one", "other", "found", "k", "n", "low", "high"] ["one", "other"] (defScope s_both) := ⟨rfl, rfl, rfl, by decide +kernel, rfl, by decide +kernel, by decide +kernel⟩
abbrev s_either : Stmt := topS 11
theorem sc_either : FnScope ["one", "other"] ["one", "other"] (defScope s_either) := ⟨rfl, rfl, rfl, by decide +kernel, rfl, by decide +kernel, by decide +kernel⟩
abbrev s_without : Stmt := topS 12
theorem sc_without : FnScope ["one", "other"] ["one", "other"] (defScope s_without) := ⟨rfl, rfl, rfl, by decide +kernel, rfl, by decide +kernel, by decide +kernel⟩
abbrev s_united : Stmt := topS 16
theorem sc_united : FnScope ["pairs", "found", "low", "high", "next_low", "next_high"] ["pairs"] (defScope s_united) := ⟨rfl, rfl, rfl, by decide +kernel, rfl, by decide +kernel, by decide +kernel⟩
abbrev s_gaps : Stmt := topS 17
theorem sc_gaps : FnScope ["ranges", "low", "high", "inner", "starts", "ends", "pair", "start", "end"] ["ranges", "low", "high"] (defScope s_gaps) := ⟨rfl, rfl, rfl, by decide +kernel, rfl, by decide +kernel, by decide +kernel⟩
section
variable {base : Heap} {P : Program} {w : World} {mg : Str → Option Value} {K : PySem.W.Frag}
def sp_both : Sp := fun vs H Q _ => ∃ (a b : Addr) (ps qs : List (Int × Int)), vs = [.ref a, .ref b] ∧ SetAt H a ps ∧ SetAt H b qs ∧ ps.length ≤ 100000 ∧ qs.length ≤ 100000 ∧ ∀ (H' : Hp) (t : Addr), Same H H' → SetAt H' t (Rng.both ps qs) → Q (.ref t) H'
theorem both_drop {ps qs : List (Int × Int)} {k n : Nat} (hk : k < ps.length) (hn : n < qs.length) : Rng.both (ps.drop k) (qs.drop n) = Rng.cutTo ps[k] qs[n] ++ (if ps[k].2 < qs[n].2 then Rng.both (ps.drop (k + 1)) (qs.drop n) else Rng.both (ps.drop k) (qs.drop (n + 1))) := by
  rw [List.drop_eq_getElem_cons hk, List.drop_eq_getElem_cons hn, Rng.both]
theorem both_end {ps qs : List (Int × Int)} {k n : Nat} (h : ps.length ≤ k ∨ qs.length ≤ n) : Rng.both (ps.drop k) (qs.drop n) = [] := by
  rcases h with h | h
  · rw [List.drop_eq_nil_of_le h, Rng.both]
  · rw [List.drop_eq_nil_of_le h]
    cases ps.drop k with
    | nil => rw [Rng.both]
    | cons q r => rw [Rng.both]
theorem ifmax {i j : Int} : (if j > i then j else i) = max i j := by
  split <;> omega
theorem ifmin {i j : Int} : (if j < i then j else i) = min i j := by
  split <;> omega
def left2 (m n : Nat) : L2.St → Nat
  | [_, _, _, some (.int x), some (.int y), _, _] => (m - x).toNat + (n - y).toNat
  | _ => 0
theorem ok_both {f : Addr} {fd : FuncData} (F : Fun K "both" "both" s_both f fd) (T : Txt mg) : FnG P w K mg base 1 f fd ["one", "other"] sp_both := by
  refine okG F sc_both (fun vs H Q E h => ?_) (fun cdv A outer s H vs Q E hg hr h => ?_)
  · obtain ⟨a, b, ps, qs, rfl, _⟩ := h
    rfl
  · obtain ⟨a, b, ps, qs, rfl, ⟨xs, ea, pa⟩, ⟨ys, eb, pb⟩, la, lb, q⟩ := h
    refine ⟨_, (pss_cons (ps_set (i := 2) sc_both.nd rfl (Or.inl rfl) (pe_lst pa_nil))
        (pss_cons (ps_asg2 pe_int (pg_name (i := 3) sc_both.nd rfl (Or.inl rfl)) (pg_name (i := 4) sc_both.nd rfl (Or.inl rfl)))
        (pss_cons (ps_while PassesOwn.never (PW.pt (pw_and (pt_cmpR op_lt (pv 3) (pe_callB call_lenT (by rfl) T.b_len (by decide +kernel) (pa_cons (pv 0) pa_nil)) (nomark _)) (pw_and1 (pt_cmpR op_lt (pv 4) (pe_callB call_lenT (by rfl) T.b_len (by decide +kernel) (pa_cons (pv 1) pa_nil)) (nomark _))))) (pss_cons (ps_set (i := 5) sc_both.nd rfl (Or.inl rfl) (pe_callB (call_max2 rfl) (by rfl) T.b_max (by decide +kernel) (pa_cons (pe_ix ix_t (pe_ix ix_t (pv 0) (pv 3) (fun _ _ => rfl)) pe_int (fun _ _ => rfl)) (pa_cons (pe_ix ix_t (pe_ix ix_t (pv 1) (pv 4) (fun _ _ => rfl)) pe_int (fun _ _ => rfl)) pa_nil))))
        (pss_cons (ps_set (i := 6) sc_both.nd rfl (Or.inl rfl) (pe_callB (call_min2 rfl) (by rfl) T.b_min (by decide +kernel) (pa_cons (pe_ix ix_t (pe_ix ix_t (pv 0) (pv 3) (fun _ _ => rfl)) pe_int (fun _ _ => rfl)) (pa_cons (pe_ix ix_t (pe_ix ix_t (pv 1) (pv 4) (fun _ _ => rfl)) pe_int (fun _ _ => rfl)) pa_nil))))
        (pss_cons (ps_if (pt_cmpR op_le (pv 5) (pv 6) (nomark _)) (pss_one (ps_expr (pe_bm PySem.F.plainAttrs_list PySem.F.slot_list_append PySem.F.type_list_append mt_append (pv 2) (pa_cons (pe_tup (pa_cons (pv 5) (pa_cons (pv 6) pa_nil))) pa_nil)))) pss_nil)
        (pss_one (ps_if (pt_cmpR op_lt (pe_ix ix_t (pe_ix ix_t (pv 0) (pv 3) (fun _ _ => rfl)) pe_int (fun _ _ => rfl)) (pe_ix ix_t (pe_ix ix_t (pv 1) (pv 4) (fun _ _ => rfl)) pe_int (fun _ _ => rfl)) (nomark _)) (pss_one (ps_aug (i := 3) sc_both.nd rfl (Or.inl rfl) pe_int ip_add)) (pss_one (ps_aug (i := 4) sc_both.nd rfl (Or.inl rfl) pe_int ip_add))))))))
        (pss_one (ps_ret (pe_callTy call_tupleL (by rfl) T.b_tuple (by decide +kernel) (pa_cons (pv 2) pa_nil))))))), ?_⟩
    have xl := pa.len
    have yl := pb.len
    walk_at "rd"
    refine ⟨Nat.zero_le _, fun l nl => ?_⟩
    have s0 := new_same (o := HO.lst []) nl
    refine while_by (fun σ H' => ∃ (k n : Nat) (xf : List V) (rs : List (Int × Int)) (u v : Option V), σ = [some (.ref a), some (.ref b), some (.ref l), some (.int k), some (.int n), u, v] ∧ k ≤ ps.length ∧ n ≤ qs.length ∧ Same H H' ∧ H' l = some (.lst xf) ∧ PrAll H' xf rs ∧ rs.length ≤ k + n ∧ rs ++ Rng.both (ps.drop k) (qs.drop n) = Rng.both ps qs)
      (fun σ _ => left2 ps.length qs.length σ) ⟨0, 0, [], [], _, _, rfl, Nat.zero_le _, Nat.zero_le _, s0, upd_same, .nil, Nat.le_refl _, rfl⟩ ?_ ?_
    · rintro σ H1 ⟨k, n, xf, rs, u, v, rfl, hk, hn, s1, el, pr, hr2, eq⟩
      have ea1 := s1 _ _ ea
      have eb1 := s1 _ _ eb
      walk_at "rd"
      simp only [ea1, eb1, Option.some.injEq, HO.tup.injEq, exists_eq_left']
      have fin : (ps.length ≤ k ∨ qs.length ≤ n) → ∀ t, H1 t = none → Q (.ref t) (upd H1 t (.tup xf)) := fun h t nt => by
        rw [both_end h, List.append_nil] at eq
        rw [← eq] at q
        exact q _ t (s1.trans (new_same nt)) ⟨xf, upd_same, pr.tk (TK.of (new_same nt))⟩
      by_cases c1 : k < ps.length
      · rw [if_pos (decide_eq_true (by omega))]
        by_cases c2 : n < qs.length
        · rw [if_pos (decide_eq_true (by omega))]
          obtain ⟨ta, ia, ga⟩ := (pa.tk (TK.of s1)).at c1
          obtain ⟨tb, ib, gb⟩ := (pb.tk (TK.of s1)).at c2
          simp only [ia, ib, ga, gb, at20, at21, Option.some.injEq, V.ref.injEq, V.int.injEq, HO.tup.injEq, exists_eq_left']
          refine ⟨_, _, ⟨rfl, rfl⟩, _, _, ⟨rfl, rfl⟩, ?_⟩
          rw [ifmax, ifmin]
          have bd := both_drop c1 c2
          by_cases c3 : max ps[k].1 qs[n].1 ≤ min ps[k].2 qs[n].2
          · rw [if_pos (decide_eq_true c3)]
            refine ⟨Or.inl ⟨rfl, xf, SqL.of el⟩, by decide, fun T nT => ?_⟩
            have nlT : l ≠ T := ne_of_none el nT
            have sT := new_same (o := HO.tup [V.int (max ps[k].1 qs[n].1), V.int (min ps[k].2 qs[n].2)]) nT
            have lT := sT _ _ el
            have tB : TK H1 (upd (upd H1 T (HO.tup [V.int (max ps[k].1 qs[n].1), V.int (min ps[k].2 qs[n].2)])) l (HO.lst (xf ++ [V.ref T]))) := (TK.of sT).trans (TK.put lT)
            have xfl := pr.len
            refine ⟨xf, lT, Nat.lt_of_le_of_lt (show xf.length ≤ 200000 by omega) (by decide), ?_⟩
            have sHB : Same H (upd (upd H1 T (HO.tup [V.int (max ps[k].1 qs[n].1), V.int (min ps[k].2 qs[n].2)])) l (HO.lst (xf ++ [V.ref T]))) := fun c o e => by
              rw [upd_ne (ne_of_none e nl)]
              exact sT _ _ (s1 _ _ e)
            have lB : upd (upd H1 T (HO.tup [V.int (max ps[k].1 qs[n].1), V.int (min ps[k].2 qs[n].2)])) l (HO.lst (xf ++ [V.ref T])) l = some (.lst (xf ++ [V.ref T])) := upd_same
            have prB := (pr.tk tB).snoc (q := (max ps[k].1 qs[n].1, min ps[k].2 qs[n].2)) ⟨T, rfl, by rw [upd_ne nlT.symm, upd_same]⟩
            have eaB := tB _ _ ea1
            have ebB := tB _ _ eb1
            have gaB := tB _ _ ga
            have gbB := tB _ _ gb
            generalize upd (upd H1 T (HO.tup [V.int (max ps[k].1 qs[n].1), V.int (min ps[k].2 qs[n].2)])) l (HO.lst (xf ++ [V.ref T])) = HB at *
            simp only [eaB, ebB, gaB, gbB, ia, ib, at20, at21, Option.some.injEq, V.ref.injEq, V.int.injEq, HO.tup.injEq, exists_eq_left']
            have eqN : (rs ++ [(max ps[k].1 qs[n].1, min ps[k].2 qs[n].2)]) ++ (if ps[k].2 < qs[n].2 then Rng.both (ps.drop (k + 1)) (qs.drop n) else Rng.both (ps.drop k) (qs.drop (n + 1))) = Rng.both ps qs := by
              rw [← eq, bd, List.append_assoc]
              unfold Rng.cutTo
              rw [if_pos c3]
            have lenN : (rs ++ [(max ps[k].1 qs[n].1, min ps[k].2 qs[n].2)]).length ≤ k + n + 1 := by rw [List.length_append]; simp only [List.length_cons, List.length_nil]; omega
            by_cases c4 : ps[k].2 < qs[n].2
            · rw [if_pos c4] at eqN
              rw [if_pos (decide_eq_true c4)]
              refine ⟨⟨k + 1, n, ⟨rfl, rfl⟩, by omega, hn, sHB, _, prB, by omega, eqN⟩, ?_⟩
              show ((ps.length : Int) - ((k : Int) + 1)).toNat + ((qs.length : Int) - (n : Int)).toNat < ((ps.length : Int) - (k : Int)).toNat + ((qs.length : Int) - (n : Int)).toNat
              omega
            · rw [if_neg c4] at eqN
              rw [if_neg (fun z => c4 (of_decide_eq_true z))]
              refine ⟨⟨k, n + 1, ⟨rfl, rfl⟩, hk, by omega, sHB, _, prB, by omega, eqN⟩, ?_⟩
              show ((ps.length : Int) - (k : Int)).toNat + ((qs.length : Int) - ((n : Int) + 1)).toNat < ((ps.length : Int) - (k : Int)).toNat + ((qs.length : Int) - (n : Int)).toNat
              omega
          · rw [if_neg (fun z => c3 (of_decide_eq_true z))]
            have eqN : rs ++ (if ps[k].2 < qs[n].2 then Rng.both (ps.drop (k + 1)) (qs.drop n) else Rng.both (ps.drop k) (qs.drop (n + 1))) = Rng.both ps qs := by
              rw [← eq, bd]
              unfold Rng.cutTo
              rw [if_neg c3, List.nil_append]
            by_cases c4 : ps[k].2 < qs[n].2
            · rw [if_pos c4] at eqN
              rw [if_pos (decide_eq_true c4)]
              refine ⟨⟨k + 1, n, ⟨rfl, rfl⟩, by omega, hn, s1, xf, el, rs, pr, by omega, eqN⟩, ?_⟩
              show ((ps.length : Int) - ((k : Int) + 1)).toNat + ((qs.length : Int) - (n : Int)).toNat < ((ps.length : Int) - (k : Int)).toNat + ((qs.length : Int) - (n : Int)).toNat
              omega
            · rw [if_neg c4] at eqN
              rw [if_neg (fun z => c4 (of_decide_eq_true z))]
              refine ⟨⟨k, n + 1, ⟨rfl, rfl⟩, hk, by omega, s1, xf, el, rs, pr, by omega, eqN⟩, ?_⟩
              show ((ps.length : Int) - (k : Int)).toNat + ((qs.length : Int) - ((n : Int) + 1)).toNat < ((ps.length : Int) - (k : Int)).toNat + ((qs.length : Int) - (n : Int)).toNat
              omega
        · rw [if_neg (fun z => c2 (by have := of_decide_eq_true z; omega))]
          exact ⟨xf, el, fin (Or.inr (by omega))⟩
      · rw [if_neg (fun z => c1 (by have := of_decide_eq_true z; omega))]
        exact ⟨xf, el, fin (Or.inl (by omega))⟩
    · intro σ H Q Q' hq h
      obtain ⟨v, e1, x, e2, p1, y1, e3, e4, i, j, e5, e6, k, e7, r⟩ := h
      refine ⟨v, e1, x, e2, p1, y1, e3, e4, i, j, e5, e6, k, e7, ?_⟩
      cases k with
      | true =>
        obtain ⟨v, e1, x, e2, p1, y1, e3, e4, i, j, e5, e6, k, e7, r⟩ := r
        exact ⟨v, e1, x, e2, p1, y1, e3, e4, i, j, e5, e6, k, e7, hq _ _ r⟩
      | false => exact hq _ _ r
end
end Pf

set_option Elab.async false
set_option linter.all false
set_option maxRecDepth 100000
/-! The program's range sets: united. -/
namespace Pf
open PySem PySem.Spec PyProof.Rows L2
local macro_rules | `(tactic| walk_at "rd") => `(tactic| simp only [tC1, tCK, tB, rNe, rEq, tChain, gTupV, gCons, gNil, Nat.sub_self, Nat.reduceSub, List.replicate_zero, List.replicate_succ, tTest, tIfS, tIf, tNot, tAnd, tOr, tAndV, tOrV, tNotV, tDrop, tNext, rIxV, rIxP,
  gSub, rSetL, tSl, tPart, tNoPart, rSl1, tAsg2, ipI, tDNewK, tBM, rAppend, wipe, rAllB, rAnyB, iTup, iList, RZ.iZipA, iRng1, iRng2, tYes, upd_same, at0, at1, at2, at20, at21, ixN30, ixN32, HO.lst.injEq, HO.tup.injEq, Nat.reduceAdd, tSeq, tAsg, tPar, tAug, tOp, tVar, tC, tCB, tCons, tNil, rI, rI0, rU, tUn, gName, tRet, tLst, tLstM, tTup, L2.start, List.map_cons, List.map_nil, List.length_cons, List.length_nil, List.replicate, List.cons_append,
  List.nil_append, List.set_cons_zero, List.set_cons_succ, List.getElem?_cons_zero, List.getElem?_cons_succ, Option.some.injEq, V.int.injEq, V.ref.injEq, V.bl.injEq, V.str.injEq, List.cons.injEq, exists_eq_left', exists_eq_left, exists_and_left, exists_and_right, and_true, true_and, reduceCtorEq, false_and,
  exists_false, or_false, false_or, exists_const, exists_eq, exists_eq', Bool.not_true, Bool.not_false, Bool.false_eq_true, if_true, if_false, ite_true, ite_false])
theorem cut_tail (xs : List V) : cutV xs (some 1) none = xs.drop 1 := by
  have h1 : HT.sIx xs.length 0 (some 1) = min 1 xs.length := HT.sIx_nat xs.length 0 1
  have h2 : HT.sIx xs.length xs.length none = xs.length := HT.sIx_none ..
  unfold cutV
  rw [h1, h2]
  cases xs with
  | nil => rfl
  | cons y r =>
    rw [show min 1 (y :: r).length = 1 from Nat.min_eq_left (by simp)]
    exact List.take_of_length_le (by simp)
section
variable {base : Heap} {P : Program} {w : World} {mg : Str → Option Value} {K : PySem.W.Frag}
def sp_united : Sp := fun vs H Q _ => ∃ (a : Addr) (xs : List V) (ps : List (Int × Int)), vs = [.ref a] ∧ H a = some (.lst xs) ∧ PrAll H xs ps ∧ ps.length ≤ 100000 ∧ ∀ (H' : Hp) (t : Addr), Same H H' → SetAt H' t (Rng.united ps) → Q (.ref t) H'
theorem ok_united {f : Addr} {fd : FuncData} (F : Fun K "united" "united" s_united f fd) (T : Txt mg) : FnG P w K mg base 1 f fd ["pairs"] sp_united := by
  refine okG F sc_united (fun vs H Q E h => ?_) (fun cdv A outer s H vs Q E hg hr h => ?_)
  · obtain ⟨a, xs, ps, rfl, _⟩ := h
    rfl
  · obtain ⟨a, xs, ps, rfl, ea, pa, la, q⟩ := h
    refine ⟨_, (pss_cons (ps_if (pt_not (pt_truth (pv 0) (by intro _; rfl))) (pss_one (ps_ret (pe_tup pa_nil))) pss_nil)
        (pss_cons (ps_set (i := 1) sc_united.nd rfl (Or.inl rfl) (pe_lst pa_nil))
        (pss_cons (ps_asg (pe_ix ix_v (pv 0) pe_int (fun _ _ => rfl)) (pg_tupV (n := 2) rfl (pgs_cons (pg_name (i := 2) sc_united.nd rfl (Or.inl rfl)) (pgs_cons (pg_name (i := 3) sc_united.nd rfl (Or.inl rfl)) pgs_nil))))
        (pss_cons (ps_for PassesOwn.never rfl (pi_list (pe_slice sl_list (pv 0) (po_some pe_int) po_none)) (pg_tupV (n := 2) rfl (pgs_cons (pg_name (i := 4) sc_united.nd rfl (Or.inl rfl)) (pgs_cons (pg_name (i := 5) sc_united.nd rfl (Or.inl rfl)) pgs_nil))) (pss_one (ps_if (pt_cmpR op_gt (pv 4) (pe_op op_add (pv 3) pe_int) (nomark _)) (pss_cons (ps_expr (pe_bm PySem.F.plainAttrs_list PySem.F.slot_list_append PySem.F.type_list_append mt_append (pv 1) (pa_cons (pe_tup (pa_cons (pv 2) (pa_cons (pv 3) pa_nil))) pa_nil)))
        (pss_one (ps_par (i := 2) (j := 3) (by rfl) sc_united.nd rfl rfl (by decide) rfl rfl (pa_cons (pv 4) (pa_cons (pv 5) pa_nil)) (by rfl)))) (pss_one (ps_set (i := 3) sc_united.nd rfl (Or.inl rfl) (pe_callB (call_max2 rfl) (by rfl) T.b_max (by decide +kernel) (pa_cons (pv 3) (pa_cons (pv 5) pa_nil))))))))
        (pss_one (ps_ret (pe_tup (StX.pa_star (pv 1) (pa_cons (pe_tup (pa_cons (pv 2) (pa_cons (pv 3) pa_nil))) pa_nil))))))))), ?_⟩
    have xl := pa.len
    walk_at "rd"
    cases pa with
    | nil => exact ⟨false, .inl ⟨[], SqL.of ea, rfl⟩, iteT ⟨Nat.zero_le _, fun t nt => q _ t (new_same nt) ⟨[], upd_same, .nil⟩⟩⟩
    | @cons v q0 vs qs h0 pa2 =>
      obtain ⟨t0, rfl, e0⟩ := h0
      refine ⟨true, .inl ⟨_, SqL.of ea, rfl⟩, iteF ⟨Nat.zero_le _, fun l nl => ?_⟩⟩
      have sl := new_same (o := HO.lst []) nl
      refine ⟨_, sl _ _ ea, _, atI_nat (j := 0) rfl, t0, rfl, _, sl _ _ e0, rfl, _, _, rfl, _, _, rfl, rfl, ?_⟩
      refine ⟨.ref a, rfl, 1, rfl, a, _, rfl, SqL.of (sl _ _ ea), fun S nS => ?_⟩
      have sS := new_same (o := HO.lst (cutV (V.ref t0 :: vs) (some 1) none)) nS
      have eS : upd (upd H l (HO.lst [])) S (HO.lst (cutV (V.ref t0 :: vs) (some 1) none)) S = some (.lst vs) := by rw [upd_same, cut_tail]; rfl
      have lS := sS _ _ (show upd H l (HO.lst []) l = some (.lst []) from upd_same)
      have nlS : l ≠ S := ne_of_none upd_same nS
      have sHS := sl.trans sS
      generalize upd (upd H l (HO.lst [])) S (HO.lst (cutV (V.ref t0 :: vs) (some 1) none)) = H2 at *
      have qlen : qs.length ≤ 100000 := by simp only [List.length_cons] at la; omega
      have vlen := PrAll.len pa2
      refine ⟨S, rfl, ⟨_, SqL.of eS⟩, for_list (K := K) (xs := vs) (fun i σ H' => ∃ (lo hi : Int) (rs : List (Int × Int)) (xf : List V) (u z : Option V), σ = [some (.ref a), some (.ref l), some (.int lo), some (.int hi), u, z] ∧ Same H H' ∧ H' S = some (.lst vs) ∧ H' l = some (.lst xf) ∧ PrAll H' xf rs ∧ rs.length ≤ i ∧ rs ++ Rng.pour lo hi (qs.drop i) = Rng.pour q0.1 q0.2 qs)
        ⟨_, _, [], [], _, _, rfl, sHS, eS, lS, .nil, Nat.le_refl _, rfl⟩ (fun i σ H' _ ⟨_, _, _, _, _, _, _, _, e, _⟩ => SqL.of e) ?_ ?_⟩
      · rintro i x σ H3 hx ⟨lo, hi, rs, xf, u, z, rfl, s3, e3, l3, p3, n3, eq⟩
        have hi2 : i < vs.length := (List.getElem?_eq_some_iff.mp hx).1
        have hi3 : i < qs.length := by omega
        obtain ⟨t, it, gt⟩ := (PrAll.tk pa2 ((TK.of s3))).at hi3
        have ex : x = .ref t := by
          rw [atI_nat hx] at it
          exact Option.some.inj it
        subst ex
        have dr := List.drop_eq_getElem_cons hi3
        rw [dr] at eq
        walk_at "rd"
        simp only [gt, Option.some.injEq, HO.tup.injEq, exists_eq_left']
        refine ⟨rfl, _, _, rfl, _, _, rfl, rfl, _, rfl, ?_⟩
        have pd : Rng.pour lo hi (qs[i] :: qs.drop (i + 1)) = if qs[i].1 > hi + 1 then (lo, hi) :: Rng.pour qs[i].1 qs[i].2 (qs.drop (i + 1)) else Rng.pour lo (max hi qs[i].2) (qs.drop (i + 1)) := by rw [Rng.pour]
        rw [pd] at eq
        have xfl := PrAll.len p3
        by_cases c : hi + 1 < qs[i].1
        · rw [if_pos c] at eq
          rw [if_pos (decide_eq_true c)]
          refine ⟨Or.inl ⟨rfl, xf, SqL.of l3⟩, by decide, fun T nT => ?_⟩
          have sT := new_same (o := HO.tup [V.int lo, V.int hi]) nT
          have nlT : l ≠ T := ne_of_none l3 nT
          have nST : S ≠ T := ne_of_none e3 nT
          have tB : TK H3 (upd (upd H3 T (HO.tup [V.int lo, V.int hi])) l (HO.lst (xf ++ [V.ref T]))) := (TK.of sT).trans (TK.put (sT _ _ l3))
          have sB : Same H (upd (upd H3 T (HO.tup [V.int lo, V.int hi])) l (HO.lst (xf ++ [V.ref T]))) := fun d o e => by
            rw [upd_ne (ne_of_none e nl)]
            exact sT _ _ (s3 _ _ e)
          exact ⟨xf, sT _ _ l3, Nat.lt_of_le_of_lt (show xf.length ≤ 100000 by omega) (by decide), _, _, ⟨rfl, rfl⟩, _, _, ⟨rfl, rfl⟩, sB, by rw [upd_ne nlS.symm, upd_ne nST]; exact e3, rs ++ [(lo, hi)], (PrAll.tk p3 tB).snoc ⟨T, rfl, by rw [upd_ne nlT.symm, upd_same]⟩, by rw [List.length_append]; simp only [List.length_cons, List.length_nil]; omega, by rw [List.append_assoc]; exact eq⟩
        · rw [if_neg c] at eq
          rw [if_neg (fun g => c (of_decide_eq_true g))]
          exact ⟨_, _, ⟨rfl, rfl⟩, _, _, ⟨rfl, rfl⟩, s3, e3, rs, xf, l3, p3, by omega, by rw [ifmax]; exact eq⟩
      · rintro σ H3 ⟨lo, hi, rs, xf, u, z, rfl, s3, e3, l3, p3, n3, eq⟩
        rw [vlen, List.drop_length] at eq
        walk_at "rd"
        have xfl := PrAll.len p3
        refine ⟨.ref l, rfl, l, xf, rfl, .inr (SqL.of l3), _, rfl, _, rfl, by show 2 ≤ sizeLine; decide, fun T nT => ⟨?_, fun t nt => ?_⟩⟩
        · rw [List.length_append]
          simp only [List.length_cons, List.length_nil]
          exact Nat.le_trans (show _ ≤ 200000 by omega) (by decide)
        · have sT := new_same (o := HO.tup [V.int lo, V.int hi]) nT
          have st := new_same (o := HO.tup (xf ++ [V.ref T])) nt
          refine q _ t (s3.trans (sT.trans st)) ⟨xf ++ [V.ref T], upd_same, ?_⟩
          show PrAll _ _ (Rng.pour q0.1 q0.2 qs)
          rw [← eq]
          exact (PrAll.tk p3 (TK.of (sT.trans st))).snoc ⟨T, rfl, st _ _ upd_same⟩
end
end Pf

set_option Elab.async false
set_option linter.all false
set_option maxRecDepth 100000
/-! The program's range sets: gaps, without. -/
namespace Pf
open PySem PySem.Spec PyProof.Rows L2
local macro_rules | `(tactic| walk_at "rd") => `(tactic| simp only [tC1, tCK, tB, rNe, rEq, tChain, gTupV, gCons, gNil, Nat.sub_self, Nat.reduceSub, List.replicate_zero, List.replicate_succ, tTest, tIfS, tIf, tNot, tAnd, tOr, tAndV, tOrV, tNotV, tDrop, tNext, rIxV, rIxP,
  gSub, rSetL, tSl, tPart, tNoPart, rSl1, tAsg2, ipI, tDNewK, tBM, rAppend, wipe, rAllB, rAnyB, iTup, iList, RZ.iZipA, iRng1, iRng2, tYes, upd_same, at0, at1, at2, at20, at21, ixN30, ixN32, HO.lst.injEq, HO.tup.injEq, Nat.reduceAdd, tSeq, tAsg, tPar, tAug, tOp, tVar, tC, tCB, tCons, tNil, rI, rI0, rU, tUn, gName, tRet, tLst, tLstM, tTup, L2.start, List.map_cons, List.map_nil, List.length_cons, List.length_nil, List.replicate, List.cons_append,
  List.nil_append, List.set_cons_zero, List.set_cons_succ, List.getElem?_cons_zero, List.getElem?_cons_succ, Option.some.injEq, V.int.injEq, V.ref.injEq, V.bl.injEq, V.str.injEq, List.cons.injEq, exists_eq_left', exists_eq_left, exists_and_left, exists_and_right, and_true, true_and, reduceCtorEq, false_and,
  exists_false, or_false, false_or, exists_const, exists_eq, exists_eq', Bool.not_true, Bool.not_false, Bool.false_eq_true, if_true, if_false, ite_true, ite_false])
def startsOf (low : Int) (inner : List (Int × Int)) : List Int := low :: inner.map (fun q => q.2 + 1)
def endsOf (high : Int) (inner : List (Int × Int)) : List Int := inner.map (fun q => q.1 - 1) ++ [high]
theorem holes_zip (high : Int) : ∀ (inner : List (Int × Int)) (low : Int), ((startsOf low inner).zip (endsOf high inner)).filter (fun q => decide (q.1 ≤ q.2)) = Rng.holes low high inner
  | [], low => by
    show [(low, high)].filter _ = _
    unfold Rng.holes
    by_cases c : low ≤ high
    · rw [if_pos c]
      simp [c]
    · rw [if_neg c]
      simp [c]
  | q :: r, low => by
    have ih := holes_zip high r (q.2 + 1)
    show ((low, q.1 - 1) :: ((startsOf (q.2 + 1) r).zip (endsOf high r))).filter _ = _
    unfold Rng.holes
    rw [List.filter_cons, ih]
    by_cases c : low ≤ q.1 - 1
    · rw [if_pos c, if_pos (decide_eq_true c)]
      rfl
    · rw [if_neg c, if_neg (fun z => c (of_decide_eq_true z))]
      rfl
section
variable {base : Heap} {P : Program} {w : World} {mg : Str → Option Value} {K : PySem.W.Frag}
def sp_gaps : Sp := fun vs H Q _ => ∃ (a : Addr) (ps : List (Int × Int)) (low high : Int), vs = [.ref a, .int low, .int high] ∧ SetAt H a ps ∧ ps.length ≤ 50000 ∧ ∀ (H' : Hp) (t : Addr), Same H H' → SetAt H' t (Rng.holes low high (Rng.both ps [(low, high)])) → Q (.ref t) H'
theorem both_len : ∀ (x y : List (Int × Int)), (Rng.both x y).length ≤ x.length + y.length
  | [], y => by
    unfold Rng.both
    exact Nat.zero_le _
  | p :: r, [] => by
    unfold Rng.both
    exact Nat.zero_le _
  | p :: r, q :: s => by
    unfold Rng.both
    have hc : (Rng.cutTo p q).length ≤ 1 := by
      unfold Rng.cutTo
      split
      · exact Nat.le_refl _
      · exact Nat.zero_le _
    rw [List.length_append]
    split
    · have := both_len r (q :: s)
      simp only [List.length_cons] at this ⊢
      omega
    · have := both_len (p :: r) s
      simp only [List.length_cons] at this ⊢
      omega
termination_by x y => x.length + y.length
theorem ok_gaps {f : Addr} {fd : FuncData} (F : Fun K "gaps" "gaps" s_gaps f fd) (T : Txt mg) (C_both : Cal P w K mg base 1 "both" sp_both) : FnG P w K mg base 2 f fd ["ranges", "low", "high"] sp_gaps := by
  refine okG F sc_gaps (fun vs H Q E h => ?_) (fun cdv A outer s H vs Q E hg hr h => ?_)
  · obtain ⟨a, ps, low, high, rfl, _⟩ := h
    rfl
  · obtain ⟨a, ps, low, high, rfl, pa, la, q⟩ := h
    replace hr := And.intro hg hr
    refine ⟨_, (pss_cons (ps_set (i := 3) sc_gaps.nd rfl (Or.inl rfl) (pe_c C_both hr (by decide) (by rfl) (pa_cons (pv 0) (pa_cons (pe_tup (pa_cons (pe_tup (pa_cons (pv 1) (pa_cons (pv 2) pa_nil))) pa_nil)) pa_nil))))
        (pss_cons (ps_set (i := 4) sc_gaps.nd rfl (Or.inl rfl) (pe_op op_cat (pe_lst (pa_cons (pv 1) pa_nil)) (pe_lc (own := [("pair", 6)]) (g := gName 6) (tt := tYes) rfl sc_gaps.nd (pi_tup (pv 3)) (blkOk_by (own := [("pair", 6)]) (N := ["ranges", "low", "high", "inner", "starts", "ends", "pair", "start", "end"]) (sc := defScope s_gaps) (by decide +kernel)) (fun _ _ _ _ _ => (pg_name (i := 6) sc_gaps.nd rfl (Or.inl rfl))) (fun _ _ _ _ _ => pts_nil) (fun _ _ _ _ _ => (pe_op op_add (pe_ix ix_t (pv 6) pe_int (fun _ _ => rfl)) pe_int)))))
        (pss_cons (ps_set (i := 5) sc_gaps.nd rfl (Or.inl rfl) (pe_op op_cat (pe_lc (own := [("pair", 6)]) (g := gName 6) (tt := tYes) rfl sc_gaps.nd (pi_tup (pv 3)) (blkOk_by (own := [("pair", 6)]) (N := ["ranges", "low", "high", "inner", "starts", "ends", "pair", "start", "end"]) (sc := defScope s_gaps) (by decide +kernel)) (fun _ _ _ _ _ => (pg_name (i := 6) sc_gaps.nd rfl (Or.inl rfl))) (fun _ _ _ _ _ => pts_nil) (fun _ _ _ _ _ => (pe_op op_sub (pe_ix ix_t (pv 6) pe_int (fun _ _ => rfl)) pe_int))) (pe_lst (pa_cons (pv 2) pa_nil))))
        (pss_one (ps_ret (pe_callTy call_tupleL (by rfl) T.b_tuple (by decide +kernel) (pa_cons (pe_lc (own := [("start", 7), ("end", 8)]) (g := gTupV 2 (gCons (gName 7) (gCons (gName 8) gNil))) rfl sc_gaps.nd (pi_zip (by rfl) T.b_zip (pa_cons (pv 4) (pa_cons (pv 5) pa_nil))) (blkOk_by (own := [("start", 7), ("end", 8)]) (N := ["ranges", "low", "high", "inner", "starts", "ends", "pair", "start", "end"]) (sc := defScope s_gaps) (by decide +kernel)) (fun _ _ _ _ _ => (pg_tupV (n := 2) rfl (pgs_cons (pg_name (i := 7) sc_gaps.nd rfl (Or.inl rfl)) (pgs_cons (pg_name (i := 8) sc_gaps.nd rfl (Or.inl rfl)) pgs_nil)))) (fun _ _ _ _ _ => pts_one (pt_cmpR op_le (pv 7) (pv 8) (nomark _))) (fun _ _ _ _ _ => (pe_tup (pa_cons (pv 7) (pa_cons (pv 8) pa_nil))))) pa_nil))))))), ?_⟩
    walk_at "rd"
    refine ⟨by decide, fun A1 n1 => ⟨by decide, fun A2 n2 => ?_⟩⟩
    have s1 := new_same (o := HO.tup [V.int low, V.int high]) n1
    have s2 := new_same (o := HO.tup [V.ref A1]) n2
    have one : SetAt (upd (upd H A1 (HO.tup [V.int low, V.int high])) A2 (HO.tup [V.ref A1])) A2 [(low, high)] := ⟨_, upd_same, .cons ⟨A1, rfl, s2 _ _ upd_same⟩ .nil⟩
    have s12 := s1.trans s2
    generalize upd (upd H A1 (HO.tup [V.int low, V.int high])) A2 (HO.tup [V.ref A1]) = H2 at *
    have rl := both_len ps [(low, high)]
    refine ⟨a, A2, ps, [(low, high)], rfl, pa.same s12, one, by omega, by show 1 ≤ 100000; decide, fun H3 t s3 ⟨xi, ei, pi⟩ => ⟨by decide, fun B nB => ?_⟩⟩
    simp only [List.length_cons, List.length_nil] at rl
    have q' := q
    generalize Rng.both ps [(low, high)] = rs at *
    have sB := new_same (o := HO.lst [V.int low]) nB
    have eB : upd H3 B (HO.lst [V.int low]) B = some (HO.lst [V.int low]) := upd_same
    generalize upd H3 B (HO.lst [V.int low]) = H4 at *
    have il := PrAll.len pi
    have big : (60000 : Nat) ≤ sizeLine := by decide
    have ei4 := sB _ _ ei
    have pi4 := PrAll.tk pi (TK.of sB)
    have s14 := s12.trans (s3.trans sB)
    refine ⟨.ref t, rfl, t, rfl, ⟨xi, SqT.of ei4⟩, lcMap (walk_tup (xs := xi)) ((rs.map (fun q => q.2 + 1)).map V.int) (by simp [il]) (by omega) (fun H5 s5 => s5.seqT (SqT.of ei4)) (fun i x H5 H6 y R ho s5 hy kk => ?_) (fun H5 D1 hD1 s5 hL1 => ?_)⟩
    · obtain ⟨rfl, hx⟩ := hy
      have hi : i < rs.length := by
        have := (List.getElem?_eq_some_iff.mp hx).1
        omega
      obtain ⟨u, iu, gu⟩ := (PrAll.tk pi4 (TK.of s5)).at hi
      have ex : x = .ref u := by
        rw [atI_nat hx] at iu
        exact Option.some.inj iu
      subst ex
      have ey : y = .int (rs[i].2 + 1) := by
        rw [List.getElem?_map, List.getElem?_map, List.getElem?_eq_getElem hi] at ho
        exact (Option.some.inj ho).symm
      subst ey
      refine ⟨rfl, ?_⟩
      walk_at "rd"
      simp only [gu, at20, at21, Option.some.injEq, HO.tup.injEq, exists_eq_left']
      exact ⟨_, rfl, kk _ (Same.refl _)⟩
    · refine ⟨B, D1, _, _, rfl, rfl, s5 _ _ eB, hL1, by simp; omega, fun C1 nC1 => ?_⟩
      have sC1 := new_same (o := HO.lst ([V.int low] ++ (rs.map (fun q => q.2 + 1)).map V.int)) nC1
      have eC1 : upd H5 C1 (HO.lst ([V.int low] ++ (rs.map (fun q => q.2 + 1)).map V.int)) C1 = some (HO.lst ((startsOf low rs).map V.int)) := upd_same
      generalize upd H5 C1 (HO.lst ([V.int low] ++ (rs.map (fun q => q.2 + 1)).map V.int)) = H6 at *
      have s16 := s14.trans (s5.trans sC1)
      have ei6 := sC1 _ _ (s5 _ _ ei4)
      have pi6 := PrAll.tk pi4 (TK.of (s5.trans sC1))
      clear s5 sC1 hL1
      refine ⟨.ref t, rfl, t, rfl, ⟨xi, SqT.of ei6⟩, lcMap (walk_tup (xs := xi)) ((rs.map (fun q => q.1 - 1)).map V.int) (by simp [il]) (by omega) (fun H7 s7 => s7.seqT (SqT.of ei6)) (fun i x H7 H8 y R ho s7 hy kk => ?_) (fun H7 D2 hD2 s7 hL2 => ⟨by decide, fun E1 nE1 => ?_⟩)⟩
      · obtain ⟨rfl, hx⟩ := hy
        have hi : i < rs.length := by
          have := (List.getElem?_eq_some_iff.mp hx).1
          omega
        obtain ⟨u, iu, gu⟩ := (PrAll.tk pi6 (TK.of s7)).at hi
        have ex : x = .ref u := by
          rw [atI_nat hx] at iu
          exact Option.some.inj iu
        subst ex
        have ey : y = .int (rs[i].1 - 1) := by
          rw [List.getElem?_map, List.getElem?_map, List.getElem?_eq_getElem hi] at ho
          exact (Option.some.inj ho).symm
        subst ey
        refine ⟨rfl, ?_⟩
        walk_at "rd"
        simp only [gu, at20, at21, Option.some.injEq, HO.tup.injEq, exists_eq_left']
        exact ⟨_, rfl, kk _ (Same.refl _)⟩
      · have sE1 := new_same (o := HO.lst [V.int high]) nE1
        refine ⟨D2, E1, _, _, rfl, rfl, sE1 _ _ hL2, upd_same, by simp; omega, fun C2 nC2 => ?_⟩
        have sC2 := new_same (o := HO.lst ((rs.map (fun q => q.1 - 1)).map V.int ++ [V.int high])) nC2
        have eC2 : upd (upd H7 E1 (HO.lst [V.int high])) C2 (HO.lst ((rs.map (fun q => q.1 - 1)).map V.int ++ [V.int high])) C2 = some (HO.lst ((endsOf high rs).map V.int)) := by
          rw [upd_same]
          unfold endsOf
          rw [List.map_append]
          rfl
        have s7C := s7.trans (sE1.trans sC2)
        generalize upd (upd H7 E1 (HO.lst [V.int high])) C2 (HO.lst ((rs.map (fun q => q.1 - 1)).map V.int ++ [V.int high])) = H8 at *
        have eC18 := s7C _ _ eC1
        have s18 := s16.trans s7C
        refine ⟨.ref C1, rfl, .ref C2, rfl, C1, C2, _, _, rfl, SqL.of eC18, SqL.of eC2, fun D3 nD3 => lc_it (walk_zip rfl) (fun i H' => ∃ (xf : List V) (os : List (Int × Int)), Same H8 H' ∧ H' D3 = some (.lst xf) ∧ PrAll H' xf os ∧ os = (((startsOf low rs).zip (endsOf high rs)).take i).filter (fun q => decide (q.1 ≤ q.2)))
          ⟨[], [], new_same nD3, upd_same, .nil, rfl⟩ (fun i H' _ ⟨_, _, ss, _, _, _⟩ => ⟨SqL.of (ss _ _ eC18), SqL.of (ss _ _ eC2)⟩) ?_ ?_⟩
        · rintro i x H9 H10 hi ⟨xf, os, ss, ef, pf, eo⟩ ⟨T, x1, x2, rfl, nT, rfl, g1, g2⟩
          have pick : ∀ {l : List Int} {y : V}, (l.map V.int)[i]? = some y → ∃ n, l[i]? = some n ∧ y = .int n := fun {l y} h => by
            rw [List.getElem?_map] at h
            cases e : l[i]? with
            | none => rw [e] at h; cases h
            | some n => rw [e] at h; exact ⟨n, rfl, (Option.some.inj h).symm⟩
          obtain ⟨sv, hs1, rfl⟩ := pick g1
          obtain ⟨ev, he1, rfl⟩ := pick g2
          have zz : ((startsOf low rs).zip (endsOf high rs))[i]? = some (sv, ev) := List.getElem?_zip_eq_some.mpr ⟨hs1, he1⟩
          have tk1 : ((startsOf low rs).zip (endsOf high rs)).take (i + 1) = ((startsOf low rs).zip (endsOf high rs)).take i ++ [(sv, ev)] := by
            rw [List.take_add_one, zz]
            rfl
          have sT := new_same (o := HO.tup [V.int sv, V.int ev]) nT
          have xfl : xf.length ≤ 60000 := by
            rw [PrAll.len pf, eo]
            refine Nat.le_trans (List.length_filter_le _ _) ?_
            rw [List.length_take, List.length_zip]
            unfold startsOf
            simp only [List.length_cons, List.length_map]
            omega
          refine ⟨T, _, rfl, upd_same, rfl, _, _, rfl, _, _, rfl, rfl, rfl, ?_⟩
          walk_at "rd"
          by_cases c : sv ≤ ev
          · rw [if_pos (decide_eq_true c)]
            refine ⟨by decide, fun U nU => ?_⟩
            have sU := new_same (o := HO.tup [V.int sv, V.int ev]) nU
            have efU := sU _ _ (sT _ _ ef)
            have nDU : D3 ≠ U := ne_of_none (sT _ _ ef) nU
            have tkB : TK H9 (upd (upd (upd H9 T (HO.tup [V.int sv, V.int ev])) U (HO.tup [V.int sv, V.int ev])) D3 (HO.lst (xf ++ [V.ref U]))) := (TK.of (sT.trans sU)).trans (TK.put efU)
            refine ⟨xf, efU, Nat.lt_of_le_of_lt xfl (by decide), fun d o e => ?_, os ++ [(sv, ev)], (PrAll.tk pf tkB).snoc ⟨U, rfl, by rw [upd_ne nDU.symm, upd_same]⟩, ?_⟩
            · rw [upd_ne (ne_of_none e nD3)]
              exact sU _ _ (sT _ _ (ss _ _ e))
            · rw [tk1, List.filter_append, ← eo]
              simp [c]
          · rw [if_neg (fun g => c (of_decide_eq_true g))]
            refine ⟨ss.trans sT, xf, sT _ _ ef, os, PrAll.tk pf (TK.of sT), ?_⟩
            rw [tk1, List.filter_append, ← eo]
            simp [c]
        · rintro H9 ⟨xf, os, ss, ef, pf, eo⟩
          refine ⟨D3, rfl, xf, ef, fun l nl => q _ l (s18.trans (ss.trans (new_same nl))) ⟨xf, upd_same, ?_⟩⟩
          have eo2 : os = Rng.holes low high rs := by
            rw [eo, ← holes_zip high rs low, List.take_of_length_le (by rw [List.length_zip, List.length_map, List.length_map]; exact Nat.le_refl _)]
          rw [← eo2]
          exact PrAll.tk pf (TK.of (new_same nl))
end
end Pf

set_option Elab.async false
set_option linter.all false
set_option maxRecDepth 100000
/-! The program's range sets: without; either: the sorted sum. -/
namespace Pf
open PySem PySem.Spec PyProof.Rows L2
local macro_rules | `(tactic| walk_at "rd") => `(tactic| simp only [tC1, tCK, tB, rNe, rEq, tChain, gTupV, gCons, gNil, Nat.sub_self, Nat.reduceSub, List.replicate_zero, List.replicate_succ, tTest, tIfS, tIf, tNot, tAnd, tOr, tAndV, tOrV, tNotV, tDrop, tNext, rIxV, rIxP,
  gSub, rSetL, tSl, tPart, tNoPart, rSl1, tAsg2, ipI, tDNewK, tBM, rAppend, wipe, rAllB, rAnyB, iTup, iList, RZ.iZipA, iRng1, iRng2, tYes, upd_same, at0, at1, at2, at20, at21, ixN30, ixN32, HO.lst.injEq, HO.tup.injEq, Nat.reduceAdd, tSeq, tAsg, tPar, tAug, tOp, tVar, tC, tCB, tCons, tNil, rI, rI0, rU, tUn, gName, tRet, tLst, tLstM, tTup, L2.start, List.map_cons, List.map_nil, List.length_cons, List.length_nil, List.replicate, List.cons_append,
  List.nil_append, List.set_cons_zero, List.set_cons_succ, List.getElem?_cons_zero, List.getElem?_cons_succ, Option.some.injEq, V.int.injEq, V.ref.injEq, V.bl.injEq, V.str.injEq, List.cons.injEq, exists_eq_left', exists_eq_left, exists_and_left, exists_and_right, and_true, true_and, reduceCtorEq, false_and,
  exists_false, or_false, false_or, exists_const, exists_eq, exists_eq', Bool.not_true, Bool.not_false, Bool.false_eq_true, if_true, if_false, ite_true, ite_false])
/-- the range set of the numbers in one and not in the other -/
def withoutM (ps qs : List (Int × Int)) : List (Int × Int) :=
  match ps.head?, ps.getLast? with
  | some q, some r => Rng.both ps (Rng.holes q.1 r.2 (Rng.both qs [(q.1, r.2)]))
  | _, _ => []
section
variable {base : Heap} {P : Program} {w : World} {mg : Str → Option Value} {K : PySem.W.Frag}
def sp_without : Sp := fun vs H Q _ => ∃ (a b : Addr) (ps qs : List (Int × Int)), vs = [.ref a, .ref b] ∧ SetAt H a ps ∧ SetAt H b qs ∧ ps.length ≤ 40000 ∧ qs.length ≤ 40000 ∧ ∀ (H' : Hp) (t : Addr), Same H H' → SetAt H' t (withoutM ps qs) → Q (.ref t) H'
theorem PrAll.lastAt {H : Hp} {xs : List V} {ps : List (Int × Int)} (h : PrAll H xs ps) (hi : ps.length - 1 < ps.length) : ∃ t, atI xs (-1) = some (.ref t) ∧ H t = some (.tup [.int ps[ps.length - 1].1, .int ps[ps.length - 1].2]) := by
  have len := PrAll.len h
  obtain ⟨t, e1, e2⟩ := h.at hi
  refine ⟨t, ?_, e2⟩
  have hx : ps.length - 1 < xs.length := by omega
  rw [atI_nat (List.getElem?_eq_getElem hx)] at e1
  have ea : atI xs (-1) = xs[ps.length - 1]? := by
    unfold atI ixN
    rw [if_neg (by decide), if_pos (by omega)]
    show xs[((-1 : Int) + xs.length).toNat]? = _
    congr 1
    omega
  rw [ea, List.getElem?_eq_getElem hx, e1]
theorem holes_len (high : Int) : ∀ (r : List (Int × Int)) (s : Int), (Rng.holes s high r).length ≤ r.length + 1
  | [], s => by
    unfold Rng.holes
    split
    · exact Nat.le_refl _
    · exact Nat.zero_le _
  | q :: r, s => by
    unfold Rng.holes
    have ih := holes_len high r (q.2 + 1)
    rw [List.length_append]
    split
    · simp only [List.length_cons, List.length_nil]
      omega
    · simp only [List.length_cons, List.length_nil]
      omega
theorem ok_without {f : Addr} {fd : FuncData} (F : Fun K "without" "without" s_without f fd) (T : Txt mg) (C_both : Cal P w K mg base 1 "both" sp_both) (C_gaps : Cal P w K mg base 2 "gaps" sp_gaps) : FnG P w K mg base 3 f fd ["one", "other"] sp_without := by
  refine okG F sc_without (fun vs H Q E h => ?_) (fun cdv A outer s H vs Q E hg hr h => ?_)
  · obtain ⟨a, b, ps, qs, rfl, _⟩ := h
    rfl
  · obtain ⟨a, b, ps, qs, rfl, ⟨xs, ea, pa⟩, pb, la, lb, q⟩ := h
    replace hr := And.intro hg hr
    refine ⟨_, (pss_cons (ps_if (pt_not (pt_truth (pv 0) (by intro _; rfl))) (pss_one (ps_ret (pe_tup pa_nil))) pss_nil)
        (pss_one (ps_ret (pe_c C_both hr (by decide) (by rfl) (pa_cons (pv 0) (pa_cons (pe_c C_gaps hr (by decide) (by rfl) (pa_cons (pv 1) (pa_cons (pe_ix ix_t (pe_ix ix_t (pv 0) pe_int (fun _ _ => rfl)) pe_int (fun _ _ => rfl)) (pa_cons (pe_ix ix_t (pe_ix ix_t (pv 0) (pe_un un_neg pe_int) (fun _ _ => rfl)) pe_int (fun _ _ => rfl)) pa_nil)))) pa_nil)))))), ?_⟩
    walk_at "rd"
    cases pa with
    | nil => exact ⟨false, .inr (.inl ⟨[], SqT.of ea, rfl⟩), iteT ⟨Nat.zero_le _, fun t nt => q _ t (new_same nt) ⟨[], upd_same, .nil⟩⟩⟩
    | @cons v q0 vs qs0 h0 pa2 =>
      have pa : PrAll H (v :: vs) (q0 :: qs0) := .cons h0 pa2
      obtain ⟨t0, e1, e0⟩ := h0
      have hi : (q0 :: qs0).length - 1 < (q0 :: qs0).length := by simp
      obtain ⟨t1, e3, e4⟩ := pa.lastAt hi
      have ew : withoutM (q0 :: qs0) qs = Rng.both (q0 :: qs0) (Rng.holes q0.1 (q0 :: qs0)[(q0 :: qs0).length - 1].2 (Rng.both qs [(q0.1, (q0 :: qs0)[(q0 :: qs0).length - 1].2)])) := by
        unfold withoutM
        rw [List.getLast?_eq_getElem?, List.getElem?_eq_getElem hi]
        rfl
      rw [ew] at q
      generalize (q0 :: qs0)[(q0 :: qs0).length - 1] = qz at *
      refine ⟨true, .inr (.inl ⟨_, SqT.of ea, rfl⟩), iteF ⟨_, ea, _, atI_nat (j := 0) rfl, t0, e1, _, e0, _, at20, _, ea, _, e3, t1, rfl, _, e4, _, at21, b, qs, _, _, rfl, pb, by omega, fun H1 t s1 st => ?_⟩⟩
      have l1 := holes_len qz.2 (Rng.both qs [(q0.1, qz.2)]) q0.1
      have l2 := both_len qs [(q0.1, qz.2)]
      simp only [List.length_cons, List.length_nil] at l2
      exact ⟨a, t, _, _, rfl, ⟨_, s1 _ _ ea, PrAll.tk pa (TK.of s1)⟩, st, by omega, by omega, fun H2 u s2 su => q H2 u (s1.trans s2) su⟩
end
end Pf

set_option Elab.async false
set_option linter.all false
set_option maxRecDepth 100000
/-! The program's range sets: either; pairs sorted. -/
namespace Pf
open PySem PySem.Spec PyProof.Rows L2
local macro_rules | `(tactic| walk_at "rd") => `(tactic| simp only [tC1, tCK, tB, rNe, rEq, tChain, gTupV, gCons, gNil, Nat.sub_self, Nat.reduceSub, List.replicate_zero, List.replicate_succ, tTest, tIfS, tIf, tNot, tAnd, tOr, tAndV, tOrV, tNotV, tDrop, tNext, rIxV, rIxP,
  gSub, rSetL, tSl, tPart, tNoPart, rSl1, tAsg2, ipI, tDNewK, tBM, rAppend, wipe, rAllB, rAnyB, iTup, iList, RZ.iZipA, iRng1, iRng2, tYes, upd_same, at0, at1, at2, at20, at21, ixN30, ixN32, HO.lst.injEq, HO.tup.injEq, Nat.reduceAdd, tSeq, tAsg, tPar, tAug, tOp, tVar, tC, tCB, tCons, tNil, rI, rI0, rU, tUn, gName, tRet, tLst, tLstM, tTup, L2.start, List.map_cons, List.map_nil, List.length_cons, List.length_nil, List.replicate, List.cons_append,
  List.nil_append, List.set_cons_zero, List.set_cons_succ, List.getElem?_cons_zero, List.getElem?_cons_succ, Option.some.injEq, V.int.injEq, V.ref.injEq, V.bl.injEq, V.str.injEq, List.cons.injEq, exists_eq_left', exists_eq_left, exists_and_left, exists_and_right, and_true, true_and, reduceCtorEq, false_and,
  exists_false, or_false, false_or, exists_const, exists_eq, exists_eq', Bool.not_true, Bool.not_false, Bool.false_eq_true, if_true, if_false, ite_true, ite_false])
/-- the two numbers of a pair -/
def kV (H : Hp) : V → Int × Int
  | .ref t => match H t with
    | some (.tup [.int a, .int b]) => (a, b)
    | _ => (0, 0)
  | _ => (0, 0)
theorem PrAt.kV {H : Hp} {v : V} {q : Int × Int} (h : PrAt H v q) : kV H v = q := by
  obtain ⟨t, rfl, e⟩ := h
  unfold Pf.kV
  simp only [e]
theorem PrAll.kV {H : Hp} : ∀ {xs : List V} {ps : List (Int × Int)}, PrAll H xs ps → xs.map (kV H) = ps
  | _, _, .nil => rfl
  | _, _, .cons h t => by rw [List.map_cons, PrAt.kV h, PrAll.kV t]
theorem PrAll.mem {H : Hp} : ∀ {xs : List V} {ps : List (Int × Int)}, PrAll H xs ps → ∀ x ∈ xs, PrAt H x (Pf.kV H x)
  | _, _, .nil => fun _ z => (List.not_mem_nil z).elim
  | _, _, .cons h t => fun x z => by
    rcases List.mem_cons.mp z with e | z
    · rw [e, PrAt.kV h]
      exact h
    · exact PrAll.mem t x z
theorem PrAll.of {H : Hp} : ∀ {xs : List V}, (∀ x ∈ xs, PrAt H x (Pf.kV H x)) → PrAll H xs (xs.map (Pf.kV H))
  | [], _ => .nil
  | x :: xs, h => .cons (h x List.mem_cons_self) (PrAll.of fun y z => h y (List.mem_cons_of_mem _ z))
theorem PrAll.app {H : Hp} : ∀ {xs : List V} {ps : List (Int × Int)} {ys : List V} {qs : List (Int × Int)}, PrAll H xs ps → PrAll H ys qs → PrAll H (xs ++ ys) (ps ++ qs)
  | _, _, _, _, .nil, k => k
  | _, _, _, _, .cons h t, k => .cons h (PrAll.app t k)
theorem asc_of {rs : List (Int × Int)} (h : rs.Pairwise fun p q => p.1 ≤ q.1) (o : ∀ q ∈ rs, q.1 ≤ q.2) : ∃ j, Rng.Asc j rs := by
  have go : ∀ (l : List (Int × Int)) (j : Int), (l.Pairwise fun p q => p.1 ≤ q.1) → (∀ q ∈ l, j ≤ q.1) → (∀ q ∈ l, q.1 ≤ q.2) → Rng.Asc j l := by
    intro l
    induction l with
    | nil => exact fun _ _ _ _ => trivial
    | cons q r ih =>
      intro j hp hj ho
      obtain ⟨h1, h2⟩ := List.pairwise_cons.mp hp
      exact ⟨hj q List.mem_cons_self, ho q List.mem_cons_self, ih q.1 h2 h1 fun z m => ho z (List.mem_cons_of_mem _ m)⟩
  cases rs with
  | nil => exact ⟨0, trivial⟩
  | cons q r =>
    obtain ⟨h1, h2⟩ := List.pairwise_cons.mp h
    exact ⟨q.1, Int.le_refl _, o q List.mem_cons_self, go r q.1 h2 h1 fun z m => o z (List.mem_cons_of_mem _ m)⟩
theorem in_perm {rs ps : List (Int × Int)} (h : rs.Perm ps) (n : Int) : Rng.In n rs ↔ Rng.In n ps :=
  ⟨fun ⟨q, m, z⟩ => ⟨q, h.mem_iff.mp m, z⟩, fun ⟨q, m, z⟩ => ⟨q, h.mem_iff.mpr m, z⟩⟩
/-- pairs sorted: what comes of them -/
theorem sorted_prs {H : Hp} {xs ys : List V} {ps : List (Int × Int)} (h : PrAll H xs ps) (s : SrtO.Srtd (ltP (kV H)) ys) (b : SrtO.Stb (ltP (kV H)) ys xs) (o : ∀ q ∈ ps, q.1 ≤ q.2) :
    ∃ rs, PrAll H ys rs ∧ rs.Perm ps ∧ (rs.Pairwise fun p q => p.1 ≤ q.1) ∧ ∃ j, Rng.Asc j rs := by
  have pm : (ys.map (kV H)).Perm ps := by
    have := b.perm.map (kV H)
    rw [h.kV] at this
    exact this
  have pw : (ys.map (kV H)).Pairwise fun p q => p.1 ≤ q.1 := by
    rw [List.pairwise_map]
    refine List.Pairwise.imp (fun {x y} z => ?_) s
    have z' : SrtO.lexB (kV H y) (kV H x) = false := z
    have := SrtO.lexB_no.mp z'
    omega
  exact ⟨_, PrAll.of fun y m => h.mem y (b.perm.mem_iff.mp m), pm, pw, asc_of pw fun q m => o q (pm.mem_iff.mp m)⟩
theorem pour_len : ∀ (r : List (Int × Int)) (l h : Int), (Rng.pour l h r).length ≤ r.length + 1
  | [], _, _ => by
    unfold Rng.pour
    exact Nat.le_refl _
  | q :: r, l, h => by
    unfold Rng.pour
    split
    · have := pour_len r q.1 q.2
      simp only [List.length_cons]
      omega
    · have := pour_len r l (max h q.2)
      simp only [List.length_cons]
      omega
theorem united_len (ps : List (Int × Int)) : (Rng.united ps).length ≤ ps.length := by
  cases ps with
  | nil => exact Nat.le_refl _
  | cons q r => exact pour_len r q.1 q.2
section
variable {base : Heap} {P : Program} {w : World} {mg : Str → Option Value} {K : PySem.W.Frag}
def sp_either : Sp := fun vs H Q _ => ∃ (a b : Addr) (ps qs : List (Int × Int)), vs = [.ref a, .ref b] ∧ SetAt H a ps ∧ SetAt H b qs ∧ ps.length ≤ 40000 ∧ qs.length ≤ 40000 ∧ (∀ q ∈ ps, q.1 ≤ q.2) ∧ (∀ q ∈ qs, q.1 ≤ q.2) ∧
  ∀ (H' : Hp) (t : Addr) (rs : List (Int × Int)), Same H H' → SetAt H' t rs → Rng.Rg rs → (∀ n, Rng.In n rs ↔ Rng.In n ps ∨ Rng.In n qs) → rs.length ≤ ps.length + qs.length → Q (.ref t) H'
theorem ok_either {f : Addr} {fd : FuncData} (F : Fun K "either" "either" s_either f fd) (T : Txt mg) (C_united : Cal P w K mg base 1 "united" sp_united) : FnG P w K mg base 2 f fd ["one", "other"] sp_either := by
  refine okG F sc_either (fun vs H Q E h => ?_) (fun cdv A outer s H vs Q E hg hr h => ?_)
  · obtain ⟨a, b, ps, qs, rfl, _⟩ := h
    rfl
  · obtain ⟨a, b, ps, qs, rfl, ⟨xs, ea, pa⟩, ⟨ys, eb, pb⟩, la, lb, oa, ob, q⟩ := h
    replace hr := And.intro hg hr
    refine ⟨_, (pss_one (ps_ret (pe_c C_united hr (by decide) (by rfl) (pa_cons (pe_callB cr_sortTP (by rfl) T.b_sorted (by decide +kernel) (pa_cons (pe_op op_catA (pv 0) (pv 1)) pa_nil)) pa_nil)))), ?_⟩
    have xl := pa.len
    have yl := pb.len
    have big : (100000 : Nat) ≤ sizeLine := by decide
    -- behind the sum
    have fin : ∀ (H1 : Hp) (u : Addr) (zs : List V), Same H H1 → H1 u = some (.tup zs) → PrAll H1 zs (ps ++ qs) → rSortTP K [.ref u] H1 (fun v H2 => sp_united [v] H2 Q noErr) := by
      intro H1 u zs s1 eu pz
      refine ⟨u, zs, kV H1, rfl, SqT.of eu, fun x m => ?_, fun os l so sb nl => ?_⟩
      · obtain ⟨t, e1, e2⟩ := pz.mem x m
        exact ⟨t, e1, e2⟩
      · obtain ⟨rs, pr, pm, _, j, asc⟩ := sorted_prs pz so sb fun z m => (List.mem_append.mp m).elim (oa z) (ob z)
        have s2 := new_same (o := HO.lst os) nl
        obtain ⟨g1, g2⟩ := Rng.united_spec asc
        have rl : rs.length = ps.length + qs.length := by rw [pm.length_eq, List.length_append]
        refine ⟨l, os, rs, rfl, upd_same, PrAll.tk pr (TK.of s2), by omega, fun H3 t s3 st => q H3 t _ (s1.trans (s2.trans s3)) st g1 (fun n => ?_) (by have := united_len rs; omega)⟩
        rw [g2, in_perm pm, Rng.In.app]
    walk_at "rd"
    refine ⟨a, b, xs, ys, rfl, rfl, SqT.of ea, SqT.of eb, by omega, fun e => ?_, fun e1 e2 => ?_, fun e1 e2 p np => ?_⟩
    · subst e
      cases pa
      exact fin H b ys (Same.refl H) eb pb
    · subst e2
      cases pb
      exact fin H a xs (Same.refl H) ea (by rw [List.append_nil]; exact pa)
    · have s1 := new_same (o := HO.tup (xs ++ ys)) np
      exact fin _ p _ s1 upd_same (PrAll.tk (pa.app pb) (TK.of s1))
end
end Pf

set_option Elab.async false
set_option linter.all false
set_option maxRecDepth 100000
/-! Rows of bits of range sets; smeared. -/
namespace Pf
open PySem PySem.Spec PyProof.Rows L2
local macro_rules | `(tactic| walk_at "rd") => `(tactic| simp only [tC1, tCK, tB, rNe, rEq, tChain, gTupV, gCons, gNil, Nat.sub_self, Nat.reduceSub, List.replicate_zero, List.replicate_succ, tTest, tIfS, tIf, tNot, tAnd, tOr, tAndV, tOrV, tNotV, tDrop, tNext, rIxV, rIxP,
  gSub, rSetL, tSl, tPart, tNoPart, rSl1, tAsg2, ipI, tDNewK, tBM, rAppend, wipe, rAllB, rAnyB, iTup, iList, RZ.iZipA, iRng1, iRng2, tYes, upd_same, at0, at1, at2, at20, at21, ixN30, ixN32, HO.lst.injEq, HO.tup.injEq, Nat.reduceAdd, tSeq, tAsg, tPar, tAug, tOp, tVar, tC, tCB, tCons, tNil, rI, rI0, rU, tUn, gName, tRet, tLst, tLstM, tTup, L2.start, List.map_cons, List.map_nil, List.length_cons, List.length_nil, List.replicate, List.cons_append,
  List.nil_append, List.set_cons_zero, List.set_cons_succ, List.getElem?_cons_zero, List.getElem?_cons_succ, Option.some.injEq, V.int.injEq, V.ref.injEq, V.bl.injEq, V.str.injEq, List.cons.injEq, exists_eq_left', exists_eq_left, exists_and_left, exists_and_right, and_true, true_and, reduceCtorEq, false_and,
  exists_false, or_false, false_or, exists_const, exists_eq, exists_eq', Bool.not_true, Bool.not_false, Bool.false_eq_true, if_true, if_false, ite_true, ite_false])
abbrev s_added_by_bits : Stmt := topS 1
theorem sc_added_by_bits : FnScope ["one", "other", "many", "few", "bits", "total", "low", "high"] ["one", "other"] (defScope s_added_by_bits) := ⟨rfl, rfl, rfl, by decide +kernel, rfl, by decide +kernel, by decide +kernel⟩
abbrev s_bits_of : Stmt := topS 2
theorem sc_bits_of : FnScope ["ranges", "words", "start", "low", "high", "upwards"] ["ranges"] (defScope s_bits_of) := ⟨rfl, rfl, rfl, by decide +kernel, rfl, by decide +kernel, by decide +kernel⟩
abbrev s_smeared : Stmt := topS 3
theorem sc_smeared : FnScope ["bits", "width", "done", "step"] ["bits", "width"] (defScope s_smeared) := ⟨rfl, rfl, rfl, by decide +kernel, rfl, by decide +kernel, by decide +kernel⟩
abbrev s_ranges_of : Stmt := topS 4
theorem sc_ranges_of : FnScope ["bits", "least", "word", "upwards", "found", "start", "end"] ["bits", "least"] (defScope s_ranges_of) := ⟨rfl, rfl, rfl, by decide +kernel, rfl, by decide +kernel, by decide +kernel⟩
abbrev s_added : Stmt := topS 13
theorem sc_added : FnScope ["one", "other", "lowest", "highest", "low", "high", "from_low", "to_high"] ["one", "other"] (defScope s_added) := ⟨rfl, rfl, rfl, by decide +kernel, rfl, by decide +kernel, by decide +kernel⟩
abbrev s_sums : Stmt := topS 14
theorem sc_sums : FnScope ["ranges", "many", "total", "_"] ["ranges", "many"] (defScope s_sums) := ⟨rfl, rfl, rfl, by decide +kernel, rfl, by decide +kernel, by decide +kernel⟩
theorem from_le : ∀ {k : Int} {ps : List (Int × Int)}, Rng.From k ps → ∀ q ∈ ps, k ≤ q.1 ∧ q.1 ≤ q.2
  | _, [], _ => fun _ z => (List.not_mem_nil z).elim
  | _, q :: r, ⟨h1, h2, h3⟩ => fun z m => by
    rcases List.mem_cons.mp m with e | m
    · rw [e]
      exact ⟨h1, h2⟩
    · have := from_le h3 z m
      exact ⟨by omega, this.2⟩
def leftS : L2.St → Nat
  | [_, some (.int x), some (.int y), _] => (x - y).toNat
  | _ => 0
section
variable {base : Heap} {P : Program} {w : World} {mg : Str → Option Value} {K : PySem.W.Frag}
def sp_bits : Sp := fun vs H Q _ => ∃ (a : Addr) (L : List (Int × Int)) (z hi : Int), vs = [.ref a] ∧ SetAt H a L ∧ (L[0]?.map Prod.fst) = some z ∧ Rng.From z L ∧ (∀ q ∈ L, q.2 ≤ hi) ∧ hi - z ≤ 50000 ∧ L.length ≤ 50001 ∧
  ∀ H', Same H H' → Q (.int ((valB (row z L) : Nat) : Int)) H'
theorem ok_bits {f : Addr} {fd : FuncData} (F : Fun K "bits_of" "bits_of" s_bits_of f fd) (T : Txt mg) (ND : base.NoDigits) : FnG P w K mg base 1 f fd ["ranges"] sp_bits := by
  refine okG F sc_bits_of (fun vs H Q E h => ?_) (fun cdv A outer s H vs Q E hg hr h => ?_)
  · obtain ⟨a, L, z, hi, rfl, _⟩ := h
    rfl
  · obtain ⟨a, L, z, hi, rfl, ⟨xs, ea, pa⟩, hz, fr, top, small, Ll, q⟩ := h
    refine ⟨_, (pss_cons (ps_set (i := 1) sc_bits_of.nd rfl (Or.inl rfl) (pe_lst pa_nil))
        (pss_cons (ps_set (i := 2) sc_bits_of.nd rfl (Or.inl rfl) (pe_ix ix_t (pe_ix ix_t (pv 0) pe_int (fun _ _ => rfl)) pe_int (fun _ _ => rfl)))
        (pss_cons (ps_for PassesOwn.never rfl (pi_tup (pv 0)) (pg_tupV (n := 2) rfl (pgs_cons (pg_name (i := 3) sc_bits_of.nd rfl (Or.inl rfl)) (pgs_cons (pg_name (i := 4) sc_bits_of.nd rfl (Or.inl rfl)) pgs_nil))) (pss_cons (ps_expr (pe_bm PySem.F.plainAttrs_list PySem.F.slot_list_append PySem.F.type_list_append mt_append (pv 1) (pa_cons (pe_op op_add_str (pe_op op_mulB pe_str (pe_op op_sub (pv 3) (pv 2))) (pe_op op_mulB pe_str (pe_op op_add (pe_op op_sub (pv 4) (pv 3)) pe_int))) pa_nil)))
        (pss_one (ps_set (i := 2) sc_bits_of.nd rfl (Or.inl rfl) (pe_op op_add (pv 4) pe_int)))))
        (pss_cons (ps_set (i := 5) sc_bits_of.nd rfl (Or.inl rfl) (pe_join pe_str (pv 1)))
        (pss_one (ps_ret (pe_callTy (call_int2 ND) (by rfl) T.b_int (by decide +kernel) (pa_cons (pe_revS (pv 5)) (pa_cons pe_int pa_nil))))))))), ?_⟩
    walk_at "rd"
    have xl := pa.len
    have L0 : 0 < L.length := by
      cases L with
      | nil => cases hz
      | cons _ _ => exact Nat.succ_pos _
    obtain ⟨t0, i0, e0⟩ := PrAll.at pa L0
    have hz0 : L[0].1 = z := by
      rw [List.getElem?_eq_getElem L0] at hz
      exact Option.some.inj hz
    rw [hz0] at e0
    have rl := row_len L z fr top
    have e_false : ("0" : Str) = bs [false] := by decide
    have e_true : ("1" : Str) = bs [true] := by decide
    have e_nil : ("" : Str) = ⟨#[]⟩ := by decide
    rw [e_false, e_true, e_nil]
    refine ⟨Nat.zero_le _, fun p np => ?_⟩
    have s0 := new_same (o := HO.lst []) np
    refine ⟨_, s0 _ _ ea, _, i0, t0, rfl, _, s0 _ _ e0, _, at20, .ref a, rfl, a, rfl, ⟨xs, SqT.of (s0 _ _ ea)⟩, for_tup (K := K) (xs := xs) (fun i σ H' => ∃ (st : Int) (ws : List (List Bool)) (u3 u4 u5 : Option V), σ = [some (.ref a), some (.ref p), some (.int st), u3, u4, u5] ∧ Same H H' ∧ H' p = some (.lst ((ws.map bs).map V.str)) ∧ ws.flatten ++ row st (L.drop i) = row z L ∧ Rng.From st (L.drop i) ∧ ws.length ≤ i ∧ z ≤ st)
      ⟨_, [], _, _, _, rfl, s0, upd_same, rfl, fr, Nat.le_refl _, Int.le_refl _⟩ (fun i σ H' _ ⟨_, _, _, _, _, _, ss, _⟩ => SqT.of (ss _ _ ea)) ?_ ?_⟩
    · rintro i x σ H1 hx ⟨st, ws, u3, u4, u5, rfl, s1, ep, eq, fi, wl, le⟩
      have hi : i < L.length := by
        have := (List.getElem?_eq_some_iff.mp hx).1
        omega
      obtain ⟨t, it, ht⟩ := (PrAll.tk pa (TK.of s1)).at hi
      have ex : x = .ref t := by
        rw [atI_nat hx] at it
        exact Option.some.inj it
      subst ex
      have dr := List.drop_eq_getElem_cons hi
      rw [dr] at eq fi
      obtain ⟨f1, f2, f3⟩ := fi
      have tp := top L[i] (List.getElem_mem hi)
      walk_at "rd"
      simp only [ht, Option.some.injEq, HO.tup.injEq, exists_eq_left']
      walk_at "rd"
      have wlt : ((ws.map bs).map V.str).length < sizeLine := by
        rw [List.length_map, List.length_map]
        exact Nat.lt_of_le_of_lt (show ws.length ≤ 60000 by omega) (by decide)
      have len2 : (bs (List.replicate (L[i].1 - st).toNat false)).length + (bs (List.replicate (L[i].2 - L[i].1 + 1).toNat true)).length ≤ sizeLine := by
        rw [bs_len, bs_len, List.length_replicate, List.length_replicate]
        exact Nat.le_trans (show _ ≤ 200000 by omega) (by decide)
      refine ⟨_, _, ⟨rfl, rfl⟩, _, _, rfl, rfl, Or.inl ⟨rfl, _, SqL.of ep⟩, _, rfl, false, L[i].1 - st, rfl, rfl, by omega, by omega, _, rfl, _, rfl, true, L[i].2 - L[i].1 + 1, rfl, rfl, by omega, by omega, _, rfl, _, rfl, len2, _, ep, wlt, _, rfl, fun d o y => ?_,
        ws ++ [List.replicate (L[i].1 - st).toNat false ++ List.replicate (L[i].2 - L[i].1 + 1).toNat true], ?_, ?_, f3.down (by omega), ?_, by omega⟩
      · rw [upd_ne (ne_of_none y np)]
        exact s1 _ _ y
      · rw [bs_app]
        simp
      · rw [← eq, row]
        simp
      · rw [List.length_append]
        exact Nat.succ_le_succ wl
    · rintro σ H1 ⟨st, ws, u3, u4, u5, rfl, s1, ep, eq, fi, wl, le⟩
      walk_at "rd"
      have ef : ws.flatten = row z L := by
        rw [List.drop_of_length_le (by omega), row, List.append_nil] at eq
        exact eq
      have ne : row z L ≠ [] := fun y => by
        have b := row_bit L z 0 fr
        rw [y] at b
        have inn : Rng.In z L := ⟨L[0], List.getElem_mem L0, by rw [hz0]; exact Int.le_refl _, by
          rw [← hz0]
          exact (from_le fr _ (List.getElem_mem L0)).2⟩
        have := b.mpr (by simpa using inn)
        simp at this
      have ls : ((ws.map bs).map (·.length)).sum + (ws.map bs).length * (⟨#[]⟩ : Str).length ≤ 16777216 := by
        have e : ((ws.map bs).map (·.length)).sum = ws.flatten.length := by
          rw [List.map_map, List.length_flatten]
          congr 1
          exact List.map_congr_left fun x _ => bs_len x
        rw [e, ef]
        have : (⟨#[]⟩ : Str).length = 0 := rfl
        rw [this]
        omega
      refine ⟨⟨_, rfl⟩, .ref p, rfl, _, rfl, p, rfl, _, Or.inl (SqL.of ep), ls, ?_⟩
      rw [join_bs, ef]
      refine ⟨_, rfl, _, rfl, ?_, ?_⟩
      · rw [bs_len]
        exact Nat.le_trans (show _ ≤ 100000 by omega) (by decide)
      · rw [rev_bs]
        refine ⟨_, rfl, fun y => ne (List.reverse_eq_nil_iff.mp y), ?_⟩
        rw [List.reverse_reverse]
        exact q _ s1
def sp_smeared : Sp := fun vs H Q _ => ∃ (B m wd : Nat), vs = [.int (B : Int), .int (wd : Int)] ∧ Few B m ∧ m ≤ 1000000 ∧ 1 ≤ wd ∧ wd ≤ 1000000 ∧ ∀ (H' : Hp) (C : Nat), Same H H' → (∀ k, C.testBit k = true ↔ Sm B wd k) → Q (.int (C : Int)) H'
theorem ok_smeared {f : Addr} {fd : FuncData} (F : Fun K "smeared" "smeared" s_smeared f fd) (T : Txt mg) : FnG P w K mg base 1 f fd ["bits", "width"] sp_smeared := by
  refine okG F sc_smeared (fun vs H Q E h => ?_) (fun cdv A outer s H vs Q E hg hr h => ?_)
  · obtain ⟨B, m, wd, rfl, _⟩ := h
    rfl
  · obtain ⟨B, m, wd, rfl, fb, hm, w1, w2, q⟩ := h
    refine ⟨_, (pss_cons (ps_set (i := 2) sc_smeared.nd rfl (Or.inl rfl) pe_int)
        (pss_cons (ps_while PassesOwn.never (pt_cmpR op_lt (pv 2) (pv 1) (nomark _)) (pss_cons (ps_set (i := 3) sc_smeared.nd rfl (Or.inl rfl) (pe_callB (call_min2 rfl) (by rfl) T.b_min (by decide +kernel) (pa_cons (pv 2) (pa_cons (pe_op op_sub (pv 1) (pv 2)) pa_nil))))
        (pss_cons (ps_set (i := 0) sc_smeared.nd rfl (Or.inl rfl) (pe_op op_or (pv 0) (pe_op op_shlW (pv 0) (pv 3))))
        (pss_one (ps_set (i := 2) sc_smeared.nd rfl (Or.inl rfl) (pe_op op_add (pv 2) (pv 3)))))))
        (pss_one (ps_ret (pv 0))))), ?_⟩
    walk_at "rd"
    refine while_by (fun σ H' => ∃ (C d : Nat) (u : Option V), σ = [some (.int (C : Int)), some (.int (wd : Int)), some (.int (d : Int)), u] ∧ Same H H' ∧ 1 ≤ d ∧ d ≤ wd ∧ ∀ k, C.testBit k = true ↔ Sm B d k)
      (fun σ _ => leftS σ) ⟨B, 1, _, rfl, Same.refl _, Nat.le_refl _, w1, sm_one B⟩ ?_ ?_
    · rintro σ H1 ⟨C, d, u, rfl, s1, d1, d2, hc⟩
      walk_at "rd"
      by_cases c : d < wd
      · rw [if_pos (decide_eq_true (by omega))]
        refine ⟨_, _, ⟨rfl, rfl⟩, ?_⟩
        have e : (if (wd : Int) - (d : Int) < (d : Int) then (wd : Int) - (d : Int) else (d : Int)) = ((min d (wd - d) : Nat) : Int) := by
          split <;> omega
        rw [e, or_shl]
        have fc : Few C (m + d) := fb.sm hc
        have bits := fc.bits
        refine ⟨⟨by omega, by omega⟩, ⟨_, d + min d (wd - d), ⟨rfl, by omega⟩, s1, by omega, by omega, fun k => sm_step hc (Nat.min_le_left _ _) k⟩, ?_⟩
        show ((wd : Int) - ((d : Int) + ((min d (wd - d) : Nat) : Int))).toNat < ((wd : Int) - (d : Int)).toNat
        omega
      · rw [if_neg (fun y => c (by have := of_decide_eq_true y; omega))]
        have e : d = wd := by omega
        rw [e] at hc
        exact q _ C s1 hc
    · intro σ H Q Q' hq h
      obtain ⟨v, e1, u, e2, i, j, e3, e4, k, e5, r⟩ := h
      exact ⟨v, e1, u, e2, i, j, e3, e4, k, e5, hq _ _ r⟩
end
end Pf

set_option Elab.async false
set_option linter.all false
set_option maxRecDepth 100000
/-! Range sets of rows of bits; sums by bits. -/
namespace Pf
open PySem PySem.Spec PyProof.Rows L2
local macro_rules | `(tactic| walk_at "rd") => `(tactic| simp only [tC1, tCK, tB, rNe, rEq, tChain, gTupV, gCons, gNil, Nat.sub_self, Nat.reduceSub, List.replicate_zero, List.replicate_succ, tTest, tIfS, tIf, tNot, tAnd, tOr, tAndV, tOrV, tNotV, tDrop, tNext, rIxV, rIxP,
  gSub, rSetL, tSl, tPart, tNoPart, rSl1, tAsg2, ipI, tDNewK, tBM, rAppend, wipe, rAllB, rAnyB, iTup, iList, RZ.iZipA, iRng1, iRng2, tYes, upd_same, at0, at1, at2, at20, at21, ixN30, ixN32, HO.lst.injEq, HO.tup.injEq, Nat.reduceAdd, tSeq, tAsg, tPar, tAug, tOp, tVar, tC, tCB, tCons, tNil, rI, rI0, rU, tUn, gName, tRet, tLst, tLstM, tTup, L2.start, List.map_cons, List.map_nil, List.length_cons, List.length_nil, List.replicate, List.cons_append,
  List.nil_append, List.set_cons_zero, List.set_cons_succ, List.getElem?_cons_zero, List.getElem?_cons_succ, Option.some.injEq, V.int.injEq, V.ref.injEq, V.bl.injEq, V.str.injEq, List.cons.injEq, exists_eq_left', exists_eq_left, exists_and_left, exists_and_right, and_true, true_and, reduceCtorEq, false_and,
  exists_false, or_false, false_or, exists_const, exists_eq, exists_eq', Bool.not_true, Bool.not_false, Bool.false_eq_true, if_true, if_false, ite_true, ite_false])
section
variable {base : Heap} {P : Program} {w : World} {mg : Str → Option Value} {K : PySem.W.Frag}
theorem pos0 {L : List (Int × Int)} {z : Int} (h : (L[0]?.map Prod.fst) = some z) : 0 < L.length := by
  cases L with
  | nil => cases h
  | cons _ _ => exact Nat.succ_pos _
theorem at0_of {L : List (Int × Int)} {z : Int} (h : (L[0]?.map Prod.fst) = some z) (p : 0 < L.length) : L[0].1 = z := by
  rw [List.getElem?_eq_getElem p] at h
  exact Option.some.inj h
theorem or_shl2 {C D s : Nat} : Builtin.bitOr (C : Int) ((D : Int) * 2 ^ (s : Int).toNat) = ((C ||| D <<< s : Nat) : Int) := by
  have e : (D : Int) * 2 ^ (s : Int).toNat = ((D <<< s : Nat) : Int) := by
    rw [Nat.shiftLeft_eq]
    push_cast
    rfl
  rw [e, bitOr_nn (Int.natCast_nonneg _) (Int.natCast_nonneg _)]
  rfl
def sp_rof : Sp := fun vs H Q _ => ∃ (B m : Nat) (z : Int), vs = [.int (B : Int), .int z] ∧ Few B m ∧ m ≤ 900000 ∧ B.testBit 0 = true ∧
  ∀ (H' : Hp) (t : Addr) (rs : List (Int × Int)), Same H H' → SetAt H' t rs → Rng.From z rs → (∀ n, Rng.In n rs ↔ ∃ k : Nat, B.testBit k = true ∧ n = z + k) → Q (.ref t) H'
def leftR (m : Nat) : L2.St → Nat
  | [_, _, _, _, _, some (.int x), _] => if x < 0 then 0 else (m - x).toNat + 1
  | _ => 0
theorem ok_rof {f : Addr} {fd : FuncData} (F : Fun K "ranges_of" "ranges_of" s_ranges_of f fd) (T : Txt mg) : FnG P w K mg base 1 f fd ["bits", "least"] sp_rof := by
  refine okG F sc_ranges_of (fun vs H Q E h => ?_) (fun cdv A outer s H vs Q E hg hr h => ?_)
  · obtain ⟨B, m, z, rfl, _⟩ := h
    rfl
  · obtain ⟨B, m, z, rfl, fb, hm, odd, q⟩ := h
    refine ⟨_, (pss_cons (ps_set (i := 2) sc_ranges_of.nd rfl (Or.inl rfl) (pe_joined1 (pe_fmtB (pv 0) (pe_joined1 pe_str))))
        (pss_cons (ps_set (i := 3) sc_ranges_of.nd rfl (Or.inl rfl) (pe_op op_add_str (pe_revS (pv 2)) pe_str))
        (pss_cons (ps_set (i := 4) sc_ranges_of.nd rfl (Or.inl rfl) (pe_lst pa_nil))
        (pss_cons (ps_set (i := 5) sc_ranges_of.nd rfl (Or.inl rfl) pe_int)
        (pss_cons (ps_while PassesOwn.never (pt_cmpR op_ge (pv 5) pe_int (nomark _)) (pss_cons (ps_set (i := 6) sc_ranges_of.nd rfl (Or.inl rfl) (pe_bm PySem.F.plainAttrs_str PySem.F.slot_str_find PySem.F.type_str_find mt_find3 (pv 3) (pa_cons pe_str (pa_cons (pv 5) pa_nil))))
        (pss_cons (ps_expr (pe_bm PySem.F.plainAttrs_list PySem.F.slot_list_append PySem.F.type_list_append mt_append (pv 4) (pa_cons (pe_tup (pa_cons (pe_op op_add (pv 1) (pv 5)) (pa_cons (pe_op op_sub (pe_op op_add (pv 1) (pv 6)) pe_int) pa_nil))) pa_nil)))
        (pss_one (ps_set (i := 5) sc_ranges_of.nd rfl (Or.inl rfl) (pe_bm PySem.F.plainAttrs_str PySem.F.slot_str_find PySem.F.type_str_find mt_find3 (pv 3) (pa_cons pe_str (pa_cons (pv 6) pa_nil))))))))
        (pss_one (ps_ret (pe_callTy call_tupleL (by rfl) T.b_tuple (by decide +kernel) (pa_cons (pv 4) pa_nil))))))))), ?_⟩
    walk_at "rd"
    have e_false : ("0" : Str) = bs [false] := by decide
    have e_true : ("1" : Str) = bs [true] := by decide
    rw [e_false, e_true]
    have m1 : 1 ≤ m := fb 0 odd
    have wl := lowB_len m B m1 fb.lt
    refine ⟨_, rfl, B, rfl, by omega, _, rfl, _, rfl, ?_, ?_⟩
    · rw [bs_len, List.length_reverse]
      exact Nat.le_trans (show _ ≤ 900000 by omega) (by decide)
    rw [rev_bs, List.reverse_reverse]
    refine ⟨_, rfl, ?_, Nat.zero_le _, fun p np => ?_⟩
    · rw [bs_len, bs_len]
      exact Nat.le_trans (show (lowB B).length + 1 ≤ 900001 by omega) (by decide)
    rw [bs_app]
    have bitW : ∀ k : Nat, (lowB B ++ [false])[k]? = some true ↔ B.testBit k = true := fun k => by
      rw [← lowB_bit, List.getD_eq_getElem?_getD]
      by_cases c : k < (lowB B).length
      · rw [List.getElem?_append_left c, List.getElem?_eq_getElem c]
        simp
      · rw [List.getElem?_append_right (by omega), List.getElem?_eq_none (show (lowB B).length ≤ k by omega)]
        by_cases d : k - (lowB B).length = 0
        · rw [d]
          simp
        · rw [List.getElem?_eq_none (by simp only [List.length_cons, List.length_nil]; omega)]
          simp
    have lastW : (lowB B ++ [false])[(lowB B).length]? = some false := by simp
    have lenW : (lowB B ++ [false]).length = (lowB B).length + 1 := by simp
    generalize eW : lowB B ++ [false] = W at *
    generalize (lowB B).length = l0 at *
    have s0 := new_same (o := HO.lst []) np
    refine while_by (fun σ H' => ∃ (st : Int) (acc : List (Int × Int)) (xf : List V) (u : Option V), σ = [some (.int (B : Int)), some (.int z), some (.str (bs (lowB B).reverse)), some (.str (bs W)), some (.ref p), some (.int st), u] ∧ Same H H' ∧ H' p = some (.lst xf) ∧ PrAll H' xf acc ∧ Rng.From z acc ∧
        ((0 ≤ st ∧ acc.length ≤ st.toNat ∧ W[st.toNat]? = some true ∧ (∀ q ∈ acc, q.2 + 2 ≤ z + st) ∧ ∀ n, Rng.In n acc ↔ ∃ j : Nat, j < st.toNat ∧ W[j]? = some true ∧ n = z + j) ∨ (st = -1 ∧ acc.length ≤ W.length ∧ ∀ n, Rng.In n acc ↔ ∃ j : Nat, W[j]? = some true ∧ n = z + j)))
      (fun σ _ => leftR W.length σ) ⟨0, [], [], _, rfl, s0, upd_same, .nil, trivial, Or.inl ⟨Int.le_refl _, Nat.le_refl _, (bitW 0).mpr odd, fun _ y => (List.not_mem_nil y).elim, fun n => ⟨fun y => (Rng.In.nil y).elim, fun ⟨j, hj, _⟩ => absurd hj (Nat.not_lt_zero _)⟩⟩⟩ ?_ ?_
    · rintro σ H1 ⟨st, acc, xf, u, rfl, s1, ep, pf, fr, inv⟩
      walk_at "rd"
      rcases inv with ⟨st0, al, wst, gap, inn⟩ | ⟨rfl, al, inn⟩
      · rw [if_pos (decide_eq_true st0)]
        obtain ⟨s, rfl⟩ : ∃ s : Nat, st = s := ⟨st.toNat, by omega⟩
        simp only [Int.toNat_natCast] at al wst inn
        have sl : s < W.length := (List.getElem?_eq_some_iff.mp wst).1
        rcases find_bit W false s with ⟨e, he, hse, hWe, hall⟩ | ⟨_, hall⟩
        · have hne : s ≠ e := fun y => by
            rw [y, hWe] at wst
            cases wst
          have el : e < W.length := (List.getElem?_eq_some_iff.mp hWe).1
          have xl := pf.len
          refine ⟨rfl, _, _, ⟨rfl, rfl⟩, Or.inl ⟨rfl, _, SqL.of ep⟩, by decide, fun N nN => ⟨xf, new_same nN _ _ ep, Nat.lt_of_le_of_lt (show xf.length ≤ 900001 by omega) (by decide), rfl, _, _, ⟨rfl, rfl⟩, ?_⟩⟩
          rw [he]
          have sN := new_same (o := HO.tup [V.int (z + (s : Int)), V.int (z + (e : Int) - 1)]) nN
          have eN := sN _ _ ep
          have npN : p ≠ N := ne_of_none ep nN
          have sm : Same H (upd (upd H1 N (HO.tup [V.int (z + (s : Int)), V.int (z + (e : Int) - 1)])) p (HO.lst (xf ++ [V.ref N]))) := fun d o y => by
            rw [upd_ne (ne_of_none y np)]
            exact sN _ _ (s1 _ _ y)
          have pN := ((pf.tk (TK.of sN)).tk (TK.put eN (o := HO.lst (xf ++ [V.ref N])))).snoc (q := (z + (s : Int), z + (e : Int) - 1)) ⟨N, rfl, by rw [upd_ne npN.symm, upd_same]⟩
          have fN : Rng.From z (acc ++ [(z + (s : Int), z + (e : Int) - 1)]) := Rng.From.snoc fr gap (by omega) (by omega)
          have iN : ∀ n, Rng.In n (acc ++ [(z + (s : Int), z + (e : Int) - 1)]) ↔ ∃ j : Nat, j < e ∧ W[j]? = some true ∧ n = z + j := fun n => by
            rw [Rng.In.app, inn]
            constructor
            · rintro (⟨j, h1, h2, h3⟩ | y)
              · exact ⟨j, by omega, h2, h3⟩
              · rcases Rng.In.cons.mp y with y | y
                · have y1 : z + (s : Int) ≤ n := y.1
                  have y2 : n ≤ z + (e : Int) - 1 := y.2
                  exact ⟨(n - z).toNat, by omega, hall _ (by omega) (by omega), by omega⟩
                · exact (Rng.In.nil y).elim
            · rintro ⟨j, h1, h2, h3⟩
              by_cases c : j < s
              · exact Or.inl ⟨j, c, h2, h3⟩
              · right
                exact Rng.In.cons.mpr (Or.inl ⟨by show z + (s : Int) ≤ n; omega, by show n ≤ z + (e : Int) - 1; omega⟩)
          have lN : (acc ++ [(z + (s : Int), z + (e : Int) - 1)]).length ≤ s + 1 := by
            rw [List.length_append]
            exact Nat.succ_le_succ al
          rcases find_bit W true e with ⟨g, hg, heg, hWg, hall2⟩ | ⟨hg, hall2⟩
          · have gl : g < W.length := (List.getElem?_eq_some_iff.mp hWg).1
            have neg : e ≠ g := fun y => by
              rw [y, hWg] at hWe
              cases hWe
            rw [hg]
            refine ⟨⟨sm, _, pN, fN, Or.inl ⟨Int.natCast_nonneg _, by rw [Int.toNat_natCast]; omega, by rw [Int.toNat_natCast]; exact hWg, fun y m => ?_, fun n => ?_⟩⟩, ?_⟩
            · rcases List.mem_append.mp m with m | m
              · have := gap y m
                omega
              · rw [List.mem_singleton.mp m]
                show z + (e : Int) - 1 + 2 ≤ z + (g : Int)
                omega
            · rw [iN, Int.toNat_natCast]
              constructor
              · rintro ⟨j, h1, h2, h3⟩
                exact ⟨j, by omega, h2, h3⟩
              · rintro ⟨j, h1, h2, h3⟩
                refine ⟨j, ?_, h2, h3⟩
                apply Classical.byContradiction
                intro c
                have := hall2 j (by omega) h1
                rw [h2] at this
                cases this
            · show (if ((g : Int) < 0) then 0 else ((W.length : Int) - (g : Int)).toNat + 1) < if ((s : Int) < 0) then 0 else ((W.length : Int) - (s : Int)).toNat + 1
              rw [if_neg (by omega), if_neg (by omega)]
              omega
          · rw [hg]
            refine ⟨⟨sm, _, pN, fN, Or.inr ⟨rfl, by omega, fun n => ?_⟩⟩, ?_⟩
            · rw [iN]
              constructor
              · rintro ⟨j, h1, h2, h3⟩
                exact ⟨j, h2, h3⟩
              · rintro ⟨j, h2, h3⟩
                refine ⟨j, ?_, h2, h3⟩
                apply Classical.byContradiction
                intro c
                have := hall2 j (by omega) (List.getElem?_eq_some_iff.mp h2).1
                rw [h2] at this
                cases this
            · show (if ((-1 : Int) < 0) then 0 else ((W.length : Int) - (-1 : Int)).toNat + 1) < if ((s : Int) < 0) then 0 else ((W.length : Int) - (s : Int)).toNat + 1
              rw [if_pos (by omega), if_neg (by omega)]
              omega
        · have := hall l0 (by omega) (by omega)
          rw [lastW] at this
          cases this
      · rw [if_neg (by decide)]
        refine ⟨xf, ep, fun t nt => q _ t acc (s1.trans (new_same nt)) ⟨xf, upd_same, pf.tk (TK.of (new_same nt))⟩ fr fun n => ?_⟩
        rw [inn]
        constructor
        · rintro ⟨j, h2, h3⟩
          exact ⟨j, (bitW j).mp h2, h3⟩
        · rintro ⟨j, h2, h3⟩
          exact ⟨j, (bitW j).mpr h2, h3⟩
    · intro σ H Q Q' hq h
      obtain ⟨v, e1, i, j, e3, e4, k, e5, r⟩ := h
      exact ⟨v, e1, i, j, e3, e4, k, e5, hq _ _ r⟩
def sp_abb : Sp := fun vs H Q _ => ∃ (a b : Addr) (ps qs : List (Int × Int)) (z y hi hj : Int), vs = [.ref a, .ref b] ∧ SetAt H a ps ∧ SetAt H b qs ∧ (ps[0]?.map Prod.fst) = some z ∧ (qs[0]?.map Prod.fst) = some y ∧ Rng.From z ps ∧ Rng.From y qs ∧
  (∀ q ∈ ps, q.2 ≤ hi) ∧ (∀ q ∈ qs, q.2 ≤ hj) ∧ hi - z ≤ 50000 ∧ hj - y ≤ 50000 ∧ ps.length ≤ 50001 ∧ qs.length ≤ 50001 ∧
  ∀ (H' : Hp) (t : Addr) (rs : List (Int × Int)), Same H H' → SetAt H' t rs → Rng.From (z + y) rs → (∀ n, Rng.In n rs ↔ ∃ i j, Rng.In i ps ∧ Rng.In j qs ∧ n = i + j) → Q (.ref t) H'
theorem ok_abb {f : Addr} {fd : FuncData} (F : Fun K "added_by_bits" "added_by_bits" s_added_by_bits f fd) (T : Txt mg) (C_bits_of : Cal P w K mg base 1 "bits_of" sp_bits) (C_smeared : Cal P w K mg base 1 "smeared" sp_smeared) (C_ranges_of : Cal P w K mg base 1 "ranges_of" sp_rof) :
    FnG P w K mg base 2 f fd ["one", "other"] sp_abb := by
  refine okG F sc_added_by_bits (fun vs H Q E h => ?_) (fun cdv A outer s H vs Q E hg hr h => ?_)
  · obtain ⟨a, b, ps, qs, z, y, hi, hj, rfl, _⟩ := h
    rfl
  · obtain ⟨a, b, ps, qs, z, y, hi, hj, rfl, S1, S2, h1, h2, f1, f2, t1, t2, l1, l2, c1, c2, q⟩ := h
    replace hr := And.intro hg hr
    refine ⟨_, (pss_cons (ps_asg (pe_ifExp (pt_cmpR op_gt (pe_callB call_lenT (by rfl) T.b_len (by decide +kernel) (pa_cons (pv 0) pa_nil)) (pe_callB call_lenT (by rfl) T.b_len (by decide +kernel) (pa_cons (pv 1) pa_nil)) (nomark _)) (pe_tup (pa_cons (pv 0) (pa_cons (pv 1) pa_nil))) (pe_tup (pa_cons (pv 1) (pa_cons (pv 0) pa_nil)))) (pg_tupV (n := 2) rfl (pgs_cons (pg_name (i := 2) sc_added_by_bits.nd rfl (Or.inl rfl)) (pgs_cons (pg_name (i := 3) sc_added_by_bits.nd rfl (Or.inl rfl)) pgs_nil))))
        (pss_cons (ps_set (i := 4) sc_added_by_bits.nd rfl (Or.inl rfl) (pe_c C_bits_of hr (by decide) (by rfl) (pa_cons (pv 2) pa_nil)))
        (pss_cons (ps_set (i := 5) sc_added_by_bits.nd rfl (Or.inl rfl) pe_int)
        (pss_cons (ps_for PassesOwn.never rfl (pi_tup (pv 3)) (pg_tupV (n := 2) rfl (pgs_cons (pg_name (i := 6) sc_added_by_bits.nd rfl (Or.inl rfl)) (pgs_cons (pg_name (i := 7) sc_added_by_bits.nd rfl (Or.inl rfl)) pgs_nil))) (pss_one (ps_set (i := 5) sc_added_by_bits.nd rfl (Or.inl rfl) (pe_op op_or (pv 5) (pe_op op_shlW (pe_c C_smeared hr (by decide) (by rfl) (pa_cons (pv 4) (pa_cons (pe_op op_add (pe_op op_sub (pv 7) (pv 6)) pe_int) pa_nil))) (pe_op op_sub (pv 6) (pe_ix ix_t (pe_ix ix_t (pv 3) pe_int (fun _ _ => rfl)) pe_int (fun _ _ => rfl))))))))
        (pss_one (ps_ret (pe_c C_ranges_of hr (by decide) (by rfl) (pa_cons (pv 5) (pa_cons (pe_op op_add (pe_ix ix_t (pe_ix ix_t (pv 0) pe_int (fun _ _ => rfl)) pe_int (fun _ _ => rfl)) (pe_ix ix_t (pe_ix ix_t (pv 1) pe_int (fun _ _ => rfl)) pe_int (fun _ _ => rfl))) pa_nil))))))))), ?_⟩
    walk_at "rd"
    obtain ⟨xa, ea, pa⟩ := id S1
    obtain ⟨xb, eb, pb⟩ := id S2
    have la := pa.len
    have lb := pb.len
    obtain ⟨ta0, ia0, ea0⟩ := PrAll.at pa (pos0 h1)
    obtain ⟨tb0, ib0, eb0⟩ := PrAll.at pb (pos0 h2)
    rw [at0_of h1] at ea0
    rw [at0_of h2] at eb0
    refine ⟨_, ea, _, eb, ?_⟩
    by_cases c : (xb.length : Int) < xa.length
    · rw [if_pos (decide_eq_true c)]
      refine ⟨by decide, fun M nM => ⟨_, _, ⟨rfl, rfl⟩, _, _, rfl, rfl, ?_⟩⟩
      have sM := new_same (o := HO.tup [V.ref a, V.ref b]) nM
      obtain ⟨xf, eF, pF⟩ := S2
      have xl := pF.len
      have hB : ∀ k : Nat, (valB (row z ps)).testBit k = true ↔ Rng.In (z + k) ps := fun k => by rw [valB_bit, row_bit ps z k f1]
      have fewB : Few (valB (row z ps)) 50001 := fun k hk => by
        obtain ⟨q', m', i1, i2⟩ := (hB k).mp hk
        have := t1 q' m'
        omega
      have P0 : 0 < qs.length := pos0 h2
      have hzf0 := at0_of h2 P0
      obtain ⟨tf0, if0, ef0⟩ := PrAll.at pF P0
      rw [hzf0] at ef0
      have lowF : ∀ q ∈ qs, y ≤ q.1 ∧ q.1 ≤ q.2 := from_le f2
      refine ⟨a, ps, z, hi, rfl, S1.same sM, h1, f1, t1, l1, c1, fun H4 s4 => ⟨.ref b, rfl, b, rfl, ⟨xf, SqT.of ((sM.trans s4) _ _ eF)⟩, for_tup (K := K) (xs := xf) (fun i σ H' => ∃ (C : Nat) (u6 u7 : Option V), σ = [some (.ref a), some (.ref b), some (.ref a), some (.ref b), some (.int ((valB (row z ps) : Nat) : Int)), some (.int (C : Int)), u6, u7] ∧ Same H H' ∧ ∀ k : Nat, C.testBit k = true ↔ ∃ n j, Rng.In n (qs.take i) ∧ Rng.In j ps ∧ (k : Int) = (n - y) + (j - z))
        ⟨0, _, _, rfl, sM.trans s4, fun k => ⟨fun y => by simp at y, fun ⟨n, j, y, _⟩ => (Rng.In.nil y).elim⟩⟩ (fun i σ H' _ ⟨_, _, _, _, ss, _⟩ => SqT.of (ss _ _ eF)) ?_ ?_⟩⟩
      · rintro i x σ H1 hx ⟨C, u6, u7, rfl, s1, inv⟩
        have hi' : i < qs.length := by
          have := (List.getElem?_eq_some_iff.mp hx).1
          omega
        obtain ⟨t, it, ht⟩ := (PrAll.tk pF (TK.of s1)).at hi'
        have ex : x = .ref t := by
          rw [atI_nat hx] at it
          exact Option.some.inj it
        subst ex
        obtain ⟨g1, g2⟩ := lowF _ (List.getElem_mem hi')
        have g3 := t2 _ (List.getElem_mem hi')
        walk_at "rd"
        simp only [ht, Option.some.injEq, HO.tup.injEq, exists_eq_left']
        walk_at "rd"
        refine ⟨_, _, ⟨rfl, rfl⟩, _, _, rfl, rfl, ?_⟩
        refine ⟨_, rfl, _, rfl, valB (row z ps), 50001, (qs[i].2 - qs[i].1 + 1).toNat, ?_, fewB, by omega, by omega, by omega, fun H5 D s5 hD => ?_⟩
        · rw [Int.toNat_of_nonneg (by omega)]
        have s15 := s1.trans s5
        have fD : Few D (50001 + (qs[i].2 - qs[i].1 + 1).toNat) := fewB.sm hD
        have bD := fD.bits
        refine ⟨_, s15 _ _ eF, _, if0, tf0, rfl, _, s15 _ _ ef0, _, at20, _, rfl, _, rfl, _, rfl, ⟨by omega, by omega⟩, ?_⟩
        obtain ⟨sh, esh⟩ : ∃ sh : Nat, qs[i].1 - y = sh := ⟨(qs[i].1 - y).toNat, by omega⟩
        rw [esh, or_shl2]
        refine ⟨_, rfl, s15, fun k => ?_⟩
        rw [Nat.testBit_or, Bool.or_eq_true, inv, Nat.testBit_shiftLeft, Bool.and_eq_true, decide_eq_true_eq, hD, List.take_add_one, List.getElem?_eq_getElem hi']
        constructor
        · rintro (⟨n, j, i1, i2, i3⟩ | ⟨k1, d, d1, d2, d3⟩)
          · exact ⟨n, Rng.In.app.mpr (Or.inl i1), j, i2, i3⟩
          · exact ⟨qs[i].1 + d, Rng.In.app.mpr (Or.inr (Rng.In.cons.mpr (Or.inl ⟨by omega, by omega⟩))), _, (hB _).mp d3, by omega⟩
        · rintro ⟨n, i1, j, i2, i3⟩
          rcases Rng.In.app.mp i1 with i1 | i1
          · exact Or.inl ⟨n, j, i1, i2, i3⟩
          · right
            have i4 : qs[i].1 ≤ n ∧ n ≤ qs[i].2 := by
              rcases Rng.In.cons.mp i1 with i1 | i1
              · exact i1
              · exact (Rng.In.nil i1).elim
            have jm : z ≤ j := f1.ge i2
            refine ⟨by omega, (n - qs[i].1).toNat, by omega, by omega, (hB _).mpr ?_⟩
            have e : z + ((k - sh - (n - qs[i].1).toNat : Nat) : Int) = j := by omega
            rw [e]
            exact i2
      · rintro σ H1 ⟨C, u6, u7, rfl, s1, inv⟩
        walk_at "rd"
        rw [List.take_of_length_le (by omega)] at inv
        have inv' : ∀ k : Nat, C.testBit k = true ↔ ∃ n j, Rng.In n qs ∧ Rng.In j ps ∧ (k : Int) = (n - y) + (j - z) := fun k => by
          rw [inv]
        refine ⟨_, s1 _ _ ea, _, ia0, ta0, rfl, _, s1 _ _ ea0, _, at20, _, s1 _ _ eb, _, ib0, tb0, rfl, _, s1 _ _ eb0, _, at20, _, rfl, _, rfl, C, 100001, z + y, rfl, fun k hk => ?_, by omega, ?_, fun H6 t' rs s6 st fr6 in6 => q H6 t' rs (s1.trans s6) st fr6 fun n => ?_⟩
        · obtain ⟨n, j, i1, i2, i3⟩ := (inv' k).mp hk
          obtain ⟨q1, m1, a1, a2⟩ := i1
          obtain ⟨q2, m2, b1, b2⟩ := i2
          have := t2 q1 m1
          have := t1 q2 m2
          omega
        · refine (inv' 0).mpr ⟨y, z, ⟨qs[0], List.getElem_mem P0, by rw [hzf0]; exact Int.le_refl _, ?_⟩, ⟨ps[0], List.getElem_mem (pos0 h1), by rw [at0_of h1]; exact Int.le_refl _, ?_⟩, by omega⟩
          · have := lowF _ (List.getElem_mem P0)
            rw [hzf0] at this
            exact this.2
          · have := (from_le f1 _ (List.getElem_mem (pos0 h1))).2
            rw [at0_of h1] at this
            exact this
        · rw [in6]
          constructor
          · rintro ⟨k, k1, k2⟩
            obtain ⟨n', j, i1, i2, i3⟩ := (inv' k).mp k1
            exact ⟨_, _, i2, i1, by omega⟩
          · rintro ⟨i', j', i1, i2, i3⟩
            have g1 := f1.ge i1
            have g2 := f2.ge i2
            exact ⟨(n - (z + y)).toNat, (inv' _).mpr ⟨_, _, i2, i1, by omega⟩, by omega⟩
    · rw [if_neg (fun z => c (of_decide_eq_true z))]
      refine ⟨by decide, fun M nM => ⟨_, _, ⟨rfl, rfl⟩, _, _, rfl, rfl, ?_⟩⟩
      have sM := new_same (o := HO.tup [V.ref b, V.ref a]) nM
      obtain ⟨xf, eF, pF⟩ := S1
      have xl := pF.len
      have hB : ∀ k : Nat, (valB (row y qs)).testBit k = true ↔ Rng.In (y + k) qs := fun k => by rw [valB_bit, row_bit qs y k f2]
      have fewB : Few (valB (row y qs)) 50001 := fun k hk => by
        obtain ⟨q', m', i1, i2⟩ := (hB k).mp hk
        have := t2 q' m'
        omega
      have P0 : 0 < ps.length := pos0 h1
      have hzf0 := at0_of h1 P0
      obtain ⟨tf0, if0, ef0⟩ := PrAll.at pF P0
      rw [hzf0] at ef0
      have lowF : ∀ q ∈ ps, z ≤ q.1 ∧ q.1 ≤ q.2 := from_le f1
      refine ⟨b, qs, y, hj, rfl, S2.same sM, h2, f2, t2, l2, c2, fun H4 s4 => ⟨.ref a, rfl, a, rfl, ⟨xf, SqT.of ((sM.trans s4) _ _ eF)⟩, for_tup (K := K) (xs := xf) (fun i σ H' => ∃ (C : Nat) (u6 u7 : Option V), σ = [some (.ref a), some (.ref b), some (.ref b), some (.ref a), some (.int ((valB (row y qs) : Nat) : Int)), some (.int (C : Int)), u6, u7] ∧ Same H H' ∧ ∀ k : Nat, C.testBit k = true ↔ ∃ n j, Rng.In n (ps.take i) ∧ Rng.In j qs ∧ (k : Int) = (n - z) + (j - y))
        ⟨0, _, _, rfl, sM.trans s4, fun k => ⟨fun y => by simp at y, fun ⟨n, j, y, _⟩ => (Rng.In.nil y).elim⟩⟩ (fun i σ H' _ ⟨_, _, _, _, ss, _⟩ => SqT.of (ss _ _ eF)) ?_ ?_⟩⟩
      · rintro i x σ H1 hx ⟨C, u6, u7, rfl, s1, inv⟩
        have hi' : i < ps.length := by
          have := (List.getElem?_eq_some_iff.mp hx).1
          omega
        obtain ⟨t, it, ht⟩ := (PrAll.tk pF (TK.of s1)).at hi'
        have ex : x = .ref t := by
          rw [atI_nat hx] at it
          exact Option.some.inj it
        subst ex
        obtain ⟨g1, g2⟩ := lowF _ (List.getElem_mem hi')
        have g3 := t1 _ (List.getElem_mem hi')
        walk_at "rd"
        simp only [ht, Option.some.injEq, HO.tup.injEq, exists_eq_left']
        walk_at "rd"
        refine ⟨_, _, ⟨rfl, rfl⟩, _, _, rfl, rfl, ?_⟩
        refine ⟨_, rfl, _, rfl, valB (row y qs), 50001, (ps[i].2 - ps[i].1 + 1).toNat, ?_, fewB, by omega, by omega, by omega, fun H5 D s5 hD => ?_⟩
        · rw [Int.toNat_of_nonneg (by omega)]
        have s15 := s1.trans s5
        have fD : Few D (50001 + (ps[i].2 - ps[i].1 + 1).toNat) := fewB.sm hD
        have bD := fD.bits
        refine ⟨_, s15 _ _ eF, _, if0, tf0, rfl, _, s15 _ _ ef0, _, at20, _, rfl, _, rfl, _, rfl, ⟨by omega, by omega⟩, ?_⟩
        obtain ⟨sh, esh⟩ : ∃ sh : Nat, ps[i].1 - z = sh := ⟨(ps[i].1 - z).toNat, by omega⟩
        rw [esh, or_shl2]
        refine ⟨_, rfl, s15, fun k => ?_⟩
        rw [Nat.testBit_or, Bool.or_eq_true, inv, Nat.testBit_shiftLeft, Bool.and_eq_true, decide_eq_true_eq, hD, List.take_add_one, List.getElem?_eq_getElem hi']
        constructor
        · rintro (⟨n, j, i1, i2, i3⟩ | ⟨k1, d, d1, d2, d3⟩)
          · exact ⟨n, Rng.In.app.mpr (Or.inl i1), j, i2, i3⟩
          · exact ⟨ps[i].1 + d, Rng.In.app.mpr (Or.inr (Rng.In.cons.mpr (Or.inl ⟨by omega, by omega⟩))), _, (hB _).mp d3, by omega⟩
        · rintro ⟨n, i1, j, i2, i3⟩
          rcases Rng.In.app.mp i1 with i1 | i1
          · exact Or.inl ⟨n, j, i1, i2, i3⟩
          · right
            have i4 : ps[i].1 ≤ n ∧ n ≤ ps[i].2 := by
              rcases Rng.In.cons.mp i1 with i1 | i1
              · exact i1
              · exact (Rng.In.nil i1).elim
            have jm : y ≤ j := f2.ge i2
            refine ⟨by omega, (n - ps[i].1).toNat, by omega, by omega, (hB _).mpr ?_⟩
            have e : y + ((k - sh - (n - ps[i].1).toNat : Nat) : Int) = j := by omega
            rw [e]
            exact i2
      · rintro σ H1 ⟨C, u6, u7, rfl, s1, inv⟩
        walk_at "rd"
        rw [List.take_of_length_le (by omega)] at inv
        have inv' : ∀ k : Nat, C.testBit k = true ↔ ∃ n j, Rng.In n ps ∧ Rng.In j qs ∧ (k : Int) = (n - z) + (j - y) := fun k => by
          rw [inv]
        refine ⟨_, s1 _ _ ea, _, ia0, ta0, rfl, _, s1 _ _ ea0, _, at20, _, s1 _ _ eb, _, ib0, tb0, rfl, _, s1 _ _ eb0, _, at20, _, rfl, _, rfl, C, 100001, z + y, rfl, fun k hk => ?_, by omega, ?_, fun H6 t' rs s6 st fr6 in6 => q H6 t' rs (s1.trans s6) st fr6 fun n => ?_⟩
        · obtain ⟨n, j, i1, i2, i3⟩ := (inv' k).mp hk
          obtain ⟨q1, m1, a1, a2⟩ := i1
          obtain ⟨q2, m2, b1, b2⟩ := i2
          have := t1 q1 m1
          have := t2 q2 m2
          omega
        · refine (inv' 0).mpr ⟨z, y, ⟨ps[0], List.getElem_mem P0, by rw [hzf0]; exact Int.le_refl _, ?_⟩, ⟨qs[0], List.getElem_mem (pos0 h2), by rw [at0_of h2]; exact Int.le_refl _, ?_⟩, by omega⟩
          · have := lowF _ (List.getElem_mem P0)
            rw [hzf0] at this
            exact this.2
          · have := (from_le f2 _ (List.getElem_mem (pos0 h2))).2
            rw [at0_of h2] at this
            exact this
        · rw [in6]
          constructor
          · rintro ⟨k, k1, k2⟩
            obtain ⟨n', j, i1, i2, i3⟩ := (inv' k).mp k1
            exact ⟨_, _, i1, i2, by omega⟩
          · rintro ⟨i', j', i1, i2, i3⟩
            have g1 := f1.ge i1
            have g2 := f2.ge i2
            exact ⟨(n - (z + y)).toNat, (inv' _).mpr ⟨_, _, i1, i2, by omega⟩, by omega⟩
end
end Pf

set_option Elab.async false
set_option linter.all false
set_option maxRecDepth 100000
/-! Sums of range sets. -/
namespace Pf
open PySem PySem.Spec PyProof.Rows L2
local macro_rules | `(tactic| walk_at "rd") => `(tactic| simp only [tC1, tCK, tB, rNe, rEq, tChain, gTupV, gCons, gNil, Nat.sub_self, Nat.reduceSub, List.replicate_zero, List.replicate_succ, tTest, tIfS, tIf, tNot, tAnd, tOr, tAndV, tOrV, tNotV, tDrop, tNext, rIxV, rIxP,
  gSub, rSetL, tSl, tPart, tNoPart, rSl1, tAsg2, ipI, tDNewK, tBM, rAppend, wipe, rAllB, rAnyB, iTup, iList, RZ.iZipA, iRng1, iRng2, tYes, upd_same, at0, at1, at2, at20, at21, ixN30, ixN32, HO.lst.injEq, HO.tup.injEq, Nat.reduceAdd, tSeq, tAsg, tPar, tAug, tOp, tVar, tC, tCB, tCons, tNil, rI, rI0, rU, tUn, gName, tRet, tLst, tLstM, tTup, L2.start, List.map_cons, List.map_nil, List.length_cons, List.length_nil, List.replicate, List.cons_append,
  List.nil_append, List.set_cons_zero, List.set_cons_succ, List.getElem?_cons_zero, List.getElem?_cons_succ, Option.some.injEq, V.int.injEq, V.ref.injEq, V.bl.injEq, V.str.injEq, List.cons.injEq, exists_eq_left', exists_eq_left, exists_and_left, exists_and_right, and_true, true_and, reduceCtorEq, false_and,
  exists_false, or_false, false_or, exists_const, exists_eq, exists_eq', Bool.not_true, Bool.not_false, Bool.false_eq_true, if_true, if_false, ite_true, ite_false])
theorem lc_in {J : It} {n : Nat} {G : Hp → Prop} {Y : Nat → Hp → V → Hp → Prop} (w : Walk J n G Y) {g : TG} {tt : TT} {te : TE} {vs : List Nat} {σ : L2.St} {H1 : Hp} {D : Addr} {Nx : Hp → Prop} (Pv : Nat → Hp → Prop) (h0 : Pv 0 H1) (hG : ∀ i H, i ≤ n → Pv i H → G H)
    (hs : ∀ i x H H', i < n → Pv i H → Y i H x H' → g x (wipe σ vs) H' fun σ2 H2 => wipe σ2 vs = wipe σ vs ∧ tt σ2 H2 fun b H3 =>
      if b = true then te σ2 H3 fun y H4 => ∃ acc, H4 D = some (.lst acc) ∧ acc.length < sizeLine ∧ Pv (i + 1) (upd H4 D (.lst (acc ++ [y]))) else Pv (i + 1) H3) (hd : ∀ H, Pv n H → Nx H) :
    ∃ W1 : Nat → Nat → Hp → Prop, (∃ m, W1 0 m H1) ∧ ∀ j k H, W1 j k H →
      (J.stop j H ∧ Nx H) ∨ (J.go j H ∧ ∃ Nx1 : Hp → Prop, (∀ H', Nx1 H' → ∃ k', k' < k ∧ W1 (j + 1) k' H') ∧ ∀ x H', J.yld j H x H' → g x (wipe σ vs) H' fun σ3 H5 => wipe σ3 vs = wipe σ vs ∧ tt σ3 H5 fun b H6 =>
        if b = true then te σ3 H6 fun y H7 => ∃ acc, H7 D = some (.lst acc) ∧ acc.length < sizeLine ∧ Nx1 (upd H7 D (.lst (acc ++ [y]))) else Nx1 H6) := by
  refine ⟨fun j k H => k + j = n ∧ Pv j H, ⟨n, rfl, h0⟩, fun j k H h => ?_⟩
  obtain ⟨e, p⟩ := h
  by_cases c : j < n
  · right
    have q := hG j H (Nat.le_of_lt c) p
    exact ⟨w.goes j H c q, Pv (j + 1), fun H' p' => ⟨k - 1, by omega, by omega, p'⟩, fun x H' y => hs j x H H' c p (w.yields j H x H' c q y)⟩
  · left
    have e2 : j = n := by omega
    rw [e2] at p ⊢
    exact ⟨w.stops H (hG n H (Nat.le_refl _) p), hd H p⟩
theorem lc_out {J : It} {n : Nat} {G : Hp → Prop} {Y : Nat → Hp → V → Hp → Prop} (w : Walk J n G Y) {R : V → Hp → (Hp → Prop) → Prop} {H0 : Hp} {Qd : Hp → Prop} (Pv : Nat → Hp → Prop) (h0 : Pv 0 H0) (hG : ∀ i H, i ≤ n → Pv i H → G H)
    (hs : ∀ i x H H', i < n → Pv i H → Y i H x H' → R x H' (Pv (i + 1))) (hd : ∀ H, Pv n H → Qd H) :
    ∃ W : Nat → Nat → Hp → Prop, (∃ m, W 0 m H0) ∧ ∀ i m H, W i m H → (J.stop i H ∧ Qd H) ∨ (J.go i H ∧ ∃ Nx : Hp → Prop, (∀ H', Nx H' → ∃ m', m' < m ∧ W (i + 1) m' H') ∧ ∀ x H', J.yld i H x H' → R x H' Nx) := by
  refine ⟨fun j k H => k + j = n ∧ Pv j H, ⟨n, rfl, h0⟩, fun j k H h => ?_⟩
  obtain ⟨e, p⟩ := h
  by_cases c : j < n
  · right
    have q := hG j H (Nat.le_of_lt c) p
    exact ⟨w.goes j H c q, Pv (j + 1), fun H' p' => ⟨k - 1, by omega, by omega, p'⟩, fun x H' y => hs j x H H' c p (w.yields j H x H' c q y)⟩
  · left
    have e2 : j = n := by omega
    rw [e2] at p ⊢
    exact ⟨w.stops H (hG n H (Nat.le_refl _) p), hd H p⟩
theorem from_len {hi : Int} : ∀ (ps : List (Int × Int)) (k : Int), Rng.From k ps → (∀ n, Rng.In n ps → n ≤ hi) → ps.length ≤ (hi + 1 - k).toNat
  | [], _, _, _ => Nat.zero_le _
  | q :: r, k, ⟨h1, h2, h3⟩, hh => by
    have ih := from_len r (q.2 + 2) h3 fun n i => hh n (Rng.In.cons.mpr (Or.inr i))
    have := hh q.2 (Rng.In.cons.mpr (Or.inl ⟨h2, Int.le_refl _⟩))
    rw [List.length_cons]
    omega
theorem last_top : ∀ {k : Int} {ps : List (Int × Int)} (h : ps.length - 1 < ps.length), Rng.From k ps → ∀ q ∈ ps, q.2 ≤ ps[ps.length - 1].2
  | _, [q], _, _ => fun z m => by
    rw [List.mem_singleton.mp m]
    exact Int.le_refl _
  | _, q :: r :: s, h, f => fun z m => by
    have ih := last_top (k := q.2 + 2) (ps := r :: s) (by simp) f.2.2
    have e : (q :: r :: s)[(q :: r :: s).length - 1] = (r :: s)[(r :: s).length - 1] := by simp
    rw [e]
    rcases List.mem_cons.mp m with y | m
    · rw [y]
      have a1 := f.2.2.1
      have a2 := f.2.2.2.1
      have := ih r List.mem_cons_self
      omega
    · exact ih z m
def addP (p q : Int × Int) : Int × Int := (p.1 + q.1, p.2 + q.2)
def prods (ps qs : List (Int × Int)) : List (Int × Int) := ps.flatMap fun p => qs.map (addP p)
theorem prods_len (ps qs : List (Int × Int)) : (prods ps qs).length = ps.length * qs.length := by
  unfold prods
  induction ps with
  | nil => simp
  | cons p r ih =>
    rw [List.flatMap_cons, List.length_append, ih, List.length_map, List.length_cons, Nat.succ_mul]
    omega
theorem prods_in {ps qs : List (Int × Int)} (hp : ∀ q ∈ ps, q.1 ≤ q.2) (hq : ∀ q ∈ qs, q.1 ≤ q.2) (n : Int) : Rng.In n (prods ps qs) ↔ ∃ i j, Rng.In i ps ∧ Rng.In j qs ∧ n = i + j := by
  constructor
  · rintro ⟨z, m, l, h⟩
    obtain ⟨p, mp, m⟩ := List.mem_flatMap.mp m
    obtain ⟨q, mq, rfl⟩ := List.mem_map.mp m
    have l' : p.1 + q.1 ≤ n := l
    have h' : n ≤ p.2 + q.2 := h
    have := hp p mp
    have := hq q mq
    by_cases c : n - q.2 ≤ p.1
    · exact ⟨p.1, n - p.1, ⟨p, mp, Int.le_refl _, by omega⟩, ⟨q, mq, by omega, by omega⟩, by omega⟩
    · exact ⟨n - q.2, q.2, ⟨p, mp, by omega, by omega⟩, ⟨q, mq, by omega, Int.le_refl _⟩, by omega⟩
  · rintro ⟨i, j, ⟨p, mp, p1, p2⟩, ⟨q, mq, q1, q2⟩, rfl⟩
    exact ⟨addP p q, List.mem_flatMap.mpr ⟨p, mp, List.mem_map.mpr ⟨q, mq, rfl⟩⟩, by show p.1 + q.1 ≤ i + j; omega, by show i + j ≤ p.2 + q.2; omega⟩
section
variable {base : Heap} {P : Program} {w : World} {mg : Str → Option Value} {K : PySem.W.Frag}
def sp_added : Sp := fun vs H Q _ => ∃ (a b : Addr) (ps qs : List (Int × Int)), vs = [.ref a, .ref b] ∧ SetAt H a ps ∧ SetAt H b qs ∧ Rng.Rg ps ∧ Rng.Rg qs ∧ ps.length * qs.length ≤ 40000 ∧ ps.length ≤ 40000 ∧ qs.length ≤ 40000 ∧
  ∀ (H' : Hp) (t : Addr) (rs : List (Int × Int)), Same H H' → SetAt H' t rs → Rng.Rg rs → (∀ n, Rng.In n rs ↔ ∃ i j, Rng.In i ps ∧ Rng.In j qs ∧ n = i + j) → rs.length ≤ ps.length * qs.length → Q (.ref t) H'
theorem ok_added {f : Addr} {fd : FuncData} (F : Fun K "added" "added" s_added f fd) (T : Txt mg) (C_added_by_bits : Cal P w K mg base 2 "added_by_bits" sp_abb) (C_united : Cal P w K mg base 1 "united" sp_united) : FnG P w K mg base 3 f fd ["one", "other"] sp_added := by
  refine okG F sc_added (fun vs H Q E h => ?_) (fun cdv A outer s H vs Q E hg hr h => ?_)
  · obtain ⟨a, b, ps, qs, rfl, _⟩ := h
    rfl
  · obtain ⟨a, b, ps, qs, rfl, S1, S2, r1, r2, few, few1, few2, q⟩ := h
    replace hr := And.intro hg hr
    refine ⟨_, (pss_cons (ps_if (PW.pt (pw_or (pt_not (pt_truth (pv 0) (by intro _; rfl))) (pw_or1 (pt_not (pt_truth (pv 1) (by intro _; rfl)))))) (pss_one (ps_ret (pe_tup pa_nil))) pss_nil)
        (pss_cons (ps_set (i := 2) sc_added.nd rfl (Or.inl rfl) (pe_op op_add (pe_ix ix_t (pe_ix ix_t (pv 0) pe_int (fun _ _ => rfl)) pe_int (fun _ _ => rfl)) (pe_ix ix_t (pe_ix ix_t (pv 1) pe_int (fun _ _ => rfl)) pe_int (fun _ _ => rfl))))
        (pss_cons (ps_set (i := 3) sc_added.nd rfl (Or.inl rfl) (pe_op op_add (pe_ix ix_t (pe_ix ix_t (pv 0) (pe_un un_neg pe_int) (fun _ _ => rfl)) pe_int (fun _ _ => rfl)) (pe_ix ix_t (pe_ix ix_t (pv 1) (pe_un un_neg pe_int) (fun _ _ => rfl)) pe_int (fun _ _ => rfl))))
        (pss_cons (ps_if (pt_cmpR op_gt (pe_op op_mul (pe_callB call_lenT (by rfl) T.b_len (by decide +kernel) (pa_cons (pv 0) pa_nil)) (pe_callB call_lenT (by rfl) T.b_len (by decide +kernel) (pa_cons (pv 1) pa_nil))) (pe_op op_sub (pv 3) (pv 2)) (nomark _)) (pss_one (ps_ret (pe_c C_added_by_bits hr (by decide) (by rfl) (pa_cons (pv 0) (pa_cons (pv 1) pa_nil))))) pss_nil)
        (pss_one (ps_ret (pe_c C_united hr (by decide) (by rfl) (pa_cons (pe_callB cr_sortedPO (by rfl) T.b_sorted (by decide +kernel) (pa_cons (pe_lc2 (own := [("low", 4), ("high", 5), ("from_low", 6), ("to_high", 7)]) (vs1 := [6, 7]) (g := gTupV 2 (gCons (gName 4) (gCons (gName 5) gNil))) (g1 := gTupV 2 (gCons (gName 6) (gCons (gName 7) gNil))) (tt := tYes) (tt1 := tYes) rfl sc_added.nd (pi_tup (pv 0)) (blkOk_by (own := [("low", 4), ("high", 5), ("from_low", 6), ("to_high", 7)]) (N := ["one", "other", "lowest", "highest", "low", "high", "from_low", "to_high"]) (sc := defScope s_added) (by decide +kernel)) (by decide) (fun _ _ _ _ _ => (pg_tupV (n := 2) rfl (pgs_cons (pg_name (i := 4) sc_added.nd rfl (Or.inl rfl)) (pgs_cons (pg_name (i := 5) sc_added.nd rfl (Or.inl rfl)) pgs_nil)))) (fun _ _ _ _ _ => pts_nil) (fun _ _ _ _ _ => (show PI _ _ _ (iTup K _) from (pi_tup (pv 1)))) (fun _ _ _ _ _ => (pg_tupV (n := 2) rfl (pgs_cons (pg_name (i := 6) sc_added.nd rfl (Or.inl rfl)) (pgs_cons (pg_name (i := 7) sc_added.nd rfl (Or.inl rfl)) pgs_nil)))) (fun _ _ _ _ _ => pts_nil) (fun _ _ _ _ _ => (pe_tup (pa_cons (pe_op op_add (pv 4) (pv 6)) (pa_cons (pe_op op_add (pv 5) (pv 7)) pa_nil))))) pa_nil)) pa_nil)))))))), ?_⟩
    obtain ⟨xa, ea, pa⟩ := id S1
    obtain ⟨xb, eb, pb⟩ := id S2
    have la := pa.len
    have lb := pb.len
    walk_at "rd"
    have nilIn : ∀ (us vs : List (Int × Int)), us = [] ∨ vs = [] → ∀ n, Rng.In n [] ↔ ∃ i j, Rng.In i us ∧ Rng.In j vs ∧ n = i + j := fun us vs h n => by
      constructor
      · exact fun z => (Rng.In.nil z).elim
      · rintro ⟨i, j, i1, i2, _⟩
        rcases h with h | h
        · rw [h] at i1
          exact (Rng.In.nil i1).elim
        · rw [h] at i2
          exact (Rng.In.nil i2).elim
    have done0 : ps = [] ∨ qs = [] → ∀ t, H t = none → Q (.ref t) (upd H t (.tup [])) := fun h t nt => q _ t [] (new_same nt) ⟨[], upd_same, .nil⟩ ⟨0, trivial⟩ (nilIn ps qs h) (Nat.zero_le _)
    cases xa with
    | nil =>
      have z : ps = [] := List.eq_nil_of_length_eq_zero la.symm
      exact ⟨false, .inr (.inl ⟨[], SqT.of ea, rfl⟩), iteT ⟨Nat.zero_le _, done0 (Or.inl z)⟩⟩
    | cons va xa =>
    refine ⟨true, .inr (.inl ⟨_, SqT.of ea, rfl⟩), iteF ?_⟩
    cases xb with
    | nil =>
      have z : qs = [] := List.eq_nil_of_length_eq_zero lb.symm
      exact ⟨false, .inr (.inl ⟨[], SqT.of eb, rfl⟩), iteT ⟨Nat.zero_le _, done0 (Or.inr z)⟩⟩
    | cons vb xb =>
    refine ⟨true, .inr (.inl ⟨_, SqT.of eb, rfl⟩), iteF ?_⟩
    have pa0 : 0 < ps.length := by rw [← la]; exact Nat.succ_pos _
    have pb0 : 0 < qs.length := by rw [← lb]; exact Nat.succ_pos _
    obtain ⟨ta0, ia0, ea0⟩ := PrAll.at pa pa0
    obtain ⟨tb0, ib0, eb0⟩ := PrAll.at pb pb0
    obtain ⟨tal, ial, eal⟩ := pa.lastAt (show ps.length - 1 < ps.length by omega)
    obtain ⟨tbl, ibl, ebl⟩ := pb.lastAt (show qs.length - 1 < qs.length by omega)
    generalize hza : ps[0].1 = z at *
    generalize hzb : qs[0].1 = y at *
    have fa : Rng.From z ps := by
      obtain ⟨k, f⟩ := r1
      cases ps with
      | nil => trivial
      | cons p r => exact ⟨by rw [← hza]; exact Int.le_refl _, f.2⟩
    have fb : Rng.From y qs := by
      obtain ⟨k, f⟩ := r2
      cases qs with
      | nil => trivial
      | cons p r => exact ⟨by rw [← hzb]; exact Int.le_refl _, f.2⟩
    have ta := last_top (show ps.length - 1 < ps.length by omega) fa
    have tb := last_top (show qs.length - 1 < qs.length by omega) fb
    have la2 := (from_le fa _ (List.getElem_mem (show ps.length - 1 < ps.length by omega)))
    have lb2 := (from_le fb _ (List.getElem_mem (show qs.length - 1 < qs.length by omega)))
    generalize ps[ps.length - 1] = pz at *
    generalize qs[qs.length - 1] = qz at *
    refine ⟨_, ea, _, ia0, ta0, rfl, _, ea0, _, at20, _, eb, _, ib0, tb0, rfl, _, eb0, _, at20, _, rfl, _, rfl, _, ea, _, ial, tal, rfl, _, eal, _, at21, _, eb, _, ibl, tbl, rfl, _, ebl, _, at21, _, rfl, _, rfl, ?_⟩
    have e : (((va :: xa).length : Int) * ((vb :: xb).length : Int)) = ((ps.length * qs.length : Nat) : Int) := by
      rw [la, lb]
      push_cast
      rfl
    refine ⟨_, ea, _, eb, Or.inl ⟨by omega, by omega⟩, ?_⟩
    rw [e]
    by_cases c : pz.2 + qz.2 - (z + y) < ((ps.length * qs.length : Nat) : Int)
    · rw [if_pos (decide_eq_true c)]
      refine ⟨a, b, ps, qs, z, y, pz.2, qz.2, rfl, S1, S2, by rw [List.getElem?_eq_getElem pa0]; exact congrArg some hza, by rw [List.getElem?_eq_getElem pb0]; exact congrArg some hzb, fa, fb, ta, tb, by omega, by omega, by omega, by omega, fun H' t rs s st fr inn => q H' t rs s st ⟨_, fr⟩ inn ?_⟩
      have l := from_len (hi := pz.2 + qz.2) rs (z + y) fr fun n i => by
        obtain ⟨i', j', ⟨q1, m1, _, a1⟩, ⟨q2, m2, _, a2⟩, a3⟩ := (inn n).mp i
        have := ta q1 m1
        have := tb q2 m2
        omega
      omega
    · rw [if_neg (fun y => c (of_decide_eq_true y))]
      have ordA : ∀ q ∈ ps, q.1 ≤ q.2 := fun q m => (from_le fa q m).2
      have ordB : ∀ q ∈ qs, q.1 ≤ q.2 := fun q m => (from_le fb q m).2
      have big : (100000 : Nat) ≤ sizeLine := by decide
      refine ⟨.ref a, rfl, a, rfl, ⟨_, SqT.of ea⟩, fun D nD => ?_⟩
      have sD := new_same (o := HO.lst []) nD
      refine lc_out (walk_tup (xs := va :: xa)) (fun i H' => ∃ xf, Same H H' ∧ H' D = some (.lst xf) ∧ PrAll H' xf (prods (ps.take i) qs)) ⟨[], sD, upd_same, .nil⟩ (fun i H' _ ⟨_, ss, _⟩ => SqT.of (ss _ _ ea)) ?_ ?_
      · rintro i x H1 H2 hi ⟨xf, s1, eD, pf⟩ ⟨rfl, hx⟩
        have hi2 : i < ps.length := by omega
        obtain ⟨t, it, ht⟩ := (PrAll.tk pa (TK.of s1)).at hi2
        have ex : x = .ref t := by
          rw [atI_nat hx] at it
          exact Option.some.inj it
        subst ex
        walk_at "rd"
        refine ⟨_, ht, rfl, _, _, rfl, _, _, rfl, rfl, ⟨_, SqT.of (s1 _ _ eb)⟩, lc_out (walk_tup (xs := vb :: xb)) (fun j H' => ∃ xf, Same H H' ∧ H' D = some (.lst xf) ∧ PrAll H' xf (prods (ps.take i) qs ++ (qs.take j).map (addP ps[i]))) ⟨xf, s1, eD, by rw [List.take_zero, List.map_nil, List.append_nil]; exact pf⟩ (fun j H' _ ⟨_, ss, _⟩ => SqT.of (ss _ _ eb)) ?_ ?_⟩
        · rintro j x2 H3 H4 hj ⟨xg, s3, eD3, pg⟩ ⟨rfl, hx2⟩
          have hj2 : j < qs.length := by omega
          obtain ⟨t2, it2, ht2⟩ := (PrAll.tk pb (TK.of s3)).at hj2
          have ex2 : x2 = .ref t2 := by
            rw [atI_nat hx2] at it2
            exact Option.some.inj it2
          subst ex2
          have gl := pg.len
          rw [List.length_append, prods_len, List.length_map, List.length_take, List.length_take] at gl
          have cap : min i ps.length * qs.length + min j qs.length ≤ 40000 := by
            have e1 : min i ps.length = i := by omega
            have e2 : min j qs.length = j := by omega
            rw [e1, e2]
            have := Nat.mul_le_mul_right qs.length (show i + 1 ≤ ps.length by omega)
            rw [Nat.succ_mul] at this
            omega
          refine ⟨t2, rfl, _, ht2, rfl, _, _, rfl, _, _, rfl, rfl, _, rfl, _, rfl, _, rfl, _, rfl, by decide, fun N nN => ?_⟩
          have sN := new_same (o := HO.tup [V.int (ps[i].1 + qs[j].1), V.int (ps[i].2 + qs[j].2)]) nN
          have eN := sN _ _ eD3
          have nDN : D ≠ N := ne_of_none eD3 nN
          refine ⟨xg, eN, Nat.lt_of_le_of_lt (show xg.length ≤ 40000 by omega) (by decide), xg ++ [.ref N], fun d o z => ?_, upd_same, ?_⟩
          · rw [upd_ne (ne_of_none z nD)]
            exact sN _ _ (s3 _ _ z)
          · rw [List.take_add_one, List.getElem?_eq_getElem hj2, List.map_append, ← List.append_assoc]
            exact ((pg.tk (TK.of sN)).tk (TK.put eN)).snoc ⟨N, rfl, by rw [upd_ne nDN.symm, upd_same]; rfl⟩
        · rintro H3 ⟨xg, s3, eD3, pg⟩
          rw [lb, List.take_length] at pg
          refine ⟨s3, xg, eD3, ?_⟩
          rw [List.take_add_one, List.getElem?_eq_getElem hi2]
          unfold prods at pg ⊢
          rw [List.flatMap_append]
          simpa using pg
      · rintro H1 ⟨xf, s1, eD, pf⟩
        rw [la, List.take_length] at pf
        refine ⟨D, xf, kV H1, rfl, SqL.of eD, fun x m => ?_, fun ys L so sb nL => ?_⟩
        · obtain ⟨t, e1, e2⟩ := pf.mem x m
          exact ⟨t, e1, e2⟩
        · have ordP : ∀ q ∈ prods ps qs, q.1 ≤ q.2 := fun q m => by
            obtain ⟨p1, m1, m2⟩ := List.mem_flatMap.mp m
            obtain ⟨p2, m3, rfl⟩ := List.mem_map.mp m2
            have := ordA p1 m1
            have := ordB p2 m3
            show p1.1 + p2.1 ≤ p1.2 + p2.2
            omega
          obtain ⟨rs, pr, pm, _, j, asc⟩ := sorted_prs pf so sb ordP
          have s2 := new_same (o := HO.lst ys) nL
          obtain ⟨g1, g2⟩ := Rng.united_spec asc
          have rl := pm.length_eq
          rw [prods_len] at rl
          refine ⟨L, ys, rs, rfl, upd_same, PrAll.tk pr (TK.of s2), by omega, fun H3 t s3 st => q H3 t _ (s1.trans (s2.trans s3)) st g1 (fun n => ?_) ?_⟩
          · rw [g2, in_perm pm, prods_in ordA ordB]
          · have := united_len rs
            omega
def SumM (ps : List (Int × Int)) : Nat → Int → Prop
  | 0, n => n = 0
  | k + 1, n => ∃ i j, SumM ps k i ∧ Rng.In j ps ∧ n = i + j
def sp_sums : Sp := fun vs H Q _ => ∃ (a : Addr) (ps : List (Int × Int)) (m : Nat), vs = [.ref a, .int (m : Int)] ∧ SetAt H a ps ∧ Rng.Rg ps ∧ ps.length ^ m ≤ 40000 ∧ ps.length ≤ 40000 ∧ m ≤ 100 ∧
  ∀ (H' : Hp) (t : Addr) (rs : List (Int × Int)), Same H H' → SetAt H' t rs → Rng.Rg rs → (∀ n, Rng.In n rs ↔ SumM ps m n) → rs.length ≤ ps.length ^ m → Q (.ref t) H'
theorem ok_sums {f : Addr} {fd : FuncData} (F : Fun K "sums" "sums" s_sums f fd) (T : Txt mg) (C_added : Cal P w K mg base 3 "added" sp_added) : FnG P w K mg base 4 f fd ["ranges", "many"] sp_sums := by
  refine okG F sc_sums (fun vs H Q E h => ?_) (fun cdv A outer s H vs Q E hg hr h => ?_)
  · obtain ⟨a, ps, m, rfl, _⟩ := h
    rfl
  · obtain ⟨a, ps, m, rfl, S1, r1, few, few1, hm, q⟩ := h
    replace hr := And.intro hg hr
    refine ⟨_, (pss_cons (ps_set (i := 2) sc_sums.nd rfl (Or.inl rfl) (pe_tup (pa_cons (pe_tup (pa_cons pe_int (pa_cons pe_int pa_nil))) pa_nil)))
        (pss_cons (ps_for PassesOwn.never rfl (pi_range1 (by rfl) T.b_range (pa_cons (pv 1) pa_nil)) (pg_name (i := 3) sc_sums.nd rfl (Or.inl rfl)) (pss_one (ps_set (i := 2) sc_sums.nd rfl (Or.inl rfl) (pe_c C_added hr (by decide) (by rfl) (pa_cons (pv 2) (pa_cons (pv 0) pa_nil))))))
        (pss_one (ps_ret (pv 2))))), ?_⟩
    walk_at "rd"
    refine ⟨by decide, fun M nM => ⟨by decide, fun N nN => ?_⟩⟩
    have sM := new_same (o := HO.tup [V.int 0, V.int 0]) nM
    have sN := new_same (o := HO.tup [V.ref M]) nN
    have S0 : SetAt (upd (upd H M (HO.tup [V.int 0, V.int 0])) N (HO.tup [V.ref M])) N [(0, 0)] := ⟨[.ref M], upd_same, .cons ⟨M, rfl, sN _ _ upd_same⟩ .nil⟩
    have sMN := sM.trans sN
    refine ⟨.int (m : Int), rfl, (m : Int), rfl, by omega, by omega, for_range (lo := 0) (fun i σ H' => ∃ (t : Addr) (rs : List (Int × Int)) (u : Option V), σ = [some (.ref a), some (.int (m : Int)), some (.ref t), u] ∧ Same H H' ∧ SetAt H' t rs ∧ Rng.Rg rs ∧ (∀ n, Rng.In n rs ↔ SumM ps i n) ∧ rs.length ≤ ps.length ^ i)
      ⟨N, [(0, 0)], _, rfl, sMN, S0, ⟨0, Int.le_refl _, Int.le_refl _, trivial⟩, fun n => ?_, Nat.le_refl _⟩ ?_ ?_⟩
    · constructor
      · intro z
        rcases Rng.In.cons.mp z with z | z
        · have z1 : (0 : Int) ≤ n := z.1
          have z2 : n ≤ (0 : Int) := z.2
          show n = 0
          omega
        · exact (Rng.In.nil z).elim
      · intro z
        have z' : n = 0 := z
        rw [z']
        exact Rng.In.cons.mpr (Or.inl ⟨Int.le_refl _, Int.le_refl _⟩)
    · rintro i σ H1 hi ⟨t, rs, u, rfl, s1, st, rg, inn, len⟩
      have hi' : i < m := by omega
      have pw : rs.length * ps.length ≤ 40000 := by
        refine Nat.le_trans (Nat.mul_le_mul_right _ len) ?_
        rw [← Nat.pow_succ]
        rcases Nat.eq_zero_or_pos ps.length with z | z
        · rw [z, Nat.zero_pow (Nat.succ_pos _)]
          exact Nat.zero_le _
        · exact Nat.le_trans (Nat.pow_le_pow_right z (show i + 1 ≤ m by omega)) few
      have rl : rs.length ≤ 40000 := by
        rcases Nat.eq_zero_or_pos ps.length with z | z
        · rw [z] at len
          rcases Nat.eq_zero_or_pos i with y | y
          · rw [y] at len
            exact Nat.le_trans len (by decide)
          · rw [Nat.zero_pow y] at len
            omega
        · exact Nat.le_trans (Nat.le_mul_of_pos_right _ z) pw
      walk_at "rd"
      refine ⟨t, a, rs, ps, rfl, st, S1.same s1, rg, r1, pw, rl, few1, fun H2 t2 rs2 s2 st2 rg2 in2 l2 => ⟨t2, rfl, s1.trans s2, rs2, st2, rg2, fun n => ?_, ?_⟩⟩
      · rw [in2]
        constructor
        · rintro ⟨x, y, i1, i2, i3⟩
          exact ⟨x, y, (inn x).mp i1, i2, i3⟩
        · rintro ⟨x, y, i1, i2, i3⟩
          exact ⟨x, y, (inn x).mpr i1, i2, i3⟩
      · rw [Nat.pow_succ]
        exact Nat.le_trans l2 (Nat.mul_le_mul_right _ len)
    · rintro σ H1 ⟨t, rs, u, rfl, s1, st, rg, inn, len⟩
      rw [Int.toNat_natCast] at inn len
      walk_at "rd"
      exact q H1 t rs s1 st rg inn len
end
end Pf

set_option Elab.async false
set_option linter.all false
set_option maxRecDepth 100000
/-! The law's own draws. -/
namespace Pf
open PySem PySem.Spec PyProof.Rows L2
local macro_rules | `(tactic| walk_at "rd") => `(tactic| simp only [tC1, tCK, tB, rNe, rEq, tChain, gTupV, gCons, gNil, Nat.sub_self, Nat.reduceSub, List.replicate_zero, List.replicate_succ, tTest, tIfS, tIf, tNot, tAnd, tOr, tAndV, tOrV, tNotV, tDrop, tNext, rIxV, rIxP,
  gSub, rSetL, tSl, tPart, tNoPart, rSl1, tAsg2, ipI, tDNewK, tBM, rAppend, wipe, rAllB, rAnyB, iTup, iList, RZ.iZipA, iRng1, iRng2, tYes, upd_same, at0, at1, at2, at20, at21, ixN30, ixN32, HO.lst.injEq, HO.tup.injEq, Nat.reduceAdd, tSeq, tAsg, tPar, tAug, tOp, tVar, tC, tCB, tCons, tNil, rI, rI0, rU, tUn, gName, tRet, tLst, tLstM, tTup, L2.start, List.map_cons, List.map_nil, List.length_cons, List.length_nil, List.replicate, List.cons_append,
  List.nil_append, List.set_cons_zero, List.set_cons_succ, List.getElem?_cons_zero, List.getElem?_cons_succ, Option.some.injEq, V.int.injEq, V.ref.injEq, V.bl.injEq, V.str.injEq, List.cons.injEq, exists_eq_left', exists_eq_left, exists_and_left, exists_and_right, and_true, true_and, reduceCtorEq, false_and,
  exists_false, or_false, false_or, exists_const, exists_eq, exists_eq', Bool.not_true, Bool.not_false, Bool.false_eq_true, if_true, if_false, ite_true, ite_false])
abbrev s__law_pot : Stmt := topS 19
theorem sc__law_pot : FnScope ["_law_script", "_law_k", "_law_cell", "_law_own"] ["_law_script", "_law_k"] (defScope s__law_pot) := ⟨rfl, rfl, rfl, by decide +kernel, rfl, by decide +kernel, by decide +kernel⟩
abbrev s__law_draw : Stmt := topS 20
theorem sc__law_draw : FnScope ["_law_pot_here", "_law_many", "_law_digit", "_law_prime", "_law_made"] ["_law_pot_here", "_law_many"] (defScope s__law_draw) := ⟨rfl, rfl, rfl, by decide +kernel, rfl, by decide +kernel, by decide +kernel⟩
abbrev s__law_any : Stmt := topS 21
theorem sc__law_any : FnScope ["_law_pot_here", "_law_items"] ["_law_pot_here", "_law_items"] (defScope s__law_any) := ⟨rfl, rfl, rfl, by decide +kernel, rfl, by decide +kernel, by decide +kernel⟩
section
variable {base : Heap} {P : Program} {w : World} {mg : Str → Option Value} {K : PySem.W.Frag}
def sp_pot (K : PySem.W.Frag) : Sp := fun vs H Q _ => ∃ (a : Addr) (ns : List Int) (k : Nat), vs = [.ref a, .int k] ∧ SqL K H a (ns.map V.int) ∧ ns.length ≤ 63 ∧ k ≤ 63 ∧ ∀ H' p, Same H H' → H p = none → Pot H' p 0 → Q (.ref p) H'
theorem ok_pot {f : Addr} {fd : FuncData} (F : Fun K "_law_pot" "_law_pot" s__law_pot f fd) (T : Txt mg) : FnG P w K mg base 1 f fd ["_law_script", "_law_k"] (sp_pot K) := by
  refine okG F sc__law_pot (fun vs H Q E h => ?_) (fun cdv A outer s H vs Q E hg hr h => ?_)
  · obtain ⟨a, ns, k, rfl, _⟩ := h
    rfl
  · obtain ⟨a, ns, k, rfl, hS, hlen, hk, q⟩ := h
    replace hr := And.intro hg hr
    refine ⟨_, (pss_cons (ps_set (i := 2) sc__law_pot.nd rfl (Or.inl rfl) (pe_ifExp (pt_cmpR op_lt (pv 1) (pe_callB call_len_seq (by rfl) T.b_len (by decide +kernel) (pa_cons (pv 0) pa_nil)) (nomark _)) (pe_ix ix_list (pv 0) (pv 1) (fun _ _ => rfl)) (pe_op op_add (pe_op op_mul pe_int (pv 1)) pe_int)))
        (pss_cons (ps_set (i := 3) sc__law_pot.nd rfl (Or.inl rfl) (pe_op op_mul (pe_op op_mod (pe_callTy call_intI (by rfl) T.b_int (by decide +kernel) (pa_cons (pe_callB call_abs (by rfl) T.b_abs (by decide +kernel) (pa_cons (pv 2) pa_nil)) pa_nil)) (pe_op op_powW (pe_op op_powW pe_int pe_int) pe_int)) (pe_callTy call_int1 (by rfl) T.b_int (by decide +kernel) (pa_cons (pe_cmpR op_ge (pe_callB call_abs (by rfl) T.b_abs (by decide +kernel) (pa_cons (pv 2) pa_nil)) (pe_op op_powW pe_int pe_int) (nomark _)) pa_nil))))
        (pss_one (ps_ret (pe_lst (pa_cons (pv 3) (pa_cons (pe_op op_mod (pe_callTy call_intI (by rfl) T.b_int (by decide +kernel) (pa_cons (pe_op op_add (pe_op op_add (pe_op op_mul (pe_op op_mod (pe_callTy call_intI (by rfl) T.b_int (by decide +kernel) (pa_cons (pv 2) pa_nil)) pe_int) pe_int) (pe_op op_mul (pe_op op_mul pe_int (pv 1)) (pv 1))) pe_int) pa_nil)) pe_int) (pa_cons pe_int pa_nil)))))))), ?_⟩
    refine ⟨.int k, rfl, .ref a, rfl, a, _, rfl, .inl hS, (k : Int), _, rfl, rfl, _, rfl, ?_⟩
    refine ite2 (fun e => ?_) (fun e => ?_)
    · have hlt : k < ns.length := by
        have := of_decide_eq_true e
        rw [List.length_map] at this
        omega
      refine ⟨.ref a, rfl, .int k, rfl, a, _, (k : Int), _, rfl, rfl, hS, cell_at hlt, ?_⟩
      generalize ns[k] = c
      walk_at "rd"
      refine ⟨pot_c1, pot_c2, pot_c3, pot_c4, pot_c5, by decide, pot_c6 c, pot_c7 9241 (by decide) hk, pot_c8 hk, by decide, by decide, fun p hp => q _ p (new_same hp) hp (pot_made H p _ _ _)⟩
    · walk_at "rd"
      refine ⟨pot_c7 11 (by decide) hk, pot_c1, pot_c2, pot_c3, pot_c4, pot_c5, by decide, pot_c6 _, pot_c7 9241 (by decide) hk, pot_c8 hk, by decide, by decide, fun p hp => q _ p (new_same hp) hp (pot_made H p _ _ _)⟩
def sp_draw : Sp := fun vs H Q _ => ∃ (p : Addr) (many : Int) (m : Nat), vs = [.ref p, .int many] ∧ Pot H p m ∧ m < 1000000 ∧ 1 ≤ many ∧ many.natAbs < 2 ^ 200 ∧
  ∀ (H' : Hp) (r : Int), Kp p H H' → Pot H' p (m + 1) → 0 ≤ r → r < many → Q (.int r) H'
theorem ok_draw {f : Addr} {fd : FuncData} (F : Fun K "_law_draw" "_law_draw" s__law_draw f fd) (T : Txt mg) : FnG P w K mg base 1 f fd ["_law_pot_here", "_law_many"] sp_draw := by
  refine okG F sc__law_draw (fun vs H Q E h => ?_) (fun cdv A outer s H vs Q E hg hr h => ?_)
  · obtain ⟨p, many, m, rfl, _⟩ := h
    rfl
  · obtain ⟨p, many, m, rfl, ⟨a, b, c, e, h1, h2, h3, h4, h5, h6⟩, hm, hn, hn2, q⟩ := h
    replace hr := And.intro hg hr
    refine ⟨_, (pss_cons (ps_if (pt_cmpR op_gt (pe_ix ix_v (pv 0) pe_int (fun _ _ => rfl)) pe_int (nomark _)) (pss_cons (ps_set (i := 2) sc__law_draw.nd rfl (Or.inl rfl) (pe_op op_mod (pe_callTy call_intI (by rfl) T.b_int (by decide +kernel) (pa_cons (pe_ix ix_v (pv 0) pe_int (fun _ _ => rfl)) pa_nil)) (pv 1)))
        (pss_cons (ps_asg (pe_op op_fdivW (pe_ix ix_v (pv 0) pe_int (fun _ _ => rfl)) (pv 1)) (pg_sub (pv 0) pe_int set_list))
        (pss_one (ps_ret (pv 2))))) pss_nil)
        (pss_cons (ps_asg (pe_op op_add (pe_ix ix_v (pv 0) pe_int (fun _ _ => rfl)) pe_int) (pg_sub (pv 0) pe_int set_list))
        (pss_cons (ps_set (i := 3) sc__law_draw.nd rfl (Or.inl rfl) (pe_ix ix_v (pe_lst (pa_cons pe_int (pa_cons pe_int (pa_cons pe_int (pa_cons pe_int (pa_cons pe_int pa_nil)))))) (pe_op op_mod (pe_callTy call_intI (by rfl) T.b_int (by decide +kernel) (pa_cons (pe_ix ix_v (pv 0) pe_int (fun _ _ => rfl)) pa_nil)) pe_int) (fun _ _ => rfl)))
        (pss_cons (ps_set (i := 4) sc__law_draw.nd rfl (Or.inl rfl) (pe_op op_mod (pe_callTy call_intI (by rfl) T.b_int (by decide +kernel) (pa_cons (pe_op op_pow (pe_op op_add (pe_op op_add (pe_ix ix_v (pv 0) pe_int (fun _ _ => rfl)) (pe_op op_mul (pe_op op_mul pe_int (pe_ix ix_v (pv 0) pe_int (fun _ _ => rfl))) (pe_ix ix_v (pv 0) pe_int (fun _ _ => rfl)))) pe_int) pe_int) pa_nil)) (pv 3)))
        (pss_cons (ps_set (i := 4) sc__law_draw.nd rfl (Or.inl rfl) (pe_op op_mod (pe_callTy call_intI (by rfl) T.b_int (by decide +kernel) (pa_cons (pe_op op_mul (pv 4) (pe_op op_add (pe_op op_mod (pe_callTy call_intI (by rfl) T.b_int (by decide +kernel) (pa_cons (pv 4) pa_nil)) pe_int) (pe_op op_mul pe_int (pe_ix ix_v (pv 0) pe_int (fun _ _ => rfl))))) pa_nil)) pe_int))
        (pss_one (ps_ret (pe_op op_mod (pe_callTy call_intI (by rfl) T.b_int (by decide +kernel) (pa_cons (pe_op op_fdivW (pv 4) pe_int) pa_nil)) (pv 1))))))))), ?_⟩
    walk_at "rd"
    simp only [e, Option.some.injEq, HO.lst.injEq, exists_eq_left']
    walk_at "rd"
    refine ite2 (fun g => ?_) (fun g => ?_)
    · refine ⟨hn, wide_div hn hn2 (by decide) (by decide), q _ _ Kp.put ⟨_, _, _, upd_same, Int.ediv_nonneg h1 (by omega), ?_, h3, h4, h5, by omega⟩ (Int.emod_nonneg _ (by omega)) (Int.emod_lt_of_pos _ hn)⟩
      have le : a / many ≤ a := Int.ediv_le_self _ h1
      have ge := Int.ediv_nonneg h1 (show 0 ≤ many by omega)
      exact wide_le ge le h2
    · refine ⟨by decide, fun r nr => ?_⟩
      have npr : p ≠ r := fun z => by
        rw [z, upd_same] at nr
        cases nr
      have e2 : ∀ o, upd (upd H p (HO.lst [V.int a, V.int b, V.int (c + 1)])) r o p = some (.lst [V.int a, V.int b, V.int (c + 1)]) := fun o => by rw [upd_ne npr, upd_same]
      simp only [e2, Option.some.injEq, HO.lst.injEq, exists_eq_left']
      walk_at "rd"
      obtain ⟨d, d0, d1, ed⟩ := five (Int.emod_nonneg (c + 1) (by decide : (5 : Int) ≠ 0)) (Int.emod_lt_of_pos (c + 1) (by decide))
      simp only [ed, Option.some.injEq, exists_eq_left', e2, HO.lst.injEq]
      walk_at "rd"
      have t0 : 0 ≤ c + 1 := by omega
      have t1 : c + 1 ≤ 1000000 := by omega
      have t2 : (c + 1) * (c + 1) ≤ 1000000 * 1000000 := Int.mul_le_mul t1 t1 t0 (by decide)
      have t3 : 0 ≤ (c + 1) * (c + 1) := Int.mul_nonneg t0 t0
      have t4 : 99991 * (c + 1) * (c + 1) = 99991 * ((c + 1) * (c + 1)) := Int.mul_assoc _ _ _
      have m0 := Int.emod_nonneg ((b + 99991 * (c + 1) * (c + 1) + 61) ^ Int.toNat 3) (show d ≠ 0 by omega)
      have m1 := Int.emod_lt_of_pos ((b + 99991 * (c + 1) * (c + 1) + 61) ^ Int.toNat 3) d0
      refine ⟨by decide, Or.inl (by decide), Or.inr (by omega), ⟨by decide, by decide, by omega⟩, d0, by decide, Or.inl (by decide), Or.inl (by omega), by decide, ⟨by decide, by decide⟩, hn,
        q _ _ (Kp.trans Kp.put (Kp.new nr)) ⟨_, _, _, e2 _, h1, h2, h3, h4, t0, by omega⟩ (Int.emod_nonneg _ (by omega)) (Int.emod_lt_of_pos _ hn)⟩
def sp_any : Sp := fun vs H Q _ => ∃ (p l : Addr) (xs : List V) (m : Nat), vs = [.ref p, .ref l] ∧ Pot H p m ∧ m < 1000000 ∧ l ≠ p ∧ H l = some (.lst xs) ∧ xs ≠ [] ∧ xs.length < 2 ^ 20 ∧
  ∀ (H' : Hp) (x : V), Kp p H H' → Pot H' p (m + 1) → x ∈ xs → Q x H'
theorem ok_any {f : Addr} {fd : FuncData} (F : Fun K "_law_any" "_law_any" s__law_any f fd) (T : Txt mg) (C__law_draw : Cal P w K mg base 1 "_law_draw" sp_draw) : FnG P w K mg base 2 f fd ["_law_pot_here", "_law_items"] sp_any := by
  refine okG F sc__law_any (fun vs H Q E h => ?_) (fun cdv A outer s H vs Q E hg hr h => ?_)
  · obtain ⟨p, l, xs, m, rfl, _⟩ := h
    rfl
  · obtain ⟨p, l, xs, m, rfl, hp, hm, nlp, e, ne, hz, q⟩ := h
    replace hr := And.intro hg hr
    refine ⟨_, (pss_one (ps_ret (pe_ix ix_v (pv 1) (pe_c C__law_draw hr (by decide) (by rfl) (pa_cons (pv 0) (pa_cons (pe_callB call_lenL (by rfl) T.b_len (by decide +kernel) (pa_cons (pv 1) pa_nil)) pa_nil))) (fun _ _ => rfl)))), ?_⟩
    walk_at "rd"
    simp only [e, Option.some.injEq, HO.lst.injEq, exists_eq_left']
    have pos : 0 < xs.length := List.length_pos_iff.mpr ne
    refine ⟨p, _, m, rfl, hp, hm, by omega, Nat.lt_of_lt_of_le (show ((xs.length : Nat) : Int).natAbs < 2 ^ 20 by simpa using hz) (by decide), fun H1 r k1 p1 r0 r1 => ?_⟩
    have e1 := k1 _ _ nlp e
    obtain ⟨x, hx, mx⟩ := atI_some r0 r1
    exact ⟨_, r, rfl, e1, x, hx, q _ _ k1 p1 mx⟩
end
end Pf

set_option Elab.async false
set_option linter.all false
set_option maxRecDepth 100000
/-! is_number, is_pair, is_ranges, holds -/
namespace Pf
open PySem PySem.Spec PyProof.Rows L2
local macro_rules | `(tactic| walk_at "rd") => `(tactic| simp only [tC1, tCK, tB, rNe, rEq, tChain, gTupV, gCons, gNil, Nat.sub_self, Nat.reduceSub, List.replicate_zero, List.replicate_succ, tTest, tIfS, tIf, tNot, tAnd, tOr, tAndV, tOrV, tNotV, tDrop, tNext, rIxV, rIxP,
  gSub, rSetL, tSl, tPart, tNoPart, rSl1, tAsg2, ipI, tDNewK, tBM, rAppend, wipe, rAllB, rAnyB, iTup, iList, RZ.iZipA, iRng1, iRng2, tYes, upd_same, at0, at1, at2, at20, at21, ixN30, ixN32, HO.lst.injEq, HO.tup.injEq, Nat.reduceAdd, tSeq, tAsg, tPar, tAug, tOp, tVar, tC, tCB, tCons, tNil, rI, rI0, rU, tUn, gName, tRet, tLst, tLstM, tTup, L2.start, List.map_cons, List.map_nil, List.length_cons, List.length_nil, List.replicate, List.cons_append,
  List.nil_append, List.set_cons_zero, List.set_cons_succ, List.getElem?_cons_zero, List.getElem?_cons_succ, Option.some.injEq, V.int.injEq, V.ref.injEq, V.bl.injEq, V.str.injEq, List.cons.injEq, exists_eq_left', exists_eq_left, exists_and_left, exists_and_right, and_true, true_and, reduceCtorEq, false_and,
  exists_false, or_false, false_or, exists_const, exists_eq, exists_eq', Bool.not_true, Bool.not_false, Bool.false_eq_true, if_true, if_false, ite_true, ite_false])
abbrev s_is_number : Stmt := topS 6
theorem sc_is_number : FnScope ["value"] ["value"] (defScope s_is_number) := ⟨rfl, rfl, rfl, by decide +kernel, rfl, by decide +kernel, by decide +kernel⟩
abbrev s_is_ranges : Stmt := topS 8
theorem sc_is_ranges : FnScope ["value", "before", "after", "pair"] ["value"] (defScope s_is_ranges) := ⟨rfl, rfl, rfl, by decide +kernel, rfl, by decide +kernel, by decide +kernel⟩
abbrev s_holds : Stmt := topS 9
theorem sc_holds : FnScope ["ranges", "number", "first", "behind", "middle"] ["ranges", "number"] (defScope s_holds) := ⟨rfl, rfl, rfl, by decide +kernel, rfl, by decide +kernel, by decide +kernel⟩
abbrev s_is_pair : Stmt := topS 15
theorem sc_is_pair : FnScope ["value", "low", "high"] ["value"] (defScope s_is_pair) := ⟨rfl, rfl, rfl, by decide +kernel, rfl, by decide +kernel, by decide +kernel⟩
section
variable {base : Heap} {P : Program} {w : World} {mg : Str → Option Value} {K : PySem.W.Frag}
def sp_number : Sp := fun vs H Q _ => ∃ v d b p, vs = [v] ∧ Dq b p H v d ∧ Q (.bl (isNumD d)) H
theorem ok_number {f : Addr} {fd : FuncData} (F : Fun K "is_number" "is_number" s_is_number f fd) (T : Txt mg) : FnG P w K mg base 1 f fd ["value"] sp_number := by
  refine okG F sc_is_number (fun vs H Q E h => ?_) (fun cdv A outer s H vs Q E hg hr h => ?_)
  · obtain ⟨v, d, b, p, rfl, _⟩ := h
    rfl
  · obtain ⟨v, d, b, p, rfl, hd, q⟩ := h
    refine ⟨_, (pss_one (ps_ret (pe_and (pe_callB call_isiInt (by rfl) T.b_isinstance (by decide +kernel) (pa_cons (pv 0) (pa_cons (pe_bltn (v := .ty "int") (u := .type "int") (by rfl) T.b_int (by decide +kernel) rfl) pa_nil))) (pe_one (pe_not (pe_callB call_isiBool (by rfl) T.b_isinstance (by decide +kernel) (pa_cons (pv 0) (pa_cons (pe_bltn (v := .ty "bool") (u := .type "bool") (by rfl) T.b_bool (by decide +kernel) rfl) pa_nil)))))))), ?_⟩
    walk_at "rd"
    refine ⟨d, ⟨b, p, hd⟩, ?_⟩
    cases d with
    | int i => exact ⟨.int i, ⟨b, p, hd⟩, q⟩
    | bool i => exact ⟨.bool i, ⟨b, p, hd⟩, q⟩
    | none => exact q
    | str x => exact q
    | list x => exact q
    | tuple x => exact q
    | dict x => exact q
def sp_pair : Sp := fun vs H Q _ => ∃ v d b p, vs = [v] ∧ Dq b p H v d ∧ Q (.bl (isPairD d)) H
theorem ok_pair {f : Addr} {fd : FuncData} (F : Fun K "is_pair" "is_pair" s_is_pair f fd) (T : Txt mg) (C_is_number : Cal P w K mg base 1 "is_number" sp_number) : FnG P w K mg base 2 f fd ["value"] sp_pair := by
  refine okG F sc_is_pair (fun vs H Q E h => ?_) (fun cdv A outer s H vs Q E hg hr h => ?_)
  · obtain ⟨v, d, b, p, rfl, _⟩ := h
    rfl
  · obtain ⟨v, d, b, p, rfl, hd, q⟩ := h
    replace hr := And.intro hg hr
    refine ⟨_, (pss_cons (ps_if (PW.pt (pw_or (pt_not (pt_val (pe_callB call_isiTup (by rfl) T.b_isinstance (by decide +kernel) (pa_cons (pv 0) (pa_cons (pe_bltn (v := .ty "tuple") (u := .type "tuple") (by rfl) T.b_tuple (by decide +kernel) rfl) pa_nil))))) (pw_or1 (pt_cmpR op_ne (pe_callB call_lenT (by rfl) T.b_len (by decide +kernel) (pa_cons (pv 0) pa_nil)) pe_int (nomark _))))) (pss_one (ps_ret pe_bl)) pss_nil)
        (pss_cons (ps_asg (pv 0) (pg_tupV (n := 2) rfl (pgs_cons (pg_name (i := 1) sc_is_pair.nd rfl (Or.inl rfl)) (pgs_cons (pg_name (i := 2) sc_is_pair.nd rfl (Or.inl rfl)) pgs_nil))))
        (pss_one (ps_ret (pe_and (pe_c C_is_number hr (by decide) (by rfl) (pa_cons (pv 1) pa_nil)) (pe_and (pe_c C_is_number hr (by decide) (by rfl) (pa_cons (pv 2) pa_nil)) (pe_one (pe_cmpR op_le (pv 1) (pv 2) (nomark _))))))))), ?_⟩
    walk_at "rd"
    refine ⟨d, ⟨b, p, hd⟩, ?_⟩
    cases hd with
    | @tup a xs ds g ne ha =>
      show if (!true) = true then _ else _
      refine iteF ?_
      simp only [g, Option.some.injEq, HO.tup.injEq, exists_eq_left', V.ref.injEq]
      refine ⟨rfl, ?_⟩
      have none2 : ds.length ≠ 2 → isPairD (.tuple ds) = false := fun n => by
        unfold isPairD
        rw [pairOf_len n]
      rw [← ha.length] at none2
      by_cases n : xs.length = 2
      · rw [if_neg (by simp [n])]
        cases ha with
        | nil => cases n
        | cons h1 t1 =>
          cases t1 with
          | nil => cases n
          | cons h2 t2 =>
            cases t2 with
            | cons _ _ => simp at n
            | nil =>
              rename_i v d w e
              refine ⟨rfl, v, [w], rfl, w, [], rfl, rfl, v, d, b, p, rfl, h1, _, rfl, ?_⟩
              cases h1 with
              | int i =>
                refine iteT ⟨w, e, b, p, rfl, h2, _, rfl, ?_⟩
                cases h2 with
                | int j => exact iteT ⟨i, rfl, j, rfl, q⟩
                | non => exact iteF q
                | bl x => exact iteF q
                | str x => exact iteF q
                | lst g _ _ _ => exact iteF q
                | tup g _ _ => exact iteF q
                | dc0 _ g _ => exact iteF q
                | dc1 _ g _ _ => exact iteF q
              | non => exact iteF q
              | bl x => exact iteF q
              | str x => exact iteF q
              | lst g _ _ _ => exact iteF q
              | tup g _ _ => exact iteF q
              | dc0 _ g _ => exact iteF q
              | dc1 _ g _ _ => exact iteF q
      · rw [none2 n] at q
        rw [if_pos (by rw [decide_eq_false (fun z => n (by omega))]; rfl)]
        exact q
    | non => exact q
    | bl x => exact q
    | int x => exact q
    | str x => exact q
    | lst g _ _ _ => exact q
    | dc0 _ g _ => exact q
    | dc1 _ g _ _ => exact q
def sp_ranges : Sp := fun vs H Q _ => ∃ v d b p, vs = [v] ∧ Dq b p H v d ∧ (∀ ds, d = .tuple ds → ds.length ≤ 1000) ∧ ∀ H', Same H H' → Q (.bl (isRangesD d)) H'
theorem ok_ranges {f : Addr} {fd : FuncData} (F : Fun K "is_ranges" "is_ranges" s_is_ranges f fd) (T : Txt mg) (C_is_pair : Cal P w K mg base 2 "is_pair" sp_pair) : FnG P w K mg base 3 f fd ["value"] sp_ranges := by
  refine okG F sc_is_ranges (fun vs H Q E h => ?_) (fun cdv A outer s H vs Q E hg hr h => ?_)
  · obtain ⟨v, d, b, p, rfl, _⟩ := h
    rfl
  · obtain ⟨v, d, b, p, rfl, hd, hz, q⟩ := h
    replace hr := And.intro hg hr
    refine ⟨_, (pss_cons (ps_if (PW.pt (pw_or (pt_not (pt_val (pe_callB call_isiTup (by rfl) T.b_isinstance (by decide +kernel) (pa_cons (pv 0) (pa_cons (pe_bltn (v := .ty "tuple") (u := .type "tuple") (by rfl) T.b_tuple (by decide +kernel) rfl) pa_nil))))) (pw_or1 (pt_not (pt_val (pe_callB (call_allB rfl) (by rfl) T.b_all (by decide +kernel) (pa_cons (pe_lc (own := [("pair", 3)]) (g := gName 3) (tt := tYes) rfl sc_is_ranges.nd (pi_tup (pv 0)) (blkOk_by (own := [("pair", 3)]) (N := ["value", "before", "after", "pair"]) (sc := defScope s_is_ranges) (by decide +kernel)) (fun _ _ _ _ _ => (pg_name (i := 3) sc_is_ranges.nd rfl (Or.inl rfl))) (fun _ _ _ _ _ => pts_nil) (fun _ _ _ _ _ => (pe_c C_is_pair hr (by decide) (by rfl) (pa_cons (pv 3) pa_nil)))) pa_nil))))))) (pss_one (ps_ret pe_bl)) pss_nil)
        (pss_one (ps_ret (pe_callB (call_allB rfl) (by rfl) T.b_all (by decide +kernel) (pa_cons (pe_lc (own := [("before", 1), ("after", 2)]) (g := gTupV 2 (gCons (gName 1) (gCons (gName 2) gNil))) (tt := tYes) rfl sc_is_ranges.nd (RZ.pi_zipA (by rfl) T.b_zip (pa_cons (pv 0) (pa_cons (pe_slice sl_one (pv 0) (po_some pe_int) po_none) pa_nil))) (blkOk_by (own := [("before", 1), ("after", 2)]) (N := ["value", "before", "after", "pair"]) (sc := defScope s_is_ranges) (by decide +kernel)) (fun _ _ _ _ _ => (pg_tupV (n := 2) rfl (pgs_cons (pg_name (i := 1) sc_is_ranges.nd rfl (Or.inl rfl)) (pgs_cons (pg_name (i := 2) sc_is_ranges.nd rfl (Or.inl rfl)) pgs_nil)))) (fun _ _ _ _ _ => pts_nil) (fun _ _ _ _ _ => (pe_cmpR op_le (pe_op op_add (pe_ix ix_t (pv 1) pe_int (fun _ _ => rfl)) pe_int) (pe_ix ix_t (pv 2) pe_int (fun _ _ => rfl)) (nomark _)))) pa_nil))))), ?_⟩
    walk_at "rd"
    refine ⟨d, ⟨b, p, hd⟩, ?_⟩
    cases hd with
    | @tup a xs ds g ne ha =>
      refine iteF ?_
      have len := ha.length
      have small := hz ds rfl
      have big : (1000 : Nat) ≤ sizeLine := by decide
      refine ⟨.ref a, rfl, a, rfl, ⟨xs, SqT.of g⟩, lcMap (walk_tup (xs := xs)) ((ds.map isPairD).map V.bl) (by simp [len]) (by omega) (fun H1 s1 => s1.seqT (SqT.of g)) (fun i x H1 H2 y R ho s1 hy kk => ?_) (fun H1 D hD s1 hL => ?_)⟩
      · obtain ⟨rfl, hx⟩ := hy
        obtain ⟨e, he, hq⟩ := ha.get hx
        have ey : y = .bl (isPairD e) := by
          rw [List.getElem?_map, List.getElem?_map, he] at ho
          exact (Option.some.inj ho).symm
        subst ey
        refine ⟨rfl, ?_⟩
        walk_at "rd"
        exact ⟨x, e, b, p, rfl, hq.same s1, kk _ (Same.refl _)⟩
      · refine ⟨D, rfl, ds.map isPairD, hL, ?_⟩
        have ea : (ds.map isPairD).all id = ds.all isPairD := by rw [List.all_map]; rfl
        rw [ea]
        have ha1 := ha.same s1
        cases al : ds.all isPairD with
        | false =>
          have er : isRangesD (.tuple ds) = false := by show (ds.all isPairD && (stepsD ds).all id) = _; rw [al]; rfl
          rw [er] at q
          exact iteT (q _ s1)
        | true =>
          have er : isRangesD (.tuple ds) = (stepsD ds).all id := by show (ds.all isPairD && (stepsD ds).all id) = _; rw [al]; rfl
          rw [er] at q
          refine iteF ?_
          refine ⟨.ref a, rfl, .ref a, rfl, 1, rfl, a, xs, rfl, rfl, rfl, s1 _ _ g, fun H2 c s2 hc => ?_⟩
          refine ⟨a, c, xs, xs.drop 1, rfl, .inr ⟨SqT.of (s2 _ _ (s1 _ _ g)), SqT.of hc, lcMap (walk_zipT rfl) ((stepsD ds).map V.bl) (by rw [List.length_map, stepsD_len, List.length_drop, len]; omega) (by rw [List.length_drop]; omega)
            (fun H3 s3 => ⟨s3.seqT (SqT.of (s2 _ _ (s1 _ _ g))), s3.seqT (SqT.of hc)⟩) (fun i x H3 H4 y R ho s3 hy kk => ?_) (fun H3 D2 hD2 s3 hL2 => ?_)⟩⟩
          · obtain ⟨T2, x1, x2, rfl, nT, rfl, g1, g2⟩ := hy
            have g2' : xs[i + 1]? = some x2 := by
              replace g2 : (xs.drop 1)[i]? = some x2 := g2
              rw [List.getElem?_drop, Nat.add_comm] at g2
              exact g2
            obtain ⟨d1, e1, q1⟩ := ha1.get g1
            obtain ⟨d2, e2, q2⟩ := ha1.get g2'
            obtain ⟨l1, h1, p1⟩ := pair_of al e1
            obtain ⟨l2, h2, p2⟩ := pair_of al e2
            have s23 : Same H1 (upd H3 T2 (.tup [x1, x2])) := (s2.trans s3).trans (new_same nT)
            obtain ⟨t1, rfl, u1⟩ := (q1.same s23).pair p1
            obtain ⟨t2, rfl, u2⟩ := (q2.same s23).pair p2
            have ey : y = .bl (decide (h1 + 2 ≤ l2)) := by
              rw [List.getElem?_map, stepsD_get e1 e2] at ho
              have := (Option.some.inj ho).symm
              rw [this]
              unfold stepD
              rw [p1, p2]
            subst ey
            refine ⟨T2, _, rfl, upd_same, rfl, _, _, rfl, _, _, rfl, rfl, rfl, ?_⟩
            walk_at "rd"
            simp only [u1, u2, Option.some.injEq, HO.tup.injEq, exists_eq_left']
            walk_at "rd"
            exact kk _ (new_same nT)
          · exact ⟨D2, rfl, stepsD ds, hL2, q _ ((s1.trans s2).trans s3)⟩
    | non => exact iteT (q _ (Same.refl _))
    | bl x => exact iteT (q _ (Same.refl _))
    | int x => exact iteT (q _ (Same.refl _))
    | str x => exact iteT (q _ (Same.refl _))
    | lst g _ _ _ => exact iteT (q _ (Same.refl _))
    | dc0 _ g _ => exact iteT (q _ (Same.refl _))
    | dc1 _ g _ _ => exact iteT (q _ (Same.refl _))
def sp_holds : Sp := fun vs H Q _ => ∃ (a : Addr) (ds : List PyData) (b : Bool) (p : Addr) (n : Int), vs = [.ref a, .int n] ∧ Dq b p H (.ref a) (.tuple ds) ∧ isRangesD (.tuple ds) = true ∧ ds.length ≤ 1000 ∧ Q (.bl (inD ds n)) H
theorem ok_holds {f : Addr} {fd : FuncData} (F : Fun K "holds" "holds" s_holds f fd) (T : Txt mg) : FnG P w K mg base 1 f fd ["ranges", "number"] sp_holds := by
  refine okG F sc_holds (fun vs H Q E h => ?_) (fun cdv A outer s H vs Q E hg hr h => ?_)
  · obtain ⟨a, ds, b, p, n, rfl, _⟩ := h
    rfl
  · obtain ⟨a, ds, b, p, n, rfl, hd, hR, hz, q⟩ := h
    have R := rgs_of hR
    refine ⟨_, (pss_cons (ps_par (i := 2) (j := 3) (by rfl) sc_holds.nd rfl rfl (by decide) rfl rfl (pa_cons pe_int (pa_cons (pe_callB call_lenT (by rfl) T.b_len (by decide +kernel) (pa_cons (pv 0) pa_nil)) pa_nil)) (by rfl))
        (pss_cons (ps_while PassesOwn.never (pt_cmpR op_lt (pv 2) (pv 3) (nomark _)) (pss_cons (ps_set (i := 4) sc_holds.nd rfl (Or.inl rfl) (pe_op op_fdivW (pe_op op_add (pv 2) (pv 3)) pe_int))
        (pss_one (ps_if (pt_cmpR op_lt (pe_ix ix_t (pe_ix ix_t (pv 0) (pv 4) (fun _ _ => rfl)) pe_int (fun _ _ => rfl)) (pv 1) (nomark _)) (pss_one (ps_set (i := 2) sc_holds.nd rfl (Or.inl rfl) (pe_op op_add (pv 4) pe_int))) (pss_one (ps_set (i := 3) sc_holds.nd rfl (Or.inl rfl) (pv 4)))))))
        (pss_one (ps_ret (pe_and (pe_cmpR op_lt (pv 2) (pe_callB call_lenT (by rfl) T.b_len (by decide +kernel) (pa_cons (pv 0) pa_nil)) (nomark _)) (pe_one (pe_cmpR op_le (pe_ix ix_t (pe_ix ix_t (pv 0) (pv 2) (fun _ _ => rfl)) pe_int (fun _ _ => rfl)) (pv 1) (nomark _)))))))), ?_⟩
    cases hd with
    | @tup a xs ds g ne ha =>
    have len := ha.length
    have item : ∀ i : Nat, i < ds.length → ∃ t, atI xs (i : Int) = some (.ref t) ∧ H t = some (.tup [.int (loD (ds.getD i .none)), .int (hiD (ds.getD i .none))]) := fun i hi => by
      have hx : xs[i]? = some xs[i] := List.getElem?_eq_getElem (by omega)
      obtain ⟨d, e1, e2⟩ := ha.get hx
      rw [getD_at hi] at e1
      cases e1
      obtain ⟨t, e3, e4⟩ := e2.pair (R.pr i hi)
      exact ⟨t, atI_nat (by rw [hx, e3]), e4⟩
    walk_at "rd"
    simp only [g, Option.some.injEq, HO.tup.injEq, exists_eq_left']
    refine ⟨_, _, ⟨rfl, rfl⟩, while_by (fun σ H' => H' = H ∧ ∃ (x y : Nat) (m : Option V), σ = [some (.ref a), some (.int n), some (.int x), some (.int y), m] ∧ x ≤ y ∧ y ≤ ds.length ∧ (∀ i, i < x → hiD (ds.getD i .none) < n) ∧ (∀ i, y ≤ i → i < ds.length → n ≤ hiD (ds.getD i .none)))
      (fun σ _ => gap σ) ⟨rfl, 0, ds.length, none, by rw [len]; rfl, Nat.zero_le _, Nat.le_refl _, fun i hi => absurd hi (Nat.not_lt_zero _), fun i h1 h2 => absurd h2 (by omega)⟩ ?_
      (fun σ H Q Q' hq ⟨v, e1, w, e2, i, j, e3, e4, k, e5, r⟩ => ⟨v, e1, w, e2, i, j, e3, e4, k, e5, hq _ _ r⟩)⟩
    rintro σ H' ⟨rfl, x, y, m, rfl, hxy, hy, b1, b2⟩
    walk_at "rd"
    by_cases lt : x < y
    · have lt' : decide ((x : Int) < (y : Int)) = true := decide_eq_true (by omega)
      rw [if_pos lt']
      have em : ((x : Int) + (y : Int)) / 2 = (((x + y) / 2 : Nat) : Int) := by omega
      rw [em]
      have hm1 : (x + y) / 2 < ds.length := by omega
      obtain ⟨t, it, et⟩ := item _ hm1
      refine ⟨⟨by decide, by decide⟩, xs, g, _, it, _, rfl, _, et, _, rfl, _, rfl, ?_⟩
      by_cases c : hiD (ds.getD ((x + y) / 2) .none) < n
      · rw [if_pos (decide_eq_true c)]
        refine ⟨⟨(x + y) / 2 + 1, y, ⟨rfl, rfl⟩, by omega, hy, fun i hi => ?_, b2⟩, ?_⟩
        · have := (R.up ((x + y) / 2) i (by omega) hm1).2
          omega
        · show (((y : Int) - (((x + y) / 2 : Nat) + 1 : Int)).toNat) < ((y : Int) - (x : Int)).toNat
          omega
      · rw [if_neg (fun z => c (of_decide_eq_true z))]
        refine ⟨⟨x, (x + y) / 2, ⟨rfl, rfl⟩, by omega, by omega, b1, fun i h1 h2 => ?_⟩, ?_⟩
        · have := (R.up i ((x + y) / 2) h1 h2).2
          omega
        · show ((((x + y) / 2 : Nat) : Int) - (x : Int)).toNat < ((y : Int) - (x : Int)).toNat
          omega
    · have lt' : ¬ decide ((x : Int) < (y : Int)) = true := fun z => lt (by have := of_decide_eq_true z; omega)
      rw [if_neg lt']
      have exy : x = y := by omega
      subst exy
      have fd := R.find (n := n) hy b1 b2
      rw [fd] at q
      simp only [g, Option.some.injEq, HO.tup.injEq, exists_eq_left']
      by_cases c : x < ds.length
      · rw [decide_eq_true c, Bool.true_and] at q
        obtain ⟨t, it, et⟩ := item _ c
        rw [if_pos (decide_eq_true (by omega))]
        refine ⟨_, it, _, rfl, _, et, _, rfl, _, rfl, q⟩
      · rw [decide_eq_false c, Bool.false_and] at q
        rw [if_neg (fun z => c (by have := of_decide_eq_true z; omega))]
        exact q
end
end Pf

set_option Elab.async false
set_option linter.all false
set_option maxRecDepth 100000
/-! Values that are range sets, told by what is in them. -/
namespace Pf
open PySem PySem.Spec PyProof.Rows L2
/-- v is a range set of at most L pairs: the numbers p -/
def IsSet (H : Hp) (v : V) (L : Nat) (p : Int → Prop) : Prop := ∃ t rs, v = .ref t ∧ SetAt H t rs ∧ Rng.Rg rs ∧ rs.length ≤ L ∧ ∀ n, Rng.In n rs ↔ p n
theorem SetAt.tk {H H' : Hp} {a : Addr} {ps : List (Int × Int)} (h : SetAt H a ps) (k : TK H H') : SetAt H' a ps := by
  obtain ⟨xs, e, p⟩ := h
  exact ⟨xs, k _ _ e, p.tk k⟩
theorem IsSet.tk {H H' : Hp} {v : V} {L : Nat} {p : Int → Prop} (h : IsSet H v L p) (k : TK H H') : IsSet H' v L p := by
  obtain ⟨t, rs, e, s, r⟩ := h
  exact ⟨t, rs, e, s.tk k, r⟩
theorem IsSet.same {H H' : Hp} {v : V} {L : Nat} {p : Int → Prop} (h : IsSet H v L p) (k : Same H H') : IsSet H' v L p := h.tk (TK.of k)
theorem IsSet.up {H : Hp} {v : V} {L L' : Nat} {p : Int → Prop} (h : IsSet H v L p) (k : L ≤ L') : IsSet H v L' p := by
  obtain ⟨t, rs, e, s, r, l, i⟩ := h
  exact ⟨t, rs, e, s, r, Nat.le_trans l k, i⟩
theorem rg_ord {rs : List (Int × Int)} (h : Rng.Rg rs) : ∀ q ∈ rs, q.1 ≤ q.2 := by
  obtain ⟨k, f⟩ := h
  exact fun q m => (from_le f q m).2
/-! ### the program's functions, so told -/
def SumP (p : Int → Prop) : Nat → Int → Prop
  | 0, n => n = 0
  | k + 1, n => ∃ i j, SumP p k i ∧ p j ∧ n = i + j
theorem both_is {H : Hp} {x y : V} {L M : Nat} {p q : Int → Prop} {Q : VK} (hx : IsSet H x L p) (hy : IsSet H y M q) (hL : L ≤ 40000) (hM : M ≤ 40000)
    (k : ∀ H' v, Same H H' → IsSet H' v (L + M) (fun n => p n ∧ q n) → Q v H') : sp_both [x, y] H Q noErr := by
  obtain ⟨a, ps, rfl, s1, ⟨k1, f1⟩, l1, i1⟩ := hx
  obtain ⟨b, qs, rfl, s2, ⟨k2, f2⟩, l2, i2⟩ := hy
  refine ⟨a, b, ps, qs, rfl, s1, s2, by omega, by omega, fun H' t s st => k H' _ s ⟨t, _, rfl, st, ⟨_, Rng.both_from ps qs k1 k2 f1 f2⟩, ?_, fun n => ?_⟩⟩
  · have := both_len ps qs
    omega
  · rw [Rng.both_in n ps qs k1 k2 f1 f2, i1, i2]
theorem either_is {H : Hp} {x y : V} {L M : Nat} {p q : Int → Prop} {Q : VK} (hx : IsSet H x L p) (hy : IsSet H y M q) (hL : L ≤ 40000) (hM : M ≤ 40000)
    (k : ∀ H' v, Same H H' → IsSet H' v (L + M) (fun n => p n ∨ q n) → Q v H') : sp_either [x, y] H Q noErr := by
  obtain ⟨a, ps, rfl, s1, r1, l1, i1⟩ := hx
  obtain ⟨b, qs, rfl, s2, r2, l2, i2⟩ := hy
  refine ⟨a, b, ps, qs, rfl, s1, s2, by omega, by omega, rg_ord r1, rg_ord r2, fun H' t rs s st rg inn len => k H' _ s ⟨t, _, rfl, st, rg, by omega, fun n => ?_⟩⟩
  rw [inn, i1, i2]
theorem from_last2 : ∀ {k : Int} {ps : List (Int × Int)} {z : Int × Int}, Rng.From k ps → ps.getLast? = some z → ∀ n, Rng.In n ps → n ≤ z.2 := fun {k ps z} f h n i => by
  obtain ⟨q, m, _, i2⟩ := i
  have hp : ps.length - 1 < ps.length := by
    have := List.length_pos_of_mem m
    omega
  have t := last_top hp f q m
  rw [List.getLast?_eq_getElem?, List.getElem?_eq_getElem hp] at h
  rw [Option.some.inj h] at t
  omega
theorem without_spec {ps qs : List (Int × Int)} (h : Rng.Rg ps) (g : Rng.Rg qs) : Rng.Rg (withoutM ps qs) ∧ (∀ n, Rng.In n (withoutM ps qs) ↔ Rng.In n ps ∧ ¬ Rng.In n qs) ∧ (withoutM ps qs).length ≤ ps.length + qs.length + 2 := by
  obtain ⟨k, h⟩ := h
  obtain ⟨j, g⟩ := g
  unfold withoutM
  cases ps with
  | nil => exact ⟨⟨0, trivial⟩, fun n => ⟨fun z => (Rng.In.nil z).elim, fun z => (Rng.In.nil z.1).elim⟩, Nat.zero_le _⟩
  | cons q r =>
    obtain ⟨z, hz⟩ : ∃ z, (q :: r).getLast? = some z := by
      rw [List.getLast?_eq_getElem?, List.getElem?_eq_getElem (by simp)]
      exact ⟨_, rfl⟩
    rw [hz]
    show Rng.Rg (Rng.both (q :: r) (Rng.holes q.1 z.2 (Rng.both qs [(q.1, z.2)]))) ∧ (∀ n, Rng.In n (Rng.both (q :: r) (Rng.holes q.1 z.2 (Rng.both qs [(q.1, z.2)]))) ↔ _) ∧ (Rng.both (q :: r) (Rng.holes q.1 z.2 (Rng.both qs [(q.1, z.2)]))).length ≤ _
    have up := from_last2 h hz
    have qz : q.1 ≤ z.2 := up q.1 (Rng.In.cons.mpr (Or.inl ⟨Int.le_refl _, h.2.1⟩))
    have one : Rng.From q.1 [(q.1, z.2)] := ⟨Int.le_refl _, qz, trivial⟩
    have inner := fun n => Rng.both_in n qs [(q.1, z.2)] j q.1 g one
    obtain ⟨f1, f2⟩ := Rng.holes_spec z.2 (Rng.both qs [(q.1, z.2)]) q.1 ((Rng.both_from qs [(q.1, z.2)] j q.1 g one).down (by omega)) fun n i => by
      obtain ⟨x, xm, x1, x2⟩ := ((inner n).mp i).2
      rw [List.mem_singleton.mp xm] at x2
      exact x2
    have low : ∀ n, Rng.In n (q :: r) → q.1 ≤ n := fun n i => by
      rcases Rng.In.cons.mp i with i | i
      · exact i.1
      · have := h.2.2.ge i
        have := h.2.1
        omega
    refine ⟨⟨_, Rng.both_from _ _ _ _ h f1⟩, fun n => ?_, ?_⟩
    · rw [Rng.both_in n _ _ _ _ h f1, f2, inner]
      constructor
      · rintro ⟨a, b, c⟩
        exact ⟨a, fun d => c ⟨d, (q.1, z.2), List.mem_singleton.mpr rfl, low n a, up n a⟩⟩
      · rintro ⟨a, b⟩
        exact ⟨a, ⟨low n a, up n a⟩, fun c => b c.1⟩
    · have l1 := both_len (q :: r) (Rng.holes q.1 z.2 (Rng.both qs [(q.1, z.2)]))
      have l2 := holes_len z.2 (Rng.both qs [(q.1, z.2)]) q.1
      have l3 := both_len qs [(q.1, z.2)]
      simp only [List.length_cons, List.length_nil] at l1 l2 l3 ⊢
      omega
theorem without_is {H : Hp} {x y : V} {L M : Nat} {p q : Int → Prop} {Q : VK} (hx : IsSet H x L p) (hy : IsSet H y M q) (hL : L ≤ 40000) (hM : M ≤ 40000)
    (k : ∀ H' v, Same H H' → IsSet H' v (L + M + 2) (fun n => p n ∧ ¬ q n) → Q v H') : sp_without [x, y] H Q noErr := by
  obtain ⟨a, ps, rfl, s1, r1, l1, i1⟩ := hx
  obtain ⟨b, qs, rfl, s2, r2, l2, i2⟩ := hy
  obtain ⟨w1, w2, w3⟩ := without_spec r1 r2
  refine ⟨a, b, ps, qs, rfl, s1, s2, by omega, by omega, fun H' t s st => k H' _ s ⟨t, _, rfl, st, w1, by omega, fun n => ?_⟩⟩
  rw [w2, i1, i2]
theorem added_is {H : Hp} {x y : V} {L M : Nat} {p q : Int → Prop} {Q : VK} (hx : IsSet H x L p) (hy : IsSet H y M q) (hLM : L * M ≤ 40000) (hL : L ≤ 40000) (hM : M ≤ 40000)
    (k : ∀ H' v, Same H H' → IsSet H' v (L * M) (fun n => ∃ i j, p i ∧ q j ∧ n = i + j) → Q v H') : sp_added [x, y] H Q noErr := by
  obtain ⟨a, ps, rfl, s1, r1, l1, i1⟩ := hx
  obtain ⟨b, qs, rfl, s2, r2, l2, i2⟩ := hy
  have lm : ps.length * qs.length ≤ L * M := Nat.mul_le_mul l1 l2
  refine ⟨a, b, ps, qs, rfl, s1, s2, r1, r2, by omega, by omega, by omega, fun H' t rs s st rg inn len => k H' _ s ⟨t, _, rfl, st, rg, by omega, fun n => ?_⟩⟩
  rw [inn]
  constructor
  · rintro ⟨i, j, h1, h2, h3⟩
    exact ⟨i, j, (i1 i).mp h1, (i2 j).mp h2, h3⟩
  · rintro ⟨i, j, h1, h2, h3⟩
    exact ⟨i, j, (i1 i).mpr h1, (i2 j).mpr h2, h3⟩
theorem sums_is {H : Hp} {x : V} {L m : Nat} {z : Int} {p : Int → Prop} {Q : VK} (hz : z = (m : Int)) (hx : IsSet H x L p) (hLm : L ^ m ≤ 40000) (hL : L ≤ 40000) (hm : m ≤ 100)
    (k : ∀ H' v, Same H H' → IsSet H' v (L ^ m) (SumP p m) → Q v H') : sp_sums [x, .int z] H Q noErr := by
  obtain ⟨a, ps, rfl, s1, r1, l1, i1⟩ := hx
  subst hz
  have lm : ps.length ^ m ≤ L ^ m := Nat.pow_le_pow_left l1 m
  refine ⟨a, ps, m, rfl, s1, r1, by omega, by omega, hm, fun H' t rs s st rg inn len => k H' _ s ⟨t, _, rfl, st, rg, by omega, fun n => ?_⟩⟩
  rw [inn]
  have e : ∀ (m : Nat) (n : Int), SumM ps m n ↔ SumP p m n := by
    intro m
    induction m with
    | zero => exact fun n => Iff.rfl
    | succ m ih =>
      intro n
      constructor
      · rintro ⟨i, j, h1, h2, h3⟩
        exact ⟨i, j, (ih i).mp h1, (i1 j).mp h2, h3⟩
      · rintro ⟨i, j, h1, h2, h3⟩
        exact ⟨i, j, (ih i).mpr h1, (i1 j).mpr h2, h3⟩
  exact e m n
theorem empty_is {H : Hp} {t : Addr} (h : H t = some (.tup [])) : IsSet H (.ref t) 0 (fun _ => False) := ⟨t, [], rfl, ⟨[], h, .nil⟩, ⟨0, trivial⟩, Nat.le_refl _, fun n => ⟨fun z => Rng.In.nil z, fun z => z.elim⟩⟩
theorem zero_is {H : Hp} {t u : Addr} (h : H t = some (.tup [.ref u])) (g : H u = some (.tup [.int 0, .int 0])) : IsSet H (.ref t) 1 (fun n => n = 0) :=
  ⟨t, [(0, 0)], rfl, ⟨[.ref u], h, .cons ⟨u, rfl, g⟩ .nil⟩, ⟨0, Int.le_refl _, Int.le_refl _, trivial⟩, Nat.le_refl _, fun n => by
    constructor
    · intro z
      rcases Rng.In.cons.mp z with z | z
      · have z1 : (0 : Int) ≤ n := z.1
        have z2 : n ≤ (0 : Int) := z.2
        omega
      · exact (Rng.In.nil z).elim
    · intro z
      rw [z]
      exact Rng.In.cons.mpr (Or.inl ⟨Int.le_refl _, Int.le_refl _⟩)⟩
/-! ### looks -/
theorem isRanges_rg : ∀ {rs : List (Int × Int)}, Rng.Rg rs → isRangesD (.tuple (rs.map prD)) = true := by
  have go : ∀ (rs : List (Int × Int)) (k : Int), Rng.From k rs → (rs.map prD).all isPairD = true ∧ (stepsD (rs.map prD)).all id = true := by
    intro rs
    induction rs with
    | nil => exact fun _ _ => ⟨rfl, rfl⟩
    | cons q r ih =>
      intro k f
      obtain ⟨i1, i2⟩ := ih _ f.2.2
      have p1 : isPairD (prD q) = true := by
        unfold isPairD
        rw [pairOf_pr]
        exact decide_eq_true f.2.1
      refine ⟨by rw [List.map_cons, List.all_cons, p1, i1]; rfl, ?_⟩
      cases r with
      | nil => rfl
      | cons z s =>
        have st : stepD (prD q) (prD z) = true := by
          unfold stepD
          rw [pairOf_pr, pairOf_pr]
          exact decide_eq_true f.2.2.1
        show (stepD (prD q) (prD z) :: stepsD (prD z :: s.map prD)).all id = true
        rw [List.all_cons]
        have i2' : (stepsD (prD z :: s.map prD)).all id = true := i2
        rw [i2', st]
        rfl
  intro rs h
  obtain ⟨k, f⟩ := h
  obtain ⟨h1, h2⟩ := go rs k f
  show ((rs.map prD).all isPairD && (stepsD (rs.map prD)).all id) = true
  rw [h1, h2]
  rfl
theorem IsSet.dq {H : Hp} {v : V} {L : Nat} {p : Int → Prop} {a : Addr} {ys : List V} (h : IsSet H v L p) (e : H a = some (.lst ys)) : ∃ rs, Dq false a H v (.tuple (rs.map prD)) ∧ Rng.Rg rs ∧ rs.length ≤ L ∧ ∀ n, Rng.In n rs ↔ p n := by
  obtain ⟨t, rs, rfl, ⟨xs, g1, g2⟩, r, l, i⟩ := h
  exact ⟨rs, .tup g1 (fun z => by rw [z, e] at g1; cases g1) (PrAll.dq e g2), r, l, i⟩
theorem inD_prs {rs : List (Int × Int)} {n : Int} : inD (rs.map prD) n = true ↔ Rng.In n rs := by
  unfold inD Rng.In
  rw [List.any_map, List.any_eq_true]
  constructor
  · rintro ⟨q, m, h⟩
    have h' : (decide (q.1 ≤ n) && decide (n ≤ q.2)) = true := h
    obtain ⟨a, b⟩ := Bool.and_eq_true_iff.mp h'
    exact ⟨q, m, of_decide_eq_true a, of_decide_eq_true b⟩
  · rintro ⟨q, m, a, b⟩
    refine ⟨q, m, ?_⟩
    show (decide (q.1 ≤ n) && decide (n ≤ q.2)) = true
    rw [decide_eq_true a, decide_eq_true b]
    rfl
open Classical in
theorem holds_is {H : Hp} {x : V} {L : Nat} {p : Int → Prop} {n : Int} {Q : VK} {a : Addr} {ys : List V} (hx : IsSet H x L p) (hL : L ≤ 1000) (e : H a = some (.lst ys)) (k : Q (.bl (decide (p n))) H) : sp_holds [x, .int n] H Q noErr := by
  obtain ⟨rs, d, rg, l, i⟩ := hx.dq e
  obtain ⟨t, rs2, rfl, _⟩ := hx
  refine ⟨t, rs.map prD, false, a, n, rfl, d, isRanges_rg rg, by rw [List.length_map]; omega, ?_⟩
  have ee : inD (rs.map prD) n = decide (p n) := by
    rw [Bool.eq_iff_iff, inD_prs, decide_eq_true_eq, i]
  rw [ee]
  exact k
theorem ranges_is {H : Hp} {x : V} {L : Nat} {p : Int → Prop} {Q : VK} {a : Addr} {ys : List V} (hx : IsSet H x L p) (hL : L ≤ 1000) (e : H a = some (.lst ys)) (k : ∀ H', Same H H' → Q (.bl true) H') : sp_ranges [x] H Q noErr := by
  obtain ⟨rs, d, rg, l, i⟩ := hx.dq e
  refine ⟨x, _, false, a, rfl, d, fun ds z => ?_, fun H' s => ?_⟩
  · cases z
    rw [List.length_map]
    omega
  · rw [isRanges_rg rg]
    exact k H' s
/-! ### range sets compared -/
theorem PrAll.dp {K : PySem.W.Frag} {H : Hp} : ∀ {xs : List V} {ps : List (Int × Int)}, PrAll H xs ps → DpAll K H xs (ps.map prD)
  | _, _, .nil => .nil
  | _, _, .cons ⟨t, e1, e2⟩ r => by
    subst e1
    exact .cons (.tup (SqT.of e2) (.cons (.int _) (.cons (.int _) .nil))) (PrAll.dp r)
theorem lay_prs : ∀ ps : List (Int × Int), PyData.canLayAll0 (ps.map prD) = true
  | [] => by simp only [List.map_nil, PyData.canLayAll0]
  | q :: r => by
    have := lay_prs r
    simp only [List.map_cons, PyData.canLayAll0, prD, PyData.canLay0, this, Bool.and_true, Bool.and_self]
theorem depth_prs : ∀ ps : List (Int × Int), PyData.depthAll (ps.map prD) ≤ 2
  | [] => by simp only [List.map_nil, PyData.depthAll]; omega
  | q :: r => by
    have := depth_prs r
    simp only [List.map_cons, PyData.depthAll, prD, PyData.depth]
    omega
theorem shaped_tup (ps : List (Int × Int)) : SeqAt.shaped (.tuple (ps.map prD)) = true := by
  have h1 := lay_prs ps
  have h2 := depth_prs ps
  unfold SeqAt.shaped
  simp only [PyData.canLay0, PyData.depth, h1, Bool.true_and, decide_eq_true_eq]
  exact decide_eq_true (Nat.le_trans (Nat.add_le_add_right h2 1) (show 3 ≤ 64 by decide))
theorem eqv_prs : ∀ ps : List (Int × Int), PyData.eqvAll (ps.map prD) (ps.map prD) = true
  | [] => by simp only [List.map_nil, PyData.eqvAll]
  | q :: r => by
    have := eqv_prs r
    simp only [List.map_cons, PyData.eqvAll, prD, PyData.eqv, this, Bool.and_true]
    simp
theorem _root_.L2.Room.u64 {k : Nat} {A : Around} (r : Room k A) : A.units + 64 < cLine := by
  have := r.un
  omega
/-- two range sets of the same numbers, compared -/
def rEqS : R2 := fun x y H Q => ∃ L M p q, IsSet H x L p ∧ IsSet H y M q ∧ (∀ n, p n ↔ q n) ∧ Q (.bl true) H
def rNeS : R2 := fun x y H Q => ∃ L M p q, IsSet H x L p ∧ IsSet H y M q ∧ (∀ n, p n ↔ q n) ∧ Q (.bl false) H
theorem two_dp {K : PySem.W.Frag} {H : Hp} {x y : V} {L M : Nat} {p q : Int → Prop} (hx : IsSet H x L p) (hy : IsSet H y M q) (e : ∀ n, p n ↔ q n) : ∃ rs : List (Int × Int), Dp K H x (.tuple (rs.map prD)) ∧ Dp K H y (.tuple (rs.map prD)) := by
  obtain ⟨a, ps, rfl, ⟨xs, e1, p1⟩, r1, l1, i1⟩ := hx
  obtain ⟨b, qs, rfl, ⟨ys, e2, p2⟩, r2, l2, i2⟩ := hy
  have eq : ps = qs := Rng.Rg.one r1 r2 fun n => by rw [i1, i2, e]
  subst eq
  exact ⟨ps, .tup (SqT.of e1) p1.dp, .tup (SqT.of e2) p2.dp⟩
theorem op_eqS {X : Cx} (hu : X.A.units + 64 < cLine) : OpR X (compareOp .Eq) rEqS := by
  intro pins s σ H x y v u Q I rx ry h
  obtain ⟨L, M, p, q, h1, h2, e, k⟩ := h
  obtain ⟨rs, d1, d2⟩ := two_dp (K := X.K) h1 h2 e
  refine op_eqD hu pins s σ H _ _ v u Q I rx ry ⟨_, _, d1, d2, shaped_tup rs, shaped_tup rs, ?_⟩
  have ee : PyData.eqv (.tuple (rs.map prD)) (.tuple (rs.map prD)) = true := by simp only [PyData.eqv, eqv_prs]
  rw [ee]
  exact k
theorem op_neS {X : Cx} (hu : X.A.units + 64 < cLine) : OpR X (compareOp .NotEq) rNeS := by
  intro pins s σ H x y v u Q I rx ry h
  obtain ⟨L, M, p, q, h1, h2, e, k⟩ := h
  obtain ⟨rs, d1, d2⟩ := two_dp (K := X.K) h1 h2 e
  refine op_neD hu pins s σ H _ _ v u Q I rx ry ⟨_, _, d1, d2, shaped_tup rs, shaped_tup rs, ?_⟩
  have ee : PyData.eqv (.tuple (rs.map prD)) (.tuple (rs.map prD)) = true := by simp only [PyData.eqv, eqv_prs]
  rw [ee]
  exact k
/-- t[:k] of a range set -/
def rSlS (k : Nat) : V → Option Int → Option Int → Hp → VK → Prop := fun x lo hi H Q => ∃ L p, IsSet H x L p ∧ lo = none ∧ hi = some (k : Int) ∧ ∀ H' v p', Same H H' → IsSet H' v k p' → Q v H'
theorem rg_take {rs : List (Int × Int)} (h : Rng.Rg rs) (k : Nat) : Rng.Rg (rs.take k) := by
  obtain ⟨z, f⟩ := h
  refine ⟨z, ?_⟩
  induction rs generalizing z k with
  | nil => rw [List.take_nil]; trivial
  | cons q r ih =>
    cases k with
    | zero => trivial
    | succ k => exact ⟨f.1, f.2.1, ih k _ f.2.2⟩
theorem PrAll.take {H : Hp} : ∀ {xs : List V} {ps : List (Int × Int)} (n : Nat), PrAll H xs ps → PrAll H (xs.take n) (ps.take n)
  | _, _, 0, _ => .nil
  | _, _, _ + 1, .nil => .nil
  | _, _, n + 1, .cons h t => .cons h (PrAll.take n t)
theorem sl_set {X : Cx} {k : Nat} : SlR X (rSlS k) := by
  intro pins s σ H x v vl vu lo hi sl Q I rx hs pl pu h
  obtain ⟨L, p, ⟨t, rs, rfl, ⟨xs, e, pa⟩, rg, l, i⟩, rfl, rfl, q⟩ := h
  have len := pa.len
  have h1 : HT.sIx xs.length 0 none = 0 := HT.sIx_none ..
  have h2 : HT.sIx xs.length xs.length (some (k : Int)) = min k xs.length := HT.sIx_nat ..
  refine sl_tupA pins s σ H _ v vl vu _ _ sl Q I rx hs pl pu ⟨t, xs, rfl, SqT.of e, fun z => ?_, fun z c nc => ?_⟩
  · rw [h2] at z
    refine q H _ (fun n => Rng.In n rs) (Same.refl H) ⟨t, rs, rfl, ⟨xs, e, pa⟩, rg, by omega, fun n => Iff.rfl⟩
  · have cut : cutV xs none (some (k : Int)) = xs.take k := by
      unfold cutV
      rw [h1, h2, List.drop_zero, Nat.sub_zero]
      by_cases y : k ≤ xs.length
      · rw [Nat.min_eq_left y]
      · rw [List.take_of_length_le (by omega), List.take_of_length_le (by omega)]
    rw [cut]
    have sc := new_same (o := HO.tup (xs.take k)) nc
    exact q _ _ (fun n => Rng.In n (rs.take k)) sc ⟨c, rs.take k, rfl, ⟨xs.take k, upd_same, (pa.take k).tk (TK.of sc)⟩, rg_take rg k, by rw [List.length_take]; omega, fun n => Iff.rfl⟩
end Pf

set_option Elab.async false
set_option linter.all false
set_option maxRecDepth 100000
/-! The rules of sets. -/
namespace Pf
open PySem PySem.Spec PyProof.Rows L2
local macro_rules | `(tactic| walk_at "rd") => `(tactic| simp only [tC1, tCK, tB, rNe, rEq, tChain, gTupV, gCons, gNil, Nat.sub_self, Nat.reduceSub, List.replicate_zero, List.replicate_succ, tTest, tIfS, tIf, tNot, tAnd, tOr, tAndV, tOrV, tNotV, tDrop, tNext, rIxV, rIxP,
  gSub, rSetL, tSl, tPart, tNoPart, rSl1, tAsg2, ipI, tDNewK, tBM, rAppend, wipe, rAllB, rAnyB, iTup, iList, RZ.iZipA, iRng1, iRng2, tYes, upd_same, at0, at1, at2, at20, at21, ixN30, ixN32, HO.lst.injEq, HO.tup.injEq, Nat.reduceAdd, tSeq, tAsg, tPar, tAug, tOp, tVar, tC, tCB, tCons, tNil, rI, rI0, rU, tUn, gName, tRet, tLst, tLstM, tTup, L2.start, List.map_cons, List.map_nil, List.length_cons, List.length_nil, List.replicate, List.cons_append,
  List.nil_append, List.set_cons_zero, List.set_cons_succ, List.getElem?_cons_zero, List.getElem?_cons_succ, Option.some.injEq, V.int.injEq, V.ref.injEq, V.bl.injEq, V.str.injEq, List.cons.injEq, exists_eq_left', exists_eq_left, exists_and_left, exists_and_right, and_true, true_and, reduceCtorEq, false_and,
  exists_false, or_false, false_or, exists_const, exists_eq, exists_eq', Bool.not_true, Bool.not_false, Bool.false_eq_true, if_true, if_false, ite_true, ite_false])
abbrev s__law_sets_right : Stmt := topS 23
theorem sc__law_sets_right : FnScope ["_law_one", "_law_two", "_law_three", "_law_told", "_law_found"] ["_law_one", "_law_two", "_law_three"] (defScope s__law_sets_right) := ⟨rfl, rfl, rfl, by decide +kernel, rfl, by decide +kernel, by decide +kernel⟩
abbrev s__law_sums_right : Stmt := topS 24
theorem sc__law_sums_right : FnScope ["_law_pot_here", "_law_one", "_law_two", "_law_three", "_law_first", "_law_more"] ["_law_pot_here", "_law_one", "_law_two", "_law_three"] (defScope s__law_sums_right) := ⟨rfl, rfl, rfl, by decide +kernel, rfl, by decide +kernel, by decide +kernel⟩
abbrev s__law_points_right : Stmt := topS 25
theorem sc__law_points_right : FnScope ["_law_one", "_law_two", "_law_low", "_law_high", "_law_number", "_law_told"] ["_law_one", "_law_two"] (defScope s__law_points_right) := ⟨rfl, rfl, rfl, by decide +kernel, rfl, by decide +kernel, by decide +kernel⟩
abbrev s__law_right : Stmt := topS 26
theorem sc__law_right : FnScope ["_law_pot_here", "_law_turn", "_law_far", "_law_one", "_law_two", "_law_three", "_law_again"] ["_law_pot_here"] (defScope s__law_right) := ⟨rfl, rfl, rfl, by decide +kernel, rfl, by decide +kernel, by decide +kernel⟩
abbrev s_law : Stmt := topS 27
theorem sc_law : FnScope ["_law_script", "_law_k"] ["_law_script"] (defScope s_law) := ⟨rfl, rfl, rfl, by decide +kernel, rfl, by decide +kernel, by decide +kernel⟩
section
variable {base : Heap} {P : Program} {w : World} {mg : Str → Option Value} {K : PySem.W.Frag}
def sp_setsr : Sp := fun vs H Q _ => ∃ (x y z : V) (p q r : Int → Prop), vs = [x, y, z] ∧ IsSet H x 4 p ∧ IsSet H y 4 q ∧ IsSet H z 4 r ∧ ∀ H', Same H H' → Q (.bl true) H'
theorem ok_setsr {f : Addr} {fd : FuncData} (F : Fun K "_law_sets_right" "_law_sets_right" s__law_sets_right f fd) (T : Txt mg) (C_both : Cal P w K mg base 1 "both" sp_both) (C_either : Cal P w K mg base 2 "either" sp_either)
    (C_without : Cal P w K mg base 3 "without" sp_without) (C_added : Cal P w K mg base 3 "added" sp_added) (C_is_ranges : Cal P w K mg base 3 "is_ranges" sp_ranges) : FnG P w K mg base 4 f fd ["_law_one", "_law_two", "_law_three"] sp_setsr := by
  refine okG F sc__law_sets_right (fun vs H Q E h => ?_) (fun cdv A outer s H vs Q E hg hr h => ?_)
  · obtain ⟨x, y, z, p, q, r, rfl, _⟩ := h
    rfl
  · obtain ⟨x, y, z, p, q, r, rfl, X0, Y0, Z0, k⟩ := h
    replace hr := And.intro hg hr
    refine ⟨_, (pss_cons (ps_set (i := 3) sc__law_sets_right.nd rfl (Or.inl rfl) (pe_lst (pa_cons (pe_c C_both hr (by decide) (by rfl) (pa_cons (pv 0) (pa_cons (pv 1) pa_nil))) (pa_cons (pe_c C_either hr (by decide) (by rfl) (pa_cons (pv 0) (pa_cons (pv 1) pa_nil))) (pa_cons (pe_c C_without hr (by decide) (by rfl) (pa_cons (pv 0) (pa_cons (pv 1) pa_nil))) (pa_cons (pe_c C_added hr (by decide) (by rfl) (pa_cons (pv 0) (pa_cons (pv 1) pa_nil))) pa_nil))))))
        (pss_cons (ps_expr (pe_bm PySem.F.plainAttrs_list PySem.F.slot_list_append PySem.F.type_list_append mt_append (pv 3) (pa_cons (pe_c C_either hr (by decide) (by rfl) (pa_cons (pe_c C_without hr (by decide) (by rfl) (pa_cons (pv 0) (pa_cons (pv 1) pa_nil))) (pa_cons (pe_c C_both hr (by decide) (by rfl) (pa_cons (pv 0) (pa_cons (pv 1) pa_nil))) pa_nil))) pa_nil)))
        (pss_cons (ps_if (PW.pt (pw_or (pt_not (pt_val (pe_callB (call_allB rfl) (by rfl) T.b_all (by decide +kernel) (pa_cons (pe_lc (own := [("_law_found", 4)]) (g := gName 4) (tt := tYes) rfl sc__law_sets_right.nd (pi_list (pv 3)) (blkOk_by (own := [("_law_found", 4)]) (N := ["_law_one", "_law_two", "_law_three", "_law_told", "_law_found"]) (sc := defScope s__law_sets_right) (by decide +kernel)) (fun _ _ _ _ _ => (pg_name (i := 4) sc__law_sets_right.nd rfl (Or.inl rfl))) (fun _ _ _ _ _ => pts_nil) (fun _ _ _ _ _ => (pe_c C_is_ranges hr (by decide) (by rfl) (pa_cons (pv 4) pa_nil)))) pa_nil)))) (pw_or1 (pt_cmpR (op_neS hr.2.u64) (pe_ix ix_v (pv 3) pe_int (fun _ _ => rfl)) (pv 0) (nomark _))))) (pss_one (ps_ret pe_bl)) pss_nil)
        (pss_cons (ps_if (PW.pt (pw_or (pt_cmpR (op_neS hr.2.u64) (pe_c C_both hr (by decide) (by rfl) (pa_cons (pv 0) (pa_cons (pv 1) pa_nil))) (pe_c C_both hr (by decide) (by rfl) (pa_cons (pv 1) (pa_cons (pv 0) pa_nil))) (nomark _)) (pw_or1 (pt_cmpR (op_neS hr.2.u64) (pe_c C_either hr (by decide) (by rfl) (pa_cons (pv 0) (pa_cons (pe_c C_either hr (by decide) (by rfl) (pa_cons (pv 1) (pa_cons (pv 2) pa_nil))) pa_nil))) (pe_c C_either hr (by decide) (by rfl) (pa_cons (pe_c C_either hr (by decide) (by rfl) (pa_cons (pv 0) (pa_cons (pv 1) pa_nil))) (pa_cons (pv 2) pa_nil))) (nomark _))))) (pss_one (ps_ret pe_bl)) pss_nil)
        (pss_cons (ps_if (pt_cmpR (op_neS hr.2.u64) (pe_c C_both hr (by decide) (by rfl) (pa_cons (pv 0) (pa_cons (pe_c C_either hr (by decide) (by rfl) (pa_cons (pv 1) (pa_cons (pv 2) pa_nil))) pa_nil))) (pe_c C_either hr (by decide) (by rfl) (pa_cons (pe_c C_both hr (by decide) (by rfl) (pa_cons (pv 0) (pa_cons (pv 1) pa_nil))) (pa_cons (pe_c C_both hr (by decide) (by rfl) (pa_cons (pv 0) (pa_cons (pv 2) pa_nil))) pa_nil))) (nomark _)) (pss_one (ps_ret pe_bl)) pss_nil)
        (pss_cons (ps_if (pt_cmpR (op_neS hr.2.u64) (pe_c C_either hr (by decide) (by rfl) (pa_cons (pv 0) (pa_cons (pe_c C_both hr (by decide) (by rfl) (pa_cons (pv 1) (pa_cons (pv 2) pa_nil))) pa_nil))) (pe_c C_both hr (by decide) (by rfl) (pa_cons (pe_c C_either hr (by decide) (by rfl) (pa_cons (pv 0) (pa_cons (pv 1) pa_nil))) (pa_cons (pe_c C_either hr (by decide) (by rfl) (pa_cons (pv 0) (pa_cons (pv 2) pa_nil))) pa_nil))) (nomark _)) (pss_one (ps_ret pe_bl)) pss_nil)
        (pss_cons (ps_if (pt_cmpR (op_neS hr.2.u64) (pe_c C_without hr (by decide) (by rfl) (pa_cons (pv 0) (pa_cons (pe_c C_either hr (by decide) (by rfl) (pa_cons (pv 1) (pa_cons (pv 2) pa_nil))) pa_nil))) (pe_c C_without hr (by decide) (by rfl) (pa_cons (pe_c C_without hr (by decide) (by rfl) (pa_cons (pv 0) (pa_cons (pv 1) pa_nil))) (pa_cons (pv 2) pa_nil))) (nomark _)) (pss_one (ps_ret pe_bl)) pss_nil)
        (pss_one (ps_ret (pe_and (pe_cmpR (op_eqS hr.2.u64) (pe_c C_without hr (by decide) (by rfl) (pa_cons (pv 0) (pa_cons (pe_c C_without hr (by decide) (by rfl) (pa_cons (pv 0) (pa_cons (pv 1) pa_nil))) pa_nil))) (pe_c C_both hr (by decide) (by rfl) (pa_cons (pv 0) (pa_cons (pv 1) pa_nil))) (nomark _)) (pe_and (pe_cmpR (op_eqS hr.2.u64) (pe_c C_without hr (by decide) (by rfl) (pa_cons (pv 0) (pa_cons (pv 0) pa_nil))) (pe_tup pa_nil) (nomark _)) (pe_one (pe_cmpR (op_eqS hr.2.u64) (pe_c C_either hr (by decide) (by rfl) (pa_cons (pv 0) (pa_cons (pe_tup pa_nil) pa_nil))) (pv 0) (nomark _)))))))))))))), ?_⟩
    walk_at "rd"
    --BEGIN
    have sA : Same H H := Same.refl H
    refine both_is X0 Y0 (by decide) (by decide) fun H1 v1 s1 I1 => ?_
    replace X0 := X0.same s1
    replace Y0 := Y0.same s1
    replace Z0 := Z0.same s1
    replace sA := sA.trans s1
    refine either_is X0 Y0 (by decide) (by decide) fun H2 v2 s2 I2 => ?_
    replace X0 := X0.same s2
    replace Y0 := Y0.same s2
    replace Z0 := Z0.same s2
    replace I1 := I1.same s2
    replace sA := sA.trans s2
    refine without_is X0 Y0 (by decide) (by decide) fun H3 v3 s3 I3 => ?_
    replace X0 := X0.same s3
    replace Y0 := Y0.same s3
    replace Z0 := Z0.same s3
    replace I1 := I1.same s3
    replace I2 := I2.same s3
    replace sA := sA.trans s3
    refine added_is X0 Y0 (by decide) (by decide) (by decide) fun H4 v4 s4 I4 => ?_
    replace X0 := X0.same s4
    replace Y0 := Y0.same s4
    replace Z0 := Z0.same s4
    replace I1 := I1.same s4
    replace I2 := I2.same s4
    replace I3 := I3.same s4
    replace sA := sA.trans s4
    refine ⟨by decide, fun D nD => ⟨Or.inl ⟨rfl, _, SqL.of upd_same⟩, ?_⟩⟩
    have nD0 := sA.free nD
    have sD := new_same (o := HO.lst [v1, v2, v3, v4]) nD
    replace X0 := X0.same sD
    replace Y0 := Y0.same sD
    replace Z0 := Z0.same sD
    replace I1 := I1.same sD
    replace I2 := I2.same sD
    replace I3 := I3.same sD
    replace I4 := I4.same sD
    replace sA := sA.trans sD
    have eD : upd H4 D (HO.lst [v1, v2, v3, v4]) D = some (HO.lst [v1, v2, v3, v4]) := upd_same
    generalize upd H4 D (HO.lst [v1, v2, v3, v4]) = HD at *
    refine without_is X0 Y0 (by decide) (by decide) fun H5 v5 s5 I5 => ?_
    replace X0 := X0.same s5
    replace Y0 := Y0.same s5
    replace Z0 := Z0.same s5
    replace I1 := I1.same s5
    replace I2 := I2.same s5
    replace I3 := I3.same s5
    replace I4 := I4.same s5
    replace eD := s5 _ _ eD
    replace sA := sA.trans s5
    refine both_is X0 Y0 (by decide) (by decide) fun H6 v6 s6 I6 => ?_
    replace X0 := X0.same s6
    replace Y0 := Y0.same s6
    replace Z0 := Z0.same s6
    replace I1 := I1.same s6
    replace I2 := I2.same s6
    replace I3 := I3.same s6
    replace I4 := I4.same s6
    replace I5 := I5.same s6
    replace eD := s6 _ _ eD
    replace sA := sA.trans s6
    refine either_is I5 I6 (by decide) (by decide) fun H7 v7 s7 I7 => ?_
    replace X0 := X0.same s7
    replace Y0 := Y0.same s7
    replace Z0 := Z0.same s7
    replace I1 := I1.same s7
    replace I2 := I2.same s7
    replace I3 := I3.same s7
    replace I4 := I4.same s7
    replace I5 := I5.same s7
    replace I6 := I6.same s7
    replace eD := s7 _ _ eD
    replace sA := sA.trans s7
    refine ⟨_, eD, show 4 < sizeLine by decide, ?_⟩
    have tB : TK H7 (upd H7 D (HO.lst ([v1, v2, v3, v4] ++ [v7]))) := TK.put eD
    replace X0 := X0.tk tB
    replace Y0 := Y0.tk tB
    replace Z0 := Z0.tk tB
    replace I1 := I1.tk tB
    replace I2 := I2.tk tB
    replace I3 := I3.tk tB
    replace I4 := I4.tk tB
    replace I5 := I5.tk tB
    replace I6 := I6.tk tB
    replace I7 := I7.tk tB
    replace sA : Same H (upd H7 D (HO.lst ([v1, v2, v3, v4] ++ [v7]))) := fun d o e => by
      rw [upd_ne (ne_of_none e nD0)]
      exact sA _ _ e
    replace eD : upd H7 D (HO.lst ([v1, v2, v3, v4] ++ [v7])) D = some (HO.lst [v1, v2, v3, v4, v7]) := upd_same
    generalize upd H7 D (HO.lst ([v1, v2, v3, v4] ++ [v7])) = HE at *
    have all5 : ∀ u ∈ [v1, v2, v3, v4, v7], ∃ L pp, L ≤ 1000 ∧ IsSet HE u L pp := fun u m => by
      simp only [List.mem_cons, List.not_mem_nil, or_false] at m
      rcases m with rfl | rfl | rfl | rfl | rfl
      · exact ⟨_, _, by decide, I1⟩
      · exact ⟨_, _, by decide, I2⟩
      · exact ⟨_, _, by decide, I3⟩
      · exact ⟨_, _, by decide, I4⟩
      · exact ⟨_, _, by decide, I7⟩
    refine ⟨.ref D, rfl, D, rfl, ⟨_, SqL.of eD⟩, lcMap (walk_list (xs := [v1, v2, v3, v4, v7])) (List.replicate 5 (V.bl true)) rfl (show 5 ≤ sizeLine by decide) (fun H' s' => SqL.of (s' _ _ eD)) (fun i u G G' y R ho sg hy kk => ?_) (fun G E nE sE eE => ?_)⟩
    · obtain ⟨rfl, hx⟩ := hy
      obtain ⟨L, pp, hl, hu⟩ := all5 u (List.mem_of_getElem? hx)
      have ey : y = V.bl true := List.eq_of_mem_replicate (List.mem_of_getElem? ho)
      subst ey
      refine ⟨rfl, ?_⟩
      walk_at "rd"
      exact ranges_is (hu.same sg) hl (sg _ _ eD) fun H' s' => kk H' s'
    refine ⟨E, rfl, [true, true, true, true, true], eE, ?_⟩
    rw [if_neg (by decide)]
    refine ⟨_, sE _ _ eD, v7, rfl, ?_⟩
    replace X0 := X0.same sE
    replace Y0 := Y0.same sE
    replace Z0 := Z0.same sE
    replace I1 := I1.same sE
    replace I2 := I2.same sE
    replace I3 := I3.same sE
    replace I4 := I4.same sE
    replace I5 := I5.same sE
    replace I6 := I6.same sE
    replace I7 := I7.same sE
    replace eD := sE _ _ eD
    replace sA := sA.trans sE
    refine ⟨_, _, _, _, I7, X0, (fun n => by by_cases p n <;> by_cases q n <;> by_cases r n <;> simp [*]), false, rfl, iteF ?_⟩
    refine both_is X0 Y0 (by decide) (by decide) fun H8 v8 s8 I8 => ?_
    replace X0 := X0.same s8
    replace Y0 := Y0.same s8
    replace Z0 := Z0.same s8
    replace eD := s8 _ _ eD
    replace sA := sA.trans s8
    refine both_is Y0 X0 (by decide) (by decide) fun H9 v9 s9 I9 => ?_
    replace X0 := X0.same s9
    replace Y0 := Y0.same s9
    replace Z0 := Z0.same s9
    replace I8 := I8.same s9
    replace eD := s9 _ _ eD
    replace sA := sA.trans s9
    refine ⟨_, _, _, _, I8, I9, (fun n => by by_cases p n <;> by_cases q n <;> by_cases r n <;> simp [*]), false, rfl, iteF ?_⟩
    refine either_is Y0 Z0 (by decide) (by decide) fun H10 v10 s10 I10 => ?_
    replace X0 := X0.same s10
    replace Y0 := Y0.same s10
    replace Z0 := Z0.same s10
    replace eD := s10 _ _ eD
    replace sA := sA.trans s10
    refine either_is X0 I10 (by decide) (by decide) fun H11 v11 s11 I11 => ?_
    replace X0 := X0.same s11
    replace Y0 := Y0.same s11
    replace Z0 := Z0.same s11
    replace I10 := I10.same s11
    replace eD := s11 _ _ eD
    replace sA := sA.trans s11
    refine either_is X0 Y0 (by decide) (by decide) fun H12 v12 s12 I12 => ?_
    replace X0 := X0.same s12
    replace Y0 := Y0.same s12
    replace Z0 := Z0.same s12
    replace I10 := I10.same s12
    replace I11 := I11.same s12
    replace eD := s12 _ _ eD
    replace sA := sA.trans s12
    refine either_is I12 Z0 (by decide) (by decide) fun H13 v13 s13 I13 => ?_
    replace X0 := X0.same s13
    replace Y0 := Y0.same s13
    replace Z0 := Z0.same s13
    replace I10 := I10.same s13
    replace I11 := I11.same s13
    replace I12 := I12.same s13
    replace eD := s13 _ _ eD
    replace sA := sA.trans s13
    refine ⟨_, _, _, _, I11, I13, (fun n => by by_cases p n <;> by_cases q n <;> by_cases r n <;> simp [*]), false, rfl, iteF ?_⟩
    refine either_is Y0 Z0 (by decide) (by decide) fun H14 v14 s14 I14 => ?_
    replace X0 := X0.same s14
    replace Y0 := Y0.same s14
    replace Z0 := Z0.same s14
    replace eD := s14 _ _ eD
    replace sA := sA.trans s14
    refine both_is X0 I14 (by decide) (by decide) fun H15 v15 s15 I15 => ?_
    replace X0 := X0.same s15
    replace Y0 := Y0.same s15
    replace Z0 := Z0.same s15
    replace I14 := I14.same s15
    replace eD := s15 _ _ eD
    replace sA := sA.trans s15
    refine both_is X0 Y0 (by decide) (by decide) fun H16 v16 s16 I16 => ?_
    replace X0 := X0.same s16
    replace Y0 := Y0.same s16
    replace Z0 := Z0.same s16
    replace I14 := I14.same s16
    replace I15 := I15.same s16
    replace eD := s16 _ _ eD
    replace sA := sA.trans s16
    refine both_is X0 Z0 (by decide) (by decide) fun H17 v17 s17 I17 => ?_
    replace X0 := X0.same s17
    replace Y0 := Y0.same s17
    replace Z0 := Z0.same s17
    replace I14 := I14.same s17
    replace I15 := I15.same s17
    replace I16 := I16.same s17
    replace eD := s17 _ _ eD
    replace sA := sA.trans s17
    refine either_is I16 I17 (by decide) (by decide) fun H18 v18 s18 I18 => ?_
    replace X0 := X0.same s18
    replace Y0 := Y0.same s18
    replace Z0 := Z0.same s18
    replace I14 := I14.same s18
    replace I15 := I15.same s18
    replace I16 := I16.same s18
    replace I17 := I17.same s18
    replace eD := s18 _ _ eD
    replace sA := sA.trans s18
    refine ⟨_, _, _, _, I15, I18, (fun n => by by_cases p n <;> by_cases q n <;> by_cases r n <;> simp [*]), false, rfl, iteF ?_⟩
    refine both_is Y0 Z0 (by decide) (by decide) fun H19 v19 s19 I19 => ?_
    replace X0 := X0.same s19
    replace Y0 := Y0.same s19
    replace Z0 := Z0.same s19
    replace eD := s19 _ _ eD
    replace sA := sA.trans s19
    refine either_is X0 I19 (by decide) (by decide) fun H20 v20 s20 I20 => ?_
    replace X0 := X0.same s20
    replace Y0 := Y0.same s20
    replace Z0 := Z0.same s20
    replace I19 := I19.same s20
    replace eD := s20 _ _ eD
    replace sA := sA.trans s20
    refine either_is X0 Y0 (by decide) (by decide) fun H21 v21 s21 I21 => ?_
    replace X0 := X0.same s21
    replace Y0 := Y0.same s21
    replace Z0 := Z0.same s21
    replace I19 := I19.same s21
    replace I20 := I20.same s21
    replace eD := s21 _ _ eD
    replace sA := sA.trans s21
    refine either_is X0 Z0 (by decide) (by decide) fun H22 v22 s22 I22 => ?_
    replace X0 := X0.same s22
    replace Y0 := Y0.same s22
    replace Z0 := Z0.same s22
    replace I19 := I19.same s22
    replace I20 := I20.same s22
    replace I21 := I21.same s22
    replace eD := s22 _ _ eD
    replace sA := sA.trans s22
    refine both_is I21 I22 (by decide) (by decide) fun H23 v23 s23 I23 => ?_
    replace X0 := X0.same s23
    replace Y0 := Y0.same s23
    replace Z0 := Z0.same s23
    replace I19 := I19.same s23
    replace I20 := I20.same s23
    replace I21 := I21.same s23
    replace I22 := I22.same s23
    replace eD := s23 _ _ eD
    replace sA := sA.trans s23
    refine ⟨_, _, _, _, I20, I23, (fun n => by by_cases p n <;> by_cases q n <;> by_cases r n <;> simp [*]), false, rfl, iteF ?_⟩
    refine either_is Y0 Z0 (by decide) (by decide) fun H24 v24 s24 I24 => ?_
    replace X0 := X0.same s24
    replace Y0 := Y0.same s24
    replace Z0 := Z0.same s24
    replace eD := s24 _ _ eD
    replace sA := sA.trans s24
    refine without_is X0 I24 (by decide) (by decide) fun H25 v25 s25 I25 => ?_
    replace X0 := X0.same s25
    replace Y0 := Y0.same s25
    replace Z0 := Z0.same s25
    replace I24 := I24.same s25
    replace eD := s25 _ _ eD
    replace sA := sA.trans s25
    refine without_is X0 Y0 (by decide) (by decide) fun H26 v26 s26 I26 => ?_
    replace X0 := X0.same s26
    replace Y0 := Y0.same s26
    replace Z0 := Z0.same s26
    replace I24 := I24.same s26
    replace I25 := I25.same s26
    replace eD := s26 _ _ eD
    replace sA := sA.trans s26
    refine without_is I26 Z0 (by decide) (by decide) fun H27 v27 s27 I27 => ?_
    replace X0 := X0.same s27
    replace Y0 := Y0.same s27
    replace Z0 := Z0.same s27
    replace I24 := I24.same s27
    replace I25 := I25.same s27
    replace I26 := I26.same s27
    replace eD := s27 _ _ eD
    replace sA := sA.trans s27
    refine ⟨_, _, _, _, I25, I27, (fun n => by by_cases p n <;> by_cases q n <;> by_cases r n <;> simp [*]), false, rfl, iteF ?_⟩
    refine without_is X0 Y0 (by decide) (by decide) fun H28 v28 s28 I28 => ?_
    replace X0 := X0.same s28
    replace Y0 := Y0.same s28
    replace Z0 := Z0.same s28
    replace eD := s28 _ _ eD
    replace sA := sA.trans s28
    refine without_is X0 I28 (by decide) (by decide) fun H29 v29 s29 I29 => ?_
    replace X0 := X0.same s29
    replace Y0 := Y0.same s29
    replace Z0 := Z0.same s29
    replace I28 := I28.same s29
    replace eD := s29 _ _ eD
    replace sA := sA.trans s29
    refine both_is X0 Y0 (by decide) (by decide) fun H30 v30 s30 I30 => ?_
    replace X0 := X0.same s30
    replace Y0 := Y0.same s30
    replace Z0 := Z0.same s30
    replace I28 := I28.same s30
    replace I29 := I29.same s30
    replace eD := s30 _ _ eD
    replace sA := sA.trans s30
    refine ⟨_, _, _, _, I29, I30, (fun n => by by_cases p n <;> by_cases q n <;> by_cases r n <;> simp [*]), true, rfl, iteT ?_⟩
    refine without_is X0 X0 (by decide) (by decide) fun H31 v31 s31 I31 => ?_
    replace X0 := X0.same s31
    replace Y0 := Y0.same s31
    replace Z0 := Z0.same s31
    replace eD := s31 _ _ eD
    replace sA := sA.trans s31
    refine ⟨Nat.zero_le _, fun U nU => ?_⟩
    have sU := new_same (o := HO.tup []) nU
    replace X0 := X0.same sU
    replace Y0 := Y0.same sU
    replace Z0 := Z0.same sU
    replace I31 := I31.same sU
    replace eD := sU _ _ eD
    replace sA := sA.trans sU
    have EU := empty_is (H := upd H31 U (HO.tup [])) (t := U) upd_same
    refine ⟨_, _, _, _, I31, EU, (fun n => by by_cases p n <;> simp [*]), true, rfl, iteT ⟨Nat.zero_le _, fun U2 nU2 => ?_⟩⟩
    have sU2 := new_same (o := HO.tup []) nU2
    replace X0 := X0.same sU2
    replace Y0 := Y0.same sU2
    replace Z0 := Z0.same sU2
    replace eD := sU2 _ _ eD
    replace sA := sA.trans sU2
    refine either_is X0 (empty_is upd_same) (by decide) (by decide) fun H32 v32 s32 I32 => ?_
    replace X0 := X0.same s32
    replace Y0 := Y0.same s32
    replace Z0 := Z0.same s32
    replace eD := s32 _ _ eD
    replace sA := sA.trans s32
    refine ⟨_, _, _, _, I32, X0, (fun n => by by_cases p n <;> simp [*]), k _ sA⟩
end
end Pf

set_option Elab.async false
set_option linter.all false
set_option maxRecDepth 100000
/-! The rules of sums. -/
namespace Pf
open PySem PySem.Spec PyProof.Rows L2
local macro_rules | `(tactic| walk_at "rd") => `(tactic| simp only [tC1, tCK, tB, rNe, rEq, tChain, gTupV, gCons, gNil, Nat.sub_self, Nat.reduceSub, List.replicate_zero, List.replicate_succ, tTest, tIfS, tIf, tNot, tAnd, tOr, tAndV, tOrV, tNotV, tDrop, tNext, rIxV, rIxP,
  gSub, rSetL, tSl, tPart, tNoPart, rSl1, tAsg2, ipI, tDNewK, tBM, rAppend, wipe, rAllB, rAnyB, iTup, iList, RZ.iZipA, iRng1, iRng2, tYes, upd_same, at0, at1, at2, at20, at21, ixN30, ixN32, HO.lst.injEq, HO.tup.injEq, Nat.reduceAdd, tSeq, tAsg, tPar, tAug, tOp, tVar, tC, tCB, tCons, tNil, rI, rI0, rU, tUn, gName, tRet, tLst, tLstM, tTup, L2.start, List.map_cons, List.map_nil, List.length_cons, List.length_nil, List.replicate, List.cons_append,
  List.nil_append, List.set_cons_zero, List.set_cons_succ, List.getElem?_cons_zero, List.getElem?_cons_succ, Option.some.injEq, V.int.injEq, V.ref.injEq, V.bl.injEq, V.str.injEq, List.cons.injEq, exists_eq_left', exists_eq_left, exists_and_left, exists_and_right, and_true, true_and, reduceCtorEq, false_and,
  exists_false, or_false, false_or, exists_const, exists_eq, exists_eq', Bool.not_true, Bool.not_false, Bool.false_eq_true, if_true, if_false, ite_true, ite_false])
def AddP (p q : Int → Prop) (n : Int) : Prop := ∃ i j, p i ∧ q j ∧ n = i + j
theorem add_comm' {p q : Int → Prop} (n : Int) : AddP p q n ↔ AddP q p n :=
  ⟨fun ⟨i, j, a, b, c⟩ => ⟨j, i, b, a, by omega⟩, fun ⟨i, j, a, b, c⟩ => ⟨j, i, b, a, by omega⟩⟩
theorem add_assoc' {p q r : Int → Prop} (n : Int) : AddP p (AddP q r) n ↔ AddP (AddP p q) r n :=
  ⟨fun ⟨i, j, a, ⟨k, l, b, c, d⟩, e⟩ => ⟨i + k, l, ⟨i, k, a, b, rfl⟩, c, by omega⟩, fun ⟨i, j, ⟨k, l, b, c, d⟩, a, e⟩ => ⟨k, l + j, b, ⟨l, j, c, a, rfl⟩, by omega⟩⟩
theorem add_or {p q r : Int → Prop} (n : Int) : AddP p (fun n => q n ∨ r n) n ↔ (AddP p q n ∨ AddP p r n) := by
  constructor
  · rintro ⟨i, j, a, b | b, c⟩
    · exact Or.inl ⟨i, j, a, b, c⟩
    · exact Or.inr ⟨i, j, a, b, c⟩
  · rintro (⟨i, j, a, b, c⟩ | ⟨i, j, a, b, c⟩)
    · exact ⟨i, j, a, Or.inl b, c⟩
    · exact ⟨i, j, a, Or.inr b, c⟩
theorem add_cong {p q p' q' : Int → Prop} (h : ∀ n, p n ↔ p' n) (g : ∀ n, q n ↔ q' n) (n : Int) : AddP p q n ↔ AddP p' q' n :=
  ⟨fun ⟨i, j, a, b, c⟩ => ⟨i, j, (h i).mp a, (g j).mp b, c⟩, fun ⟨i, j, a, b, c⟩ => ⟨i, j, (h i).mpr a, (g j).mpr b, c⟩⟩
theorem add_zero' {p : Int → Prop} (n : Int) : AddP p (fun n => n = 0) n ↔ p n := by
  constructor
  · rintro ⟨i, j, a, b, c⟩
    have e : n = i := by omega
    rw [e]
    exact a
  · exact fun h => ⟨n, 0, h, rfl, by omega⟩
theorem add_none {p : Int → Prop} (n : Int) : AddP p (fun _ => False) n ↔ False := ⟨fun ⟨_, _, _, b, _⟩ => b, fun h => h.elim⟩
theorem sum_add {p : Int → Prop} (a : Nat) : ∀ (b : Nat) (n : Int), SumP p (a + b) n ↔ AddP (SumP p a) (SumP p b) n
  | 0, n => by
    constructor
    · exact fun h => ⟨n, 0, h, rfl, by omega⟩
    · rintro ⟨i, j, h, z, e⟩
      have z' : j = 0 := z
      have e' : n = i := by omega
      rw [e']
      exact h
  | b + 1, n => by
    show AddP (SumP p (a + b)) p n ↔ AddP (SumP p a) (AddP (SumP p b) p) n
    rw [add_assoc']
    exact add_cong (sum_add a b) (fun _ => Iff.rfl) n
theorem sum_one {p : Int → Prop} (n : Int) : SumP p 1 n ↔ p n := by
  show AddP (fun n => n = 0) p n ↔ p n
  rw [add_comm', add_zero']
theorem add_four {p q r s : Int → Prop} (n : Int) : AddP (AddP p q) (AddP r s) n ↔ AddP (AddP p r) (AddP q s) n := by
  constructor
  · rintro ⟨i, j, ⟨a, b, h1, h2, h3⟩, ⟨c, d, g1, g2, g3⟩, e⟩
    exact ⟨a + c, b + d, ⟨a, c, h1, g1, rfl⟩, ⟨b, d, h2, g2, rfl⟩, by omega⟩
  · rintro ⟨i, j, ⟨a, b, h1, h2, h3⟩, ⟨c, d, g1, g2, g3⟩, e⟩
    exact ⟨a + c, b + d, ⟨a, c, h1, g1, rfl⟩, ⟨b, d, h2, g2, rfl⟩, by omega⟩
theorem sum_both {p q : Int → Prop} : ∀ (a : Nat) (n : Int), AddP (SumP p a) (SumP q a) n ↔ SumP (AddP p q) a n
  | 0, n => by
    constructor
    · rintro ⟨i, j, h, g, e⟩
      have h' : i = 0 := h
      have g' : j = 0 := g
      show n = 0
      omega
    · intro h
      have h' : n = 0 := h
      exact ⟨0, 0, rfl, rfl, by omega⟩
  | a + 1, n => by
    show AddP (AddP (SumP p a) p) (AddP (SumP q a) q) n ↔ AddP (SumP (AddP p q) a) (AddP p q) n
    rw [add_four]
    exact add_cong (sum_both a) (fun _ => Iff.rfl) n
theorem pow_small {L a : Nat} (hL : L ≤ 9) (hL1 : 1 ≤ L) (ha : a ≤ 3) : L ^ a ≤ 729 := Nat.le_trans (Nat.pow_le_pow_right hL1 ha) (Nat.le_trans (Nat.pow_le_pow_left hL 3) (by decide))
section
variable {base : Heap} {P : Program} {w : World} {mg : Str → Option Value} {K : PySem.W.Frag}
def sp_sumsr : Sp := fun vs H Q _ => ∃ (pt : Addr) (m : Nat) (x y z : V) (p q r : Int → Prop), vs = [.ref pt, x, y, z] ∧ Pot H pt m ∧ m + 100 < 1000000 ∧ IsSet H x 3 p ∧ IsSet H y 3 q ∧ IsSet H z 2 r ∧ ∀ H', Kp pt H H' → Pot H' pt (m + 2) → Q (.bl true) H'
theorem ok_sumsr {f : Addr} {fd : FuncData} (F : Fun K "_law_sums_right" "_law_sums_right" s__law_sums_right f fd) (T : Txt mg) (C_either : Cal P w K mg base 2 "either" sp_either) (C_added : Cal P w K mg base 3 "added" sp_added) (C_sums : Cal P w K mg base 4 "sums" sp_sums)
    (C__law_draw : Cal P w K mg base 1 "_law_draw" sp_draw) : FnG P w K mg base 5 f fd ["_law_pot_here", "_law_one", "_law_two", "_law_three"] sp_sumsr := by
  refine okG F sc__law_sums_right (fun vs H Q E h => ?_) (fun cdv A outer s H vs Q E hg hr h => ?_)
  · obtain ⟨pt, m, x, y, z, p, q, r, rfl, _⟩ := h
    rfl
  · obtain ⟨pt, m, x, y, z, p, q, r, rfl, P0, hm, X0, Y0, Z0, k⟩ := h
    replace hr := And.intro hg hr
    refine ⟨_, (pss_cons (ps_if (PW.pt (pw_or (pt_cmpR (op_neS hr.2.u64) (pe_c C_added hr (by decide) (by rfl) (pa_cons (pv 1) (pa_cons (pv 2) pa_nil))) (pe_c C_added hr (by decide) (by rfl) (pa_cons (pv 2) (pa_cons (pv 1) pa_nil))) (nomark _)) (pw_or1 (pt_cmpR (op_neS hr.2.u64) (pe_c C_added hr (by decide) (by rfl) (pa_cons (pv 1) (pa_cons (pe_c C_added hr (by decide) (by rfl) (pa_cons (pv 2) (pa_cons (pv 3) pa_nil))) pa_nil))) (pe_c C_added hr (by decide) (by rfl) (pa_cons (pe_c C_added hr (by decide) (by rfl) (pa_cons (pv 1) (pa_cons (pv 2) pa_nil))) (pa_cons (pv 3) pa_nil))) (nomark _))))) (pss_one (ps_ret pe_bl)) pss_nil)
        (pss_cons (ps_if (pt_cmpR (op_neS hr.2.u64) (pe_c C_added hr (by decide) (by rfl) (pa_cons (pv 1) (pa_cons (pe_c C_either hr (by decide) (by rfl) (pa_cons (pv 2) (pa_cons (pv 3) pa_nil))) pa_nil))) (pe_c C_either hr (by decide) (by rfl) (pa_cons (pe_c C_added hr (by decide) (by rfl) (pa_cons (pv 1) (pa_cons (pv 2) pa_nil))) (pa_cons (pe_c C_added hr (by decide) (by rfl) (pa_cons (pv 1) (pa_cons (pv 3) pa_nil))) pa_nil))) (nomark _)) (pss_one (ps_ret pe_bl)) pss_nil)
        (pss_cons (ps_par (i := 4) (j := 5) (by rfl) sc__law_sums_right.nd rfl rfl (by decide) rfl rfl (pa_cons (pe_c C__law_draw hr (by decide) (by rfl) (pa_cons (pv 0) (pa_cons pe_int pa_nil))) (pa_cons (pe_c C__law_draw hr (by decide) (by rfl) (pa_cons (pv 0) (pa_cons pe_int pa_nil))) pa_nil)) (by rfl))
        (pss_cons (ps_if (PW.pt (pw_or (pt_cmpR (op_neS hr.2.u64) (pe_c C_sums hr (by decide) (by rfl) (pa_cons (pv 1) (pa_cons (pe_op op_add (pv 4) (pv 5)) pa_nil))) (pe_c C_added hr (by decide) (by rfl) (pa_cons (pe_c C_sums hr (by decide) (by rfl) (pa_cons (pv 1) (pa_cons (pv 4) pa_nil))) (pa_cons (pe_c C_sums hr (by decide) (by rfl) (pa_cons (pv 1) (pa_cons (pv 5) pa_nil))) pa_nil))) (nomark _)) (pw_or1 (pt_cmpR (op_neS hr.2.u64) (pe_c C_sums hr (by decide) (by rfl) (pa_cons (pv 1) (pa_cons pe_int pa_nil))) (pv 1) (nomark _))))) (pss_one (ps_ret pe_bl)) pss_nil)
        (pss_cons (ps_if (pt_cmpR (op_neS hr.2.u64) (pe_c C_added hr (by decide) (by rfl) (pa_cons (pe_c C_sums hr (by decide) (by rfl) (pa_cons (pv 1) (pa_cons (pv 4) pa_nil))) (pa_cons (pe_c C_sums hr (by decide) (by rfl) (pa_cons (pv 2) (pa_cons (pv 4) pa_nil))) pa_nil))) (pe_c C_sums hr (by decide) (by rfl) (pa_cons (pe_c C_added hr (by decide) (by rfl) (pa_cons (pv 1) (pa_cons (pv 2) pa_nil))) (pa_cons (pv 4) pa_nil))) (nomark _)) (pss_one (ps_ret pe_bl)) pss_nil)
        (pss_one (ps_ret (pe_and (pe_cmpR (op_eqS hr.2.u64) (pe_c C_added hr (by decide) (by rfl) (pa_cons (pv 1) (pa_cons (pe_tup (pa_cons (pe_tup (pa_cons pe_int (pa_cons pe_int pa_nil))) pa_nil)) pa_nil))) (pv 1) (nomark _)) (pe_one (pe_cmpR (op_eqS hr.2.u64) (pe_c C_added hr (by decide) (by rfl) (pa_cons (pv 1) (pa_cons (pe_tup pa_nil) pa_nil))) (pe_tup pa_nil) (nomark _))))))))))), ?_⟩
    walk_at "rd"
    have sA : Kp pt H H := Kp.refl _ _
    refine added_is X0 Y0 (by decide) (by decide) (by decide) fun H1 v1 s1 I1 => ?_
    replace X0 := X0.same s1
    replace Y0 := Y0.same s1
    replace Z0 := Z0.same s1
    replace sA := sA.trans (Kp.of s1)
    replace P0 := P0.same s1
    refine added_is Y0 X0 (by decide) (by decide) (by decide) fun H2 v2 s2 I2 => ?_
    replace X0 := X0.same s2
    replace Y0 := Y0.same s2
    replace Z0 := Z0.same s2
    replace I1 := I1.same s2
    replace sA := sA.trans (Kp.of s2)
    replace P0 := P0.same s2
    refine ⟨_, _, _, _, I1, I2, add_comm', false, rfl, iteF ?_⟩
    refine added_is Y0 Z0 (by decide) (by decide) (by decide) fun H3 v3 s3 I3 => ?_
    replace X0 := X0.same s3
    replace Y0 := Y0.same s3
    replace Z0 := Z0.same s3
    replace sA := sA.trans (Kp.of s3)
    replace P0 := P0.same s3
    refine added_is X0 I3 (by decide) (by decide) (by decide) fun H4 v4 s4 I4 => ?_
    replace X0 := X0.same s4
    replace Y0 := Y0.same s4
    replace Z0 := Z0.same s4
    replace I3 := I3.same s4
    replace sA := sA.trans (Kp.of s4)
    replace P0 := P0.same s4
    refine added_is X0 Y0 (by decide) (by decide) (by decide) fun H5 v5 s5 I5 => ?_
    replace X0 := X0.same s5
    replace Y0 := Y0.same s5
    replace Z0 := Z0.same s5
    replace I3 := I3.same s5
    replace I4 := I4.same s5
    replace sA := sA.trans (Kp.of s5)
    replace P0 := P0.same s5
    refine added_is I5 Z0 (by decide) (by decide) (by decide) fun H6 v6 s6 I6 => ?_
    replace X0 := X0.same s6
    replace Y0 := Y0.same s6
    replace Z0 := Z0.same s6
    replace I3 := I3.same s6
    replace I4 := I4.same s6
    replace I5 := I5.same s6
    replace sA := sA.trans (Kp.of s6)
    replace P0 := P0.same s6
    refine ⟨_, _, _, _, I4, I6, add_assoc', false, rfl, iteF ?_⟩
    refine either_is Y0 Z0 (by decide) (by decide) fun H7 v7 s7 I7 => ?_
    replace X0 := X0.same s7
    replace Y0 := Y0.same s7
    replace Z0 := Z0.same s7
    replace sA := sA.trans (Kp.of s7)
    replace P0 := P0.same s7
    refine added_is X0 I7 (by decide) (by decide) (by decide) fun H8 v8 s8 I8 => ?_
    replace X0 := X0.same s8
    replace Y0 := Y0.same s8
    replace Z0 := Z0.same s8
    replace I7 := I7.same s8
    replace sA := sA.trans (Kp.of s8)
    replace P0 := P0.same s8
    refine added_is X0 Y0 (by decide) (by decide) (by decide) fun H9 v9 s9 I9 => ?_
    replace X0 := X0.same s9
    replace Y0 := Y0.same s9
    replace Z0 := Z0.same s9
    replace I7 := I7.same s9
    replace I8 := I8.same s9
    replace sA := sA.trans (Kp.of s9)
    replace P0 := P0.same s9
    refine added_is X0 Z0 (by decide) (by decide) (by decide) fun H10 v10 s10 I10 => ?_
    replace X0 := X0.same s10
    replace Y0 := Y0.same s10
    replace Z0 := Z0.same s10
    replace I7 := I7.same s10
    replace I8 := I8.same s10
    replace I9 := I9.same s10
    replace sA := sA.trans (Kp.of s10)
    replace P0 := P0.same s10
    refine either_is I9 I10 (by decide) (by decide) fun H11 v11 s11 I11 => ?_
    replace X0 := X0.same s11
    replace Y0 := Y0.same s11
    replace Z0 := Z0.same s11
    replace I7 := I7.same s11
    replace I8 := I8.same s11
    replace I9 := I9.same s11
    replace I10 := I10.same s11
    replace sA := sA.trans (Kp.of s11)
    replace P0 := P0.same s11
    refine ⟨_, _, _, _, I8, I11, add_or, false, rfl, iteF ?_⟩
    obtain ⟨yp, ep⟩ := P0.lst
    refine ⟨pt, 4, _, rfl, P0, by omega, by decide, by decide, fun J1 d1 k1 P1 r0 r1 => ?_⟩
    obtain ⟨yp2, ep2⟩ := P1.lst
    refine ⟨pt, 4, _, rfl, P1, by omega, by decide, by decide, fun J2 d2 k2 P2 q0 q1 => ?_⟩
    have t12 := (TK.kp k1 ep).trans (TK.kp k2 ep2)
    replace X0 := X0.tk t12
    replace Y0 := Y0.tk t12
    replace Z0 := Z0.tk t12
    replace sA := sA.trans (k1.trans k2)
    replace P0 := P2
    clear P1 P2 ep ep2 k1 k2 t12
    obtain ⟨a, rfl⟩ : ∃ a : Nat, d1 = a := ⟨d1.toNat, by omega⟩
    obtain ⟨b, rfl⟩ : ∃ b : Nat, d2 = b := ⟨d2.toNat, by omega⟩
    have a3 : a ≤ 3 := by omega
    have b3 : b ≤ 3 := by omega
    have p3a : 3 ^ a ≤ 27 := Nat.le_trans (Nat.pow_le_pow_right (by decide) a3) (by decide)
    have p3b : 3 ^ b ≤ 27 := Nat.le_trans (Nat.pow_le_pow_right (by decide) b3) (by decide)
    have p3ab : 3 ^ (a + b) ≤ 729 := Nat.le_trans (Nat.pow_le_pow_right (by decide) (show a + b ≤ 6 by omega)) (by decide)
    have p9a : (3 * 3) ^ a ≤ 729 := Nat.le_trans (Nat.pow_le_pow_right (by decide) a3) (by decide)
    refine ⟨_, _, ⟨rfl, rfl⟩, _, rfl, _, rfl, ?_⟩
    refine sums_is (show (a : Int) + (b : Int) = ((a + b : Nat) : Int) by omega) X0 (Nat.le_trans p3ab (by decide)) (by decide) (by omega) fun H12 v12 s12 I12 => ?_
    replace X0 := X0.same s12
    replace Y0 := Y0.same s12
    replace Z0 := Z0.same s12
    replace sA := sA.trans (Kp.of s12)
    replace P0 := P0.same s12
    refine sums_is rfl X0 (Nat.le_trans p3a (by decide)) (by decide) (by omega) fun H13 v13 s13 I13 => ?_
    replace X0 := X0.same s13
    replace Y0 := Y0.same s13
    replace Z0 := Z0.same s13
    replace I12 := I12.same s13
    replace sA := sA.trans (Kp.of s13)
    replace P0 := P0.same s13
    replace I13 := I13.up p3a
    refine sums_is rfl X0 (Nat.le_trans p3b (by decide)) (by decide) (by omega) fun H14 v14 s14 I14 => ?_
    replace X0 := X0.same s14
    replace Y0 := Y0.same s14
    replace Z0 := Z0.same s14
    replace I12 := I12.same s14
    replace I13 := I13.same s14
    replace sA := sA.trans (Kp.of s14)
    replace P0 := P0.same s14
    replace I14 := I14.up p3b
    refine added_is I13 I14 (by decide) (by decide) (by decide) fun H15 v15 s15 I15 => ?_
    replace X0 := X0.same s15
    replace Y0 := Y0.same s15
    replace Z0 := Z0.same s15
    replace I12 := I12.same s15
    replace I13 := I13.same s15
    replace I14 := I14.same s15
    replace sA := sA.trans (Kp.of s15)
    replace P0 := P0.same s15
    refine ⟨_, _, _, _, I12, I15, (fun n => sum_add a b n), false, rfl, iteF ?_⟩
    refine sums_is (show (1 : Int) = ((1 : Nat) : Int) from rfl) X0 (by decide) (by decide) (by decide) fun H16 v16 s16 I16 => ?_
    replace X0 := X0.same s16
    replace Y0 := Y0.same s16
    replace Z0 := Z0.same s16
    replace sA := sA.trans (Kp.of s16)
    replace P0 := P0.same s16
    refine ⟨_, _, _, _, I16, X0, sum_one, false, rfl, iteF ?_⟩
    refine sums_is rfl X0 (Nat.le_trans p3a (by decide)) (by decide) (by omega) fun H17 v17 s17 I17 => ?_
    replace X0 := X0.same s17
    replace Y0 := Y0.same s17
    replace Z0 := Z0.same s17
    replace sA := sA.trans (Kp.of s17)
    replace P0 := P0.same s17
    replace I17 := I17.up p3a
    refine sums_is rfl Y0 (Nat.le_trans p3a (by decide)) (by decide) (by omega) fun H18 v18 s18 I18 => ?_
    replace X0 := X0.same s18
    replace Y0 := Y0.same s18
    replace Z0 := Z0.same s18
    replace I17 := I17.same s18
    replace sA := sA.trans (Kp.of s18)
    replace P0 := P0.same s18
    replace I18 := I18.up p3a
    refine added_is I17 I18 (by decide) (by decide) (by decide) fun H19 v19 s19 I19 => ?_
    replace X0 := X0.same s19
    replace Y0 := Y0.same s19
    replace Z0 := Z0.same s19
    replace I17 := I17.same s19
    replace I18 := I18.same s19
    replace sA := sA.trans (Kp.of s19)
    replace P0 := P0.same s19
    refine added_is X0 Y0 (by decide) (by decide) (by decide) fun H20 v20 s20 I20 => ?_
    replace X0 := X0.same s20
    replace Y0 := Y0.same s20
    replace Z0 := Z0.same s20
    replace I17 := I17.same s20
    replace I18 := I18.same s20
    replace I19 := I19.same s20
    replace sA := sA.trans (Kp.of s20)
    replace P0 := P0.same s20
    refine sums_is rfl I20 (Nat.le_trans p9a (by decide)) (by decide) (by omega) fun H21 v21 s21 I21 => ?_
    replace X0 := X0.same s21
    replace Y0 := Y0.same s21
    replace Z0 := Z0.same s21
    replace I17 := I17.same s21
    replace I18 := I18.same s21
    replace I19 := I19.same s21
    replace I20 := I20.same s21
    replace sA := sA.trans (Kp.of s21)
    replace P0 := P0.same s21
    refine ⟨_, _, _, _, I19, I21, (fun n => sum_both a n), false, rfl, iteF ?_⟩
    refine ⟨by decide, fun M nM => ⟨by decide, fun N nN => ?_⟩⟩
    have sM := new_same (o := HO.tup [V.int 0, V.int 0]) nM
    have sN := new_same (o := HO.tup [V.ref M]) nN
    have Z1 := zero_is (t := N) (u := M) (H := upd (upd H21 M (HO.tup [V.int 0, V.int 0])) N (HO.tup [V.ref M])) upd_same (sN _ _ upd_same)
    replace X0 := X0.same (sM.trans sN)
    replace Y0 := Y0.same (sM.trans sN)
    replace Z0 := Z0.same (sM.trans sN)
    replace sA := sA.trans (Kp.of (sM.trans sN))
    replace P0 := P0.same (sM.trans sN)
    refine added_is X0 Z1 (by decide) (by decide) (by decide) fun H22 v22 s22 I22 => ?_
    replace X0 := X0.same s22
    replace Y0 := Y0.same s22
    replace Z0 := Z0.same s22
    replace sA := sA.trans (Kp.of s22)
    replace P0 := P0.same s22
    refine ⟨_, _, _, _, I22, X0, add_zero', true, rfl, iteT ⟨Nat.zero_le _, fun U nU => ?_⟩⟩
    have sU := new_same (o := HO.tup []) nU
    replace X0 := X0.same sU
    replace Y0 := Y0.same sU
    replace Z0 := Z0.same sU
    replace sA := sA.trans (Kp.of sU)
    replace P0 := P0.same sU
    refine added_is X0 (empty_is upd_same) (by decide) (by decide) (by decide) fun H23 v23 s23 I23 => ?_
    replace X0 := X0.same s23
    replace Y0 := Y0.same s23
    replace Z0 := Z0.same s23
    replace sA := sA.trans (Kp.of s23)
    replace P0 := P0.same s23
    refine ⟨Nat.zero_le _, fun U2 nU2 => ?_⟩
    have sU2 := new_same (o := HO.tup []) nU2
    replace X0 := X0.same sU2
    replace Y0 := Y0.same sU2
    replace Z0 := Z0.same sU2
    replace I23 := I23.same sU2
    replace sA := sA.trans (Kp.of sU2)
    replace P0 := P0.same sU2
    exact ⟨_, _, _, _, I23, empty_is upd_same, add_none, k _ sA P0⟩
end
end Pf

set_option Elab.async false
set_option linter.all false
set_option maxRecDepth 100000
/-! The law's own spans, and whether a number is in them. -/
namespace Pf
open PySem PySem.Spec PyProof.Rows L2
local macro_rules | `(tactic| walk_at "rd") => `(tactic| simp only [tC1, tCK, tB, rNe, rEq, tChain, gTupV, gCons, gNil, Nat.sub_self, Nat.reduceSub, List.replicate_zero, List.replicate_succ, tTest, tIfS, tIf, tNot, tAnd, tOr, tAndV, tOrV, tNotV, tDrop, tNext, rIxV, rIxP,
  gSub, rSetL, tSl, tPart, tNoPart, rSl1, tAsg2, ipI, tDNewK, tBM, rAppend, wipe, rAllB, rAnyB, iTup, iList, RZ.iZipA, iRng1, iRng2, tYes, upd_same, at0, at1, at2, at20, at21, ixN30, ixN32, HO.lst.injEq, HO.tup.injEq, Nat.reduceAdd, tSeq, tAsg, tPar, tAug, tOp, tVar, tC, tCB, tCons, tNil, rI, rI0, rU, tUn, gName, tRet, tLst, tLstM, tTup, L2.start, List.map_cons, List.map_nil, List.length_cons, List.length_nil, List.replicate, List.cons_append,
  List.nil_append, List.set_cons_zero, List.set_cons_succ, List.getElem?_cons_zero, List.getElem?_cons_succ, Option.some.injEq, V.int.injEq, V.ref.injEq, V.bl.injEq, V.str.injEq, List.cons.injEq, exists_eq_left', exists_eq_left, exists_and_left, exists_and_right, and_true, true_and, reduceCtorEq, false_and,
  exists_false, or_false, false_or, exists_const, exists_eq, exists_eq', Bool.not_true, Bool.not_false, Bool.false_eq_true, if_true, if_false, ite_true, ite_false])
abbrev s__law_spans : Stmt := topS 22
theorem sc__law_spans : FnScope ["_law_pot_here", "_law_most", "_law_low", "_law_high", "_law_wide", "_law_found", "_law_here", "_law_turn", "_law_end"] ["_law_pot_here", "_law_most", "_law_low", "_law_high"] (defScope s__law_spans) := ⟨rfl, rfl, rfl, by decide +kernel, rfl, by decide +kernel, by decide +kernel⟩
section
variable {base : Heap} {P : Program} {w : World} {mg : Str → Option Value} {K : PySem.W.Frag}
theorem from_snoc {a b : Int} : ∀ {k : Int} {ps : List (Int × Int)}, Rng.From k ps → (∀ q ∈ ps, q.2 + 2 ≤ a) → k ≤ a → a ≤ b → Rng.From k (ps ++ [(a, b)])
  | _, [], _, _, h, l => ⟨h, l, trivial⟩
  | _, q :: r, ⟨h1, h2, h3⟩, u, h, l => ⟨h1, h2, from_snoc h3 (fun z m => u z (List.mem_cons_of_mem _ m)) (u q List.mem_cons_self) l⟩
def sp_spans : Sp := fun vs H Q _ => ∃ (p : Addr) (most : Nat) (low high : Int) (m : Nat), vs = [.ref p, .int most, .int low, .int high] ∧ Pot H p m ∧ m + 100 < 1000000 ∧ most ≤ 20 ∧ -(2 ^ 110) < low ∧ low ≤ high ∧ high < 2 ^ 110 ∧
  ∀ (H' : Hp) (t : Addr) (xs : List V) (ps : List (Int × Int)), Kp p H H' → Pot H' p (m + 60) → H' t = some (.tup xs) → PrAll H' xs ps → ps.length ≤ most → Rng.From low ps → (∀ q ∈ ps, q.2 ≤ high) → Q (.ref t) H'
theorem ok_spans {f : Addr} {fd : FuncData} (F : Fun K "_law_spans" "_law_spans" s__law_spans f fd) (T : Txt mg) (C__law_draw : Cal P w K mg base 1 "_law_draw" sp_draw) (C__law_any : Cal P w K mg base 2 "_law_any" sp_any) :
    FnG P w K mg base 3 f fd ["_law_pot_here", "_law_most", "_law_low", "_law_high"] sp_spans := by
  refine okG F sc__law_spans (fun vs H Q E h => ?_) (fun cdv A outer s H vs Q E hg hr h => ?_)
  · obtain ⟨p, most, low, high, m, rfl, _⟩ := h
    rfl
  · obtain ⟨p, most, low, high, m, rfl, hp, hm, h1, h2, h3, h4, q⟩ := h
    replace hr := And.intro hg hr
    refine ⟨_, (pss_cons (ps_set (i := 4) sc__law_spans.nd rfl (Or.inl rfl) (pe_op op_fdivW (pe_op op_sub (pv 3) (pv 2)) pe_int))
        (pss_cons (ps_par (i := 5) (j := 6) (by rfl) sc__law_spans.nd rfl rfl (by decide) rfl rfl (pa_cons (pe_lst pa_nil) (pa_cons (pe_op op_add (pv 2) (pe_c C__law_draw hr (by decide) (by rfl) (pa_cons (pv 0) (pa_cons (pe_op op_add pe_int (pe_op op_fdivW (pe_op op_sub (pv 3) (pv 2)) pe_int)) pa_nil)))) pa_nil)) (by rfl))
        (pss_cons (ps_for PassesOwn.never rfl (pi_range1 (by rfl) T.b_range (pa_cons (pe_c C__law_draw hr (by decide) (by rfl) (pa_cons (pv 0) (pa_cons (pe_op op_add (pv 1) pe_int) pa_nil))) pa_nil)) (pg_name (i := 7) sc__law_spans.nd rfl (Or.inl rfl)) (pss_cons (ps_set (i := 8) sc__law_spans.nd rfl (Or.inl rfl) (pe_op op_add (pv 6) (pe_c C__law_any hr (by decide) (by rfl) (pa_cons (pv 0) (pa_cons (pe_lst (pa_cons pe_int (pa_cons pe_int (pa_cons pe_int (pa_cons pe_int (pa_cons pe_int (pa_cons (pv 4) pa_nil))))))) pa_nil)))))
        (pss_one (ps_if (pt_cmpR op_le (pv 8) (pv 3) (nomark _)) (pss_cons (ps_expr (pe_bm PySem.F.plainAttrs_list PySem.F.slot_list_append PySem.F.type_list_append mt_append (pv 5) (pa_cons (pe_tup (pa_cons (pv 6) (pa_cons (pv 8) pa_nil))) pa_nil)))
        (pss_one (ps_set (i := 6) sc__law_spans.nd rfl (Or.inl rfl) (pe_op op_add (pe_op op_add (pv 8) pe_int) (pe_c C__law_any hr (by decide) (by rfl) (pa_cons (pv 0) (pa_cons (pe_lst (pa_cons pe_int (pa_cons pe_int (pa_cons pe_int (pa_cons pe_int (pa_cons (pv 4) pa_nil)))))) pa_nil))))))) pss_nil))))
        (pss_one (ps_ret (pe_callTy call_tupleL (by rfl) T.b_tuple (by decide +kernel) (pa_cons (pv 5) pa_nil))))))), ?_⟩
    walk_at "rd"
    refine ⟨⟨by decide, by decide⟩, Nat.zero_le _, fun l hl => ⟨⟨by decide, by decide⟩, ?_⟩⟩
    have s0 : Same H (upd H l (.lst [])) := new_same hl
    obtain ⟨ys, ep⟩ := hp.lst
    have nlp : l ≠ p := fun z => by rw [← z, hl] at ep; cases ep
    refine ⟨p, _, m, rfl, hp.same s0, by omega, by omega, by omega, fun H1 r k1 p1 r0 r1 => ⟨r, rfl, _, _, ⟨rfl, rfl⟩, ?_⟩⟩
    refine ⟨.ref p, rfl, .int most, rfl, (most : Int), 1, rfl, rfl, p, _, m + 1, rfl, p1, by omega, by omega, by omega, fun H2 r2 k2 p2 a0 a1 => ?_⟩
    have k12 : Kp p H H2 := (Kp.of s0).trans (k1.trans k2)
    have l2 : H2 l = some (.lst []) := k2 _ _ nlp (k1 _ _ nlp upd_same)
    refine ⟨r2, rfl, by omega, by omega, for_range (lo := 0) (n := r2.toNat) (fun i σ H' => ∃ (here : Int) (t e : Option V) (xs : List V) (ps : List (Int × Int)), σ = [some (.ref p), some (.int most), some (.int low), some (.int high), some (.int ((high - low) / 9)), some (.ref l), some (.int here), t, e] ∧
      Kp p H H' ∧ Pot H' p (m + 2 + 2 * i) ∧ H' l = some (.lst xs) ∧ PrAll H' xs ps ∧ ps.length ≤ i ∧ (Rng.From low ps ∧ (∀ q ∈ ps, q.2 ≤ high) ∧ ∀ q ∈ ps, q.2 + 2 ≤ here) ∧ low ≤ here ∧ here ≤ high + (high - low) / 9 + 10) ?_ ?_ ?_⟩
    · exact ⟨_, _, _, [], [], rfl, k12, p2, l2, .nil, Nat.le_refl _, ⟨trivial, fun _ z => (List.not_mem_nil z).elim, fun _ z => (List.not_mem_nil z).elim⟩, by omega, by omega⟩
    · rintro i σ H3 hi ⟨here, t, e, xs, ps, rfl, k3, p3, l3, pr, hn, fr, b1, b2⟩
      walk_at "rd"
      refine ⟨by decide, fun L hL => ?_⟩
      have hL0 : H3 p ≠ none := fun z => by obtain ⟨_, z2⟩ := p3.lst; rw [z] at z2; cases z2
      have nLp : L ≠ p := fun z => hL0 (z ▸ hL)
      refine ⟨p, L, _, _, rfl, p3.same (new_same hL), by omega, nLp, upd_same, by simp, by simp, fun H4 x k4 p4 mx => ?_⟩
      obtain ⟨u, rfl, u0, u1⟩ := menu6 (show 0 ≤ (high - low) / 9 by omega) (by decide) (by decide) (by decide) mx
      refine ⟨u, rfl, ?_⟩
      have l4 : H4 l = some (.lst xs) := k4 _ _ nlp (new_same hL _ _ l3)
      obtain ⟨y3, e3⟩ := p3.lst
      have t4 : TK H3 H4 := (TK.of (new_same hL)).trans (TK.kp k4 (new_same hL _ _ e3))
      have kp4 : Kp p H H4 := k3.trans ((Kp.of (new_same hL)).trans k4)
      have xl := pr.len
      refine ite2 (fun c => ?_) (fun c => ?_)
      · have c' : here + u ≤ high := of_decide_eq_true c
        refine ⟨Or.inl ⟨rfl, xs, SqL.of l4⟩, by decide, fun T hT => ?_⟩
        have nlT : l ≠ T := ne_of_none l4 hT
        have lA : upd H4 T (.tup [V.int here, V.int (here + u)]) l = some (.lst xs) := by rw [upd_ne nlT]; exact l4
        refine ⟨xs, lA, Nat.lt_of_le_of_lt (show xs.length ≤ 20 by omega) (by decide), by decide, fun M hM => ?_⟩
        obtain ⟨zs, e4⟩ := p4.lst
        have npT : p ≠ T := ne_of_none e4 hT
        have pB : Pot (upd (upd H4 T (.tup [V.int here, V.int (here + u)])) l (.lst (xs ++ [V.ref T]))) p (m + 2 + 2 * i + 1) := p4.eq (by rw [upd_ne nlp.symm, upd_ne npT])
        obtain ⟨zB, eB⟩ := pB.lst
        have nlM : l ≠ M := ne_of_none upd_same hM
        refine ⟨p, M, _, _, rfl, pB.same (new_same hM), by omega, (fun z => by rw [z, eB] at hM; cases hM), upd_same, by simp, by simp, fun H5 y k5 p5 my => ?_⟩
        obtain ⟨v, rfl, v0, v1⟩ := menu5 (show 0 ≤ (high - low) / 9 by omega) (by decide) (by decide) my
        have tA : TK H4 (upd H4 T (.tup [V.int here, V.int (here + u)])) := TK.of (new_same hT)
        have tB := (TK.put lA (o := .lst (xs ++ [V.ref T]))).trans ((TK.of (new_same hM)).trans (TK.kp k5 ((new_same hM) _ _ eB)))
        have l5 := k5 _ _ nlp (new_same hM _ _ upd_same)
        have kB : Kp p H (upd (upd H4 T (.tup [V.int here, V.int (here + u)])) l (.lst (xs ++ [V.ref T]))) := (kp4.trans (Kp.of (new_same hT))).putNew hl
        refine ⟨v, rfl, kB.trans ((Kp.of (new_same hM)).trans k5), p5.up (by omega), _, l5, ps ++ [(here, here + u)], (pr.tk (t4.trans (tA.trans tB))).snoc ⟨T, rfl, tB _ _ upd_same⟩, by rw [List.length_append]; simp; omega, ⟨from_snoc fr.1 fr.2.2 b1 (by omega), fun q hq => ?_, fun q hq => ?_⟩, by omega, by omega⟩
        · rcases List.mem_append.mp hq with hq | hq
          · exact fr.2.1 q hq
          · have eq : q = (here, here + u) := by simpa using hq
            rw [eq]
            exact c'
        · rcases List.mem_append.mp hq with hq | hq
          · have := fr.2.2 q hq
            omega
          · have eq : q = (here, here + u) := by simpa using hq
            rw [eq]
            show here + u + 2 ≤ here + u + 2 + v
            omega
      · exact ⟨kp4, p4.up (by omega), xs, l4, ps, pr.tk t4, by omega, fr, b1, b2⟩
    · rintro σ H3 ⟨here, t, e, xs, ps, rfl, k3, p3, l3, pr, hn, fr, b1, b2⟩
      walk_at "rd"
      exact ⟨xs, l3, fun t ht => q _ t xs ps (k3.trans (Kp.of (new_same ht))) ((p3.same (new_same ht)).up (by omega)) upd_same (pr.tk (TK.of (new_same ht))) (by omega) fr.1 fr.2.1⟩
end
end Pf

set_option Elab.async false
set_option linter.all false
set_option maxRecDepth 100000
/-! The rule of points; the law. -/
namespace Pf
open PySem PySem.Spec PyProof.Rows L2
local macro_rules | `(tactic| walk_at "rd") => `(tactic| simp only [tC1, tCK, tB, rNe, rEq, tChain, gTupV, gCons, gNil, Nat.sub_self, Nat.reduceSub, List.replicate_zero, List.replicate_succ, tTest, tIfS, tIf, tNot, tAnd, tOr, tAndV, tOrV, tNotV, tDrop, tNext, rIxV, rIxP,
  gSub, rSetL, tSl, tPart, tNoPart, rSl1, tAsg2, ipI, tDNewK, tBM, rAppend, wipe, rAllB, rAnyB, iTup, iList, RZ.iZipA, iRng1, iRng2, tYes, upd_same, at0, at1, at2, at20, at21, ixN30, ixN32, HO.lst.injEq, HO.tup.injEq, Nat.reduceAdd, tSeq, tAsg, tPar, tAug, tOp, tVar, tC, tCB, tCons, tNil, rI, rI0, rU, tUn, gName, tRet, tLst, tLstM, tTup, L2.start, List.map_cons, List.map_nil, List.length_cons, List.length_nil, List.replicate, List.cons_append,
  List.nil_append, List.set_cons_zero, List.set_cons_succ, List.getElem?_cons_zero, List.getElem?_cons_succ, Option.some.injEq, V.int.injEq, V.ref.injEq, V.bl.injEq, V.str.injEq, List.cons.injEq, exists_eq_left', exists_eq_left, exists_and_left, exists_and_right, and_true, true_and, reduceCtorEq, false_and,
  exists_false, or_false, false_or, exists_const, exists_eq, exists_eq', Bool.not_true, Bool.not_false, Bool.false_eq_true, if_true, if_false, ite_true, ite_false])
/-- two lists of truths, compared -/
def rEqBB : R2 := fun x y H Q => ∃ (a b : Addr) (bs cs : List Bool), x = .ref a ∧ y = .ref b ∧ H a = some (.lst (bs.map V.bl)) ∧ H b = some (.lst (cs.map V.bl)) ∧ Q (.bl (decide (bs = cs))) H
theorem dp_bools {K : PySem.W.Frag} {H : Hp} : ∀ bs : List Bool, DpAll K H (bs.map V.bl) (bs.map PyData.bool)
  | [] => .nil
  | b :: r => .cons (.bl b) (dp_bools r)
theorem lay_bools : ∀ bs : List Bool, PyData.canLayAll0 (bs.map PyData.bool) = true ∧ PyData.depthAll (bs.map PyData.bool) ≤ 1
  | [] => ⟨by simp only [List.map_nil, PyData.canLayAll0], by simp only [List.map_nil, PyData.depthAll]; omega⟩
  | b :: r => by
    obtain ⟨h1, h2⟩ := lay_bools r
    refine ⟨?_, ?_⟩
    · simp only [List.map_cons, PyData.canLayAll0, PyData.canLay0, h1, Bool.and_self]
    · simp only [List.map_cons, PyData.depthAll, PyData.depth]
      omega
theorem shaped_bools (bs : List Bool) : SeqAt.shaped (.list (bs.map PyData.bool)) = true := by
  obtain ⟨h1, h2⟩ := lay_bools bs
  unfold SeqAt.shaped
  simp only [PyData.canLay0, PyData.depth, h1, Bool.true_and, decide_eq_true_eq]
  exact decide_eq_true (Nat.le_trans (Nat.add_le_add_right h2 1) (show 2 ≤ 64 by decide))
theorem eqv_bools : ∀ bs cs : List Bool, PyData.eqvAll (bs.map PyData.bool) (cs.map PyData.bool) = decide (bs = cs)
  | [], [] => by simp only [List.map_nil, PyData.eqvAll]; rfl
  | [], c :: cs => by simp only [List.map_nil, List.map_cons, PyData.eqvAll]; rfl
  | b :: bs, [] => by simp only [List.map_nil, List.map_cons, PyData.eqvAll]; rfl
  | b :: bs, c :: cs => by
    have ih := eqv_bools bs cs
    simp only [List.map_cons, PyData.eqvAll, PyData.eqv, ih]
    cases b <;> cases c <;> simp
theorem op_eqBB {X : Cx} (hu : X.A.units + 64 < cLine) : OpR X (compareOp .Eq) rEqBB := by
  intro pins s σ H x y v u Q I rx ry h
  obtain ⟨a, b, bs, cs, rfl, rfl, e1, e2, k⟩ := h
  refine op_eqD hu pins s σ H _ _ v u Q I rx ry ⟨_, _, .lst (SqL.of e1) (dp_bools bs), .lst (SqL.of e2) (dp_bools cs), shaped_bools bs, shaped_bools cs, ?_⟩
  have ee : PyData.eqv (.list (bs.map PyData.bool)) (.list (cs.map PyData.bool)) = decide (bs = cs) := by simp only [PyData.eqv, eqv_bools]
  rw [ee]
  exact k
section
variable {base : Heap} {P : Program} {w : World} {mg : Str → Option Value} {K : PySem.W.Frag}
theorem cat_for {a b : Addr} {xa xb : List V} {ps qs : List (Int × Int)} {σ : L2.St} {H : Hp} {B : It → Hp → Prop} (h0 : σ[0]? = some (some (.ref a))) (h1 : σ[1]? = some (some (.ref b))) (ea : H a = some (.tup xa)) (eb : H b = some (.tup xb)) (pa : PrAll H xa ps) (pb : PrAll H xb qs) (few : xa.length + xb.length ≤ sizeLine)
    (k : ∀ (H1 : Hp) (u : Addr) (zs : List V), Same H H1 → H1 u = some (.tup zs) → PrAll H1 zs (ps ++ qs) → B (Itt K u) H1) : iTup K (tOp (rCatA K) (tVar 0) (tVar 1)) σ H B := by
  have fin : ∀ (H1 : Hp) (u : Addr) (zs : List V), Same H H1 → H1 u = some (.tup zs) → PrAll H1 zs (ps ++ qs) → ∃ c, V.ref u = V.ref c ∧ (∃ xs, SqT K H1 c xs) ∧ B (Itt K c) H1 := fun H1 u zs s1 eu pz => ⟨u, rfl, ⟨zs, SqT.of eu⟩, k H1 u zs s1 eu pz⟩
  refine ⟨.ref a, h0, .ref b, h1, a, b, xa, xb, rfl, rfl, SqT.of ea, SqT.of eb, few, fun e => ?_, fun e1 e2 => ?_, fun e1 e2 p np => ?_⟩
  · subst e
    cases pa
    exact fin H b xb (Same.refl H) eb pb
  · subst e2
    cases pb
    exact fin H a xa (Same.refl H) ea (by rw [List.append_nil]; exact pa)
  · have s1 := new_same (o := HO.tup (xa ++ xb)) np
    exact fin _ p _ s1 upd_same (PrAll.tk (pa.app pb) (TK.of s1))
def sp_pointsr : Sp := fun vs H Q _ => ∃ (g : Addr) (ys : List V) (x y : V) (p q : Int → Prop), vs = [x, y] ∧ H g = some (.lst ys) ∧ IsSet H x 4 p ∧ IsSet H y 4 q ∧ ∀ H', Same H H' → Q (.bl true) H'
open Classical in
theorem ok_pointsr {f : Addr} {fd : FuncData} (F : Fun K "_law_points_right" "_law_points_right" s__law_points_right f fd) (T : Txt mg) (C_both : Cal P w K mg base 1 "both" sp_both) (C_either : Cal P w K mg base 2 "either" sp_either)
    (C_without : Cal P w K mg base 3 "without" sp_without) (C_holds : Cal P w K mg base 1 "holds" sp_holds) : FnG P w K mg base 4 f fd ["_law_one", "_law_two"] sp_pointsr := by
  refine okG F sc__law_points_right (fun vs H Q E h => ?_) (fun cdv A outer s H vs Q E hg hr h => ?_)
  · obtain ⟨g, ys, x, y, p, q, rfl, _⟩ := h
    rfl
  · obtain ⟨g, ys, x, y, p, q, rfl, eg, X0, Y0, k⟩ := h
    replace hr := And.intro hg hr
    refine ⟨_, (pss_cons (ps_for PassesOwn.never rfl (pi_tup (pe_op op_catA (pv 0) (pv 1))) (pg_tupV (n := 2) rfl (pgs_cons (pg_name (i := 2) sc__law_points_right.nd rfl (Or.inl rfl)) (pgs_cons (pg_name (i := 3) sc__law_points_right.nd rfl (Or.inl rfl)) pgs_nil))) (pss_one (ps_for PassesOwn.never rfl (pi_tup (pe_tup (pa_cons (pe_op op_sub (pv 2) pe_int) (pa_cons (pv 2) (pa_cons (pv 3) (pa_cons (pe_op op_add (pv 3) pe_int) pa_nil)))))) (pg_name (i := 4) sc__law_points_right.nd rfl (Or.inl rfl)) (pss_cons (ps_set (i := 5) sc__law_points_right.nd rfl (Or.inl rfl) (pe_lst (pa_cons (pe_c C_holds hr (by decide) (by rfl) (pa_cons (pv 0) (pa_cons (pv 4) pa_nil))) (pa_cons (pe_c C_holds hr (by decide) (by rfl) (pa_cons (pv 1) (pa_cons (pv 4) pa_nil))) pa_nil))))
        (pss_cons (ps_if (PW.pt (pw_or (pt_cmpR op_ne (pe_c C_holds hr (by decide) (by rfl) (pa_cons (pe_c C_both hr (by decide) (by rfl) (pa_cons (pv 0) (pa_cons (pv 1) pa_nil))) (pa_cons (pv 4) pa_nil))) (pe_cmpR (op_eqBB hr.2.u64) (pv 5) (pe_lst (pa_cons pe_bl (pa_cons pe_bl pa_nil))) (nomark _)) (nomark _)) (pw_or1 (pt_cmpR op_ne (pe_c C_holds hr (by decide) (by rfl) (pa_cons (pe_c C_either hr (by decide) (by rfl) (pa_cons (pv 0) (pa_cons (pv 1) pa_nil))) (pa_cons (pv 4) pa_nil))) (pe_callB (call_anyB rfl) (by rfl) T.b_any (by decide +kernel) (pa_cons (pv 5) pa_nil)) (nomark _))))) (pss_one (ps_ret pe_bl)) pss_nil)
        (pss_one (ps_if (pt_cmpR op_ne (pe_c C_holds hr (by decide) (by rfl) (pa_cons (pe_c C_without hr (by decide) (by rfl) (pa_cons (pv 0) (pa_cons (pv 1) pa_nil))) (pa_cons (pv 4) pa_nil))) (pe_cmpR (op_eqBB hr.2.u64) (pv 5) (pe_lst (pa_cons pe_bl (pa_cons pe_bl pa_nil))) (nomark _)) (nomark _)) (pss_one (ps_ret pe_bl)) pss_nil)))))))
        (pss_one (ps_ret pe_bl))), ?_⟩
    obtain ⟨a, ps, rfl, S1, rg1, l1, i1⟩ := id X0
    obtain ⟨b, qs, rfl, S2, rg2, l2, i2⟩ := id Y0
    obtain ⟨xa, ea, pa⟩ := S1
    obtain ⟨xb, eb, pb⟩ := S2
    have la := pa.len
    have lb := pb.len
    walk_at "rd"
    show iTup K (tOp (rCatA K) (tVar 0) (tVar 1)) _ H _
    have big : (16 : Nat) ≤ sizeLine := by decide
    refine cat_for rfl rfl ea eb pa pb (by omega) fun H1 u zs s1 eu pz => for_tup (K := K) (xs := zs) (fun i σ H' => ∃ u2 u3 u4 u5 : Option V, σ = [some (.ref a), some (.ref b), u2, u3, u4, u5] ∧ Same H1 H') ⟨_, _, _, _, rfl, Same.refl H1⟩ (fun i σ H' _ ⟨_, _, _, _, _, ss⟩ => SqT.of (ss _ _ eu)) ?_ ?_
    · rintro i v σ H2 hx ⟨u2, u3, u4, u5, rfl, s2⟩
      have zl := pz.len
      have hi : i < (ps ++ qs).length := by
        have := (List.getElem?_eq_some_iff.mp hx).1
        omega
      obtain ⟨t, it, ht⟩ := (PrAll.tk pz (TK.of s2)).at hi
      have ex : v = .ref t := by
        rw [atI_nat hx] at it
        exact Option.some.inj it
      subst ex
      generalize (ps ++ qs)[i] = pr at *
      walk_at "rd"
      simp only [ht, Option.some.injEq, HO.tup.injEq, exists_eq_left']
      walk_at "rd"
      refine ⟨_, _, ⟨rfl, rfl⟩, _, _, rfl, rfl, .int pr.1, rfl, pr.1, 1, rfl, rfl, .int pr.1, rfl, .int pr.2, rfl, .int pr.2, rfl, pr.2, 1, rfl, rfl, show 4 ≤ sizeLine by decide, fun N nN => ?_⟩
      have sN := new_same (o := HO.tup [V.int (pr.1 - 1), V.int pr.1, V.int pr.2, V.int (pr.2 + 1)]) nN
      have eN : upd H2 N (HO.tup [V.int (pr.1 - 1), V.int pr.1, V.int pr.2, V.int (pr.2 + 1)]) N = some (.tup [V.int (pr.1 - 1), V.int pr.1, V.int pr.2, V.int (pr.2 + 1)]) := upd_same
      have s1N := s2.trans sN
      generalize upd H2 N (HO.tup [V.int (pr.1 - 1), V.int pr.1, V.int pr.2, V.int (pr.2 + 1)]) = H3 at *
      refine ⟨N, rfl, ⟨_, SqT.of eN⟩, for_tup (K := K) (xs := [V.int (pr.1 - 1), V.int pr.1, V.int pr.2, V.int (pr.2 + 1)]) (fun j σ H' => ∃ u4 u5 : Option V, σ = [some (.ref a), some (.ref b), some (.int pr.1), some (.int pr.2), u4, u5] ∧ Same H3 H') ⟨_, _, rfl, Same.refl _⟩ (fun i σ H' _ ⟨_, _, _, ss⟩ => SqT.of (ss _ _ eN)) ?_ ?_⟩
      · rintro j v σ H4 hx2 ⟨w4, w5, rfl, s4⟩
        obtain ⟨n, rfl⟩ : ∃ n, v = V.int n := by
          have m := List.mem_of_getElem? hx2
          simp only [List.mem_cons, List.not_mem_nil, or_false] at m
          rcases m with rfl | rfl | rfl | rfl <;> exact ⟨_, rfl⟩
        have s04 := s1.trans (s1N.trans s4)
        have X := X0.same s04
        have Y := Y0.same s04
        have G := s04 _ _ eg
        walk_at "rd"
        have e1 : ∀ i1 : Decidable (p n ∧ q n), @decide (p n ∧ q n) i1 = decide ([decide (p n), decide (q n)] = [true, true]) := fun _ => by by_cases h1 : p n <;> by_cases h2 : q n <;> simp [h1, h2]
        have e2 : ∀ i1 : Decidable (p n ∨ q n), @decide (p n ∨ q n) i1 = [decide (p n), decide (q n)].any id := fun _ => by by_cases h1 : p n <;> by_cases h2 : q n <;> simp [h1, h2]
        have e3 : ∀ i1 : Decidable (p n ∧ ¬ q n), @decide (p n ∧ ¬ q n) i1 = decide ([decide (p n), decide (q n)] = [true, false]) := fun _ => by by_cases h1 : p n <;> by_cases h2 : q n <;> simp [h1, h2]
        refine holds_is X (by decide) G (holds_is Y (by decide) G ⟨by decide, fun D nD => ?_⟩)
        have sD := new_same (o := HO.lst [V.bl (decide (p n)), V.bl (decide (q n))]) nD
        have eD : upd H4 D (HO.lst [V.bl (decide (p n)), V.bl (decide (q n))]) D = some (.lst ([decide (p n), decide (q n)].map V.bl)) := upd_same
        generalize upd H4 D (HO.lst [V.bl (decide (p n)), V.bl (decide (q n))]) = H5 at *
        refine both_is (X.same sD) (Y.same sD) (by decide) (by decide) fun H6 v6 s6 I6 => ?_
        refine holds_is I6 (by decide) (s6 _ _ (sD _ _ G)) ⟨by decide, fun E nE => ?_⟩
        have sE := new_same (o := HO.lst [V.bl true, V.bl true]) nE
        have s5E := sD.trans (s6.trans sE)
        refine ⟨D, E, [decide (p n), decide (q n)], [true, true], rfl, rfl, sE _ _ (s6 _ _ eD), upd_same, ?_⟩
        rw [e1]
        refine ⟨rfl, iteNS rfl ?_⟩
        refine either_is (X.same s5E) (Y.same s5E) (by decide) (by decide) fun H7 v7 s7 I7 => ?_
        have s57 := s5E.trans s7
        refine holds_is I7 (by decide) (s57 _ _ G) ⟨[decide (p n), decide (q n)], s7 _ _ (sE _ _ (s6 _ _ eD)), ?_⟩
        rw [e2]
        refine ⟨rfl, iteNS rfl ?_⟩
        refine without_is (X.same s57) (Y.same s57) (by decide) (by decide) fun H8 v8 s8 I8 => ?_
        have s58 := s57.trans s8
        refine holds_is I8 (by decide) (s58 _ _ G) ⟨by decide, fun M nM => ?_⟩
        have sM := new_same (o := HO.lst [V.bl true, V.bl false]) nM
        refine ⟨D, M, [decide (p n), decide (q n)], [true, false], rfl, rfl, sM _ _ (s8 _ _ (s7 _ _ (sE _ _ (s6 _ _ eD)))), upd_same, ?_⟩
        rw [e3]
        exact ⟨rfl, iteNS rfl (s4.trans (s58.trans sM))⟩
      · rintro σ H4 ⟨w4, w5, rfl, s4⟩
        walk_at "rd"
        exact s1N.trans s4
    · rintro σ H2 ⟨u2, u3, u4, u5, rfl, s2⟩
      walk_at "rd"
      exact k H2 (s1.trans s2)
end
end Pf

set_option Elab.async false
set_option linter.all false
set_option maxRecDepth 100000
/-! The law's look, the law. -/
namespace Pf
open PySem PySem.Spec PyProof.Rows L2
local macro_rules | `(tactic| walk_at "rd") => `(tactic| simp only [tC1, tCK, tB, rNe, rEq, tChain, gTupV, gCons, gNil, Nat.sub_self, Nat.reduceSub, List.replicate_zero, List.replicate_succ, tTest, tIfS, tIf, tNot, tAnd, tOr, tAndV, tOrV, tNotV, tDrop, tNext, rIxV, rIxP,
  gSub, rSetL, tSl, tPart, tNoPart, rSl1, tAsg2, ipI, tDNewK, tBM, rAppend, wipe, rAllB, rAnyB, iTup, iList, RZ.iZipA, iRng1, iRng2, tYes, upd_same, at0, at1, at2, at20, at21, ixN30, ixN32, HO.lst.injEq, HO.tup.injEq, Nat.reduceAdd, tSeq, tAsg, tPar, tAug, tOp, tVar, tC, tCB, tCons, tNil, rI, rI0, rU, tUn, gName, tRet, tLst, tLstM, tTup, L2.start, List.map_cons, List.map_nil, List.length_cons, List.length_nil, List.replicate, List.cons_append,
  List.nil_append, List.set_cons_zero, List.set_cons_succ, List.getElem?_cons_zero, List.getElem?_cons_succ, Option.some.injEq, V.int.injEq, V.ref.injEq, V.bl.injEq, V.str.injEq, List.cons.injEq, exists_eq_left', exists_eq_left, exists_and_left, exists_and_right, and_true, true_and, reduceCtorEq, false_and,
  exists_false, or_false, false_or, exists_const, exists_eq, exists_eq', Bool.not_true, Bool.not_false, Bool.false_eq_true, if_true, if_false, ite_true, ite_false])
section
variable {base : Heap} {P : Program} {w : World} {mg : Str → Option Value} {K : PySem.W.Frag}
def sp_right : Sp := fun vs H Q _ => ∃ (p : Addr), vs = [.ref p] ∧ Pot H p 0 ∧ ∀ H', Kp p H H' → Q (.bl true) H'
theorem ok_right {f : Addr} {fd : FuncData} (F : Fun K "_law_right" "_law_right" s__law_right f fd) (T : Txt mg) (C__law_any : Cal P w K mg base 2 "_law_any" sp_any) (C__law_spans : Cal P w K mg base 3 "_law_spans" sp_spans)
    (C__law_sets_right : Cal P w K mg base 4 "_law_sets_right" sp_setsr) (C__law_points_right : Cal P w K mg base 4 "_law_points_right" sp_pointsr) (C__law_sums_right : Cal P w K mg base 5 "_law_sums_right" sp_sumsr) : FnG P w K mg base 6 f fd ["_law_pot_here"] sp_right := by
  refine okG F sc__law_right (fun vs H Q E h => ?_) (fun cdv A outer s H vs Q E hg hr h => ?_)
  · obtain ⟨p, rfl, _⟩ := h
    rfl
  · obtain ⟨p, rfl, hp, q⟩ := h
    replace hr := And.intro hg hr
    refine ⟨_, (pss_cons (ps_for PassesOwn.never rfl (pi_range1 (by rfl) T.b_range (pa_cons pe_int pa_nil)) (pg_name (i := 1) sc__law_right.nd rfl (Or.inl rfl)) (pss_cons (ps_set (i := 2) sc__law_right.nd rfl (Or.inr rfl) (pe_c C__law_any hr (by decide) (by rfl) (pa_cons (pv 0) (pa_cons (pe_lst (pa_cons pe_int (pa_cons pe_int (pa_cons pe_int (pa_cons (pe_op op_powW pe_int pe_int) pa_nil))))) pa_nil))))
        (pss_cons (ps_asg (pe_lc (own := [("_law_again", 6)]) (g := gName 6) (tt := tYes) rfl sc__law_right.nd (pi_range1 (by rfl) T.b_range (pa_cons pe_int pa_nil)) (blkOk_by (own := [("_law_again", 6)]) (N := ["_law_pot_here", "_law_turn", "_law_far", "_law_one", "_law_two", "_law_three", "_law_again"]) (sc := defScope s__law_right) (by decide +kernel)) (fun _ _ _ _ _ => (pg_name (i := 6) sc__law_right.nd rfl (Or.inl rfl))) (fun _ _ _ _ _ => pts_nil) (fun _ _ _ _ _ => (pe_c C__law_spans hr (by decide) (by rfl) (pa_cons (pv 0) (pa_cons pe_int (pa_cons (pe_op op_sub pe_int (pv 2)) (pa_cons (pv 2) pa_nil))))))) (pg_lst (n := 3) rfl (pgs_cons (pg_name (i := 3) sc__law_right.nd rfl (Or.inl rfl)) (pgs_cons (pg_name (i := 4) sc__law_right.nd rfl (Or.inl rfl)) (pgs_cons (pg_name (i := 5) sc__law_right.nd rfl (Or.inl rfl)) pgs_nil)))))
        (pss_cons (ps_if (PW.pt (pw_or (pt_not (pt_val (pe_c C__law_sets_right hr (by decide) (by rfl) (pa_cons (pv 3) (pa_cons (pv 4) (pa_cons (pv 5) pa_nil)))))) (pw_or1 (pt_not (pt_val (pe_c C__law_points_right hr (by decide) (by rfl) (pa_cons (pv 3) (pa_cons (pv 4) pa_nil)))))))) (pss_one (ps_ret pe_bl)) pss_nil)
        (pss_one (ps_if (pt_not (pt_val (pe_c C__law_sums_right hr (by decide) (by rfl) (pa_cons (pv 0) (pa_cons (pe_slice (sl_set (k := 3)) (pv 3) po_none (po_some pe_int)) (pa_cons (pe_slice (sl_set (k := 3)) (pv 4) po_none (po_some pe_int)) (pa_cons (pe_slice (sl_set (k := 2)) (pv 5) po_none (po_some pe_int)) pa_nil))))))) (pss_one (ps_ret pe_bl)) pss_nil))))))
        (pss_one (ps_ret pe_bl))), ?_⟩
    walk_at "rd"
    refine ⟨20, rfl, by decide, by decide, for_range (lo := 0) (n := 20) (fun i σ H' => ∃ s1 s2 s3 s4 s5 s6 : Option V, σ = [some (.ref p), s1, s2, s3, s4, s5, s6] ∧ Kp p H H' ∧ Pot H' p (300 * i)) ⟨_, _, _, _, _, _, rfl, Kp.refl _ _, hp⟩ ?_ ?_⟩
    · rintro i σ H0 hi ⟨s1, s2, s3, s4, s5, s6, rfl, k0, p0⟩
      walk_at "rd"
      refine ⟨by decide +kernel, by decide, fun L nL => ?_⟩
      obtain ⟨yp, ep⟩ := p0.lst
      have sL := new_same (o := HO.lst [V.int 6, V.int 40, V.int 9999, V.int (10 ^ Int.toNat 20)]) nL
      refine ⟨p, L, _, 300 * i, rfl, p0.same sL, by omega, (ne_of_none ep nL).symm, upd_same, by simp, by simp, fun H1 x k1 p1 mx => ?_⟩
      have big : (10 : Int) ^ 20 = 100000000000000000000 := by decide
      obtain ⟨F, rfl, F0, F1⟩ : ∃ F : Int, x = .int F ∧ 0 ≤ F ∧ F ≤ 100000000000000000000 := by
        simp only [List.mem_cons, List.not_mem_nil, or_false] at mx
        rcases mx with rfl | rfl | rfl | rfl
        · exact ⟨_, rfl, by decide, by decide⟩
        · exact ⟨_, rfl, by decide, by decide⟩
        · exact ⟨_, rfl, by decide, by decide⟩
        · exact ⟨_, rfl, by decide +kernel, by decide +kernel⟩
      have k01 : Kp p H H1 := k0.trans ((Kp.of sL).trans k1)
      obtain ⟨y1, e1⟩ := p1.lst
      have b110 : (2 : Int) ^ 110 = 1298074214633706907132624082305024 := by decide
      refine ⟨3, rfl, by decide, by decide, fun D nD => lc_it (walk_range (lo := 0) (n := 3)) (fun j H' => ∃ vs : List V, H' D = some (.lst vs) ∧ vs.length = j ∧ (∀ v ∈ vs, ∃ pp, IsSet H' v 4 pp) ∧ Kp p H1 H' ∧ Pot H' p (300 * i + 1 + 60 * j))
        ⟨[], upd_same, rfl, fun _ m => (List.not_mem_nil m).elim, Kp.new nD, p1.same (new_same nD)⟩ (fun _ _ _ _ => trivial) ?_ ?_⟩
      · rintro j x2 G G' hj ⟨vs, eD, lv, av, kG, pG⟩ ⟨rfl, rfl⟩
        refine ⟨rfl, ?_⟩
        walk_at "rd"
        have nDp : D ≠ p := (ne_of_none e1 nD).symm
        obtain ⟨yG, eG⟩ := pG.lst
        refine ⟨p, 4, _, _, 300 * i + 1 + 60 * j, rfl, pG, by omega, by decide, by omega, by omega, by omega, fun H' t xs ps kk pp et pr ll ff uu => ?_⟩
        have eD' := kk _ _ nDp eD
        have t1 := TK.kp kk eG
        have t2 : TK H' (upd H' D (HO.lst (vs ++ [V.ref t]))) := TK.put eD'
        refine ⟨vs, eD', Nat.lt_of_le_of_lt (show vs.length ≤ 3 by omega) (by decide), by rw [List.length_append, lv]; rfl, fun v m => ?_, (kG.trans kk).putNew nD, ?_⟩
        · rcases List.mem_append.mp m with m | m
          · obtain ⟨pp', hp'⟩ := av v m
            exact ⟨pp', hp'.tk (t1.trans t2)⟩
          · rw [List.mem_singleton.mp m]
            exact ⟨fun n => Rng.In n ps, t, ps, rfl, ⟨xs, t2 _ _ et, pr.tk t2⟩, ⟨_, ff⟩, ll, fun n => Iff.rfl⟩
        · exact (pp.eq (by rw [upd_ne nDp.symm])).up (by omega)
      · rintro G ⟨vs, eD, lv, av, kG, pG⟩
        match vs, lv with
        | [v1, v2, v3], _ =>
        obtain ⟨pa, ha⟩ := av v1 List.mem_cons_self
        obtain ⟨pb, hb⟩ := av v2 (List.mem_cons_of_mem _ List.mem_cons_self)
        obtain ⟨pc, hc⟩ := av v3 (List.mem_cons_of_mem _ (List.mem_cons_of_mem _ List.mem_cons_self))
        have k0G := k01.trans kG
        refine ⟨D, _, rfl, SqL.of eD, rfl, ?_⟩
        walk_at "rd"
        obtain ⟨yG, eG⟩ := pG.lst
        refine ⟨_, _, ⟨rfl, rfl⟩, _, _, rfl, _, _, rfl, rfl, ?_⟩
        refine ⟨v1, v2, v3, pa, pb, pc, rfl, ha, hb, hc, fun G1 s1 => ⟨true, rfl, iteF ?_⟩⟩
        refine ⟨p, yG, v1, v2, pa, pb, rfl, s1 _ _ eG, ha.same s1, hb.same s1, fun G2 s2 => ⟨true, rfl, iteF ?_⟩⟩
        have s12 := s1.trans s2
        refine ⟨4, pa, ha.same s12, rfl, rfl, fun G3 w1 q1 s3 i1 => ⟨4, pb, hb.same (s12.trans s3), rfl, rfl, fun G4 w2 q2 s4 i2 => ⟨4, pc, hc.same (s12.trans (s3.trans s4)), rfl, rfl, fun G5 w3 q3 s5 i3 => ?_⟩⟩⟩
        have s15 := s12.trans (s3.trans (s4.trans s5))
        exact ⟨p, 300 * i + 1 + 60 * 3, w1, w2, w3, q1, q2, q3, rfl, pG.same s15, by omega, i1.same (s4.trans s5), i2.same s5, i3, fun G6 k6 p6 => ⟨true, rfl, iteF ⟨(k0G.trans (Kp.of s15)).trans k6, p6.up (by omega)⟩⟩⟩
    · rintro σ H0 ⟨s1, s2, s3, s4, s5, s6, rfl, k0, p0⟩
      walk_at "rd"
      exact q _ k0
def sp_law (K : PySem.W.Frag) : Sp := fun vs H Q _ => ∃ (a : Addr) (ns : List Int), vs = [.ref a] ∧ SqL K H a (ns.map V.int) ∧ ns.length ≤ 63 ∧ ∀ H', Q (.bl true) H'
theorem ok_law {f : Addr} {fd : FuncData} (F : Fun K "law" "law" s_law f fd) (T : Txt mg) (C__law_pot : Cal P w K mg base 1 "_law_pot" (sp_pot K)) (C__law_right : Cal P w K mg base 6 "_law_right" sp_right) : FnG P w K mg base 7 f fd ["_law_script"] (sp_law K) := by
  refine okG F sc_law (fun vs H Q E h => ?_) (fun cdv A outer s H vs Q E hg hr h => ?_)
  · obtain ⟨a, ns, rfl, _⟩ := h
    rfl
  · obtain ⟨a, ns, rfl, hS, hl, q⟩ := h
    replace hr := And.intro hg hr
    refine ⟨_, (pss_cons (ps_for PassesOwn.never rfl (pi_range1 (by rfl) T.b_range (pa_cons (pe_callB (call_max2 rfl) (by rfl) T.b_max (by decide +kernel) (pa_cons pe_int (pa_cons (pe_callB (call_min2 rfl) (by rfl) T.b_min (by decide +kernel) (pa_cons pe_int (pa_cons (pe_callB call_len_seq (by rfl) T.b_len (by decide +kernel) (pa_cons (pv 0) pa_nil)) pa_nil))) pa_nil))) pa_nil)) (pg_name (i := 1) sc_law.nd rfl (Or.inl rfl)) (pss_one (ps_if (pt_not (pt_val (pe_c C__law_right hr (by decide) (by rfl) (pa_cons (pe_c C__law_pot hr (by decide) (by rfl) (pa_cons (pv 0) (pa_cons (pv 1) pa_nil))) pa_nil)))) (pss_one (ps_ret pe_bl)) pss_nil)))
        (pss_one (ps_ret pe_bl))), ?_⟩
    walk_at "rd"
    have least : ∀ L : Int, 0 ≤ L → 0 ≤ (if (if L < 3 then L else 3) > 1 then (if L < 3 then L else 3) else 1) ∧ (if (if L < 3 then L else 3) > 1 then (if L < 3 then L else 3) else 1) ≤ 3 := fun L h => by
      split <;> split <;> omega
    obtain ⟨b1, b2⟩ := least ((ns.map V.int).length : Nat) (by omega)
    refine ⟨.ref a, rfl, a, rfl, ns.map V.int, .inl hS, 3, _, rfl, 1, _, rfl, _, rfl, ?_, ?_, for_range (lo := 0) (fun i σ H' => ∃ t : Option V, σ = [some (.ref a), t] ∧ Same H H') ⟨none, rfl, Same.refl _⟩ ?_ ?_⟩
    · exact Int.le_trans (by decide) b1
    · exact Int.lt_of_le_of_lt b2 (by decide)
    · rintro i σ H0 hi ⟨t, rfl, s0⟩
      have i3 : i < 3 := by
        have := Int.toNat_le_toNat b2
        exact Nat.lt_of_lt_of_le hi this
      walk_at "rd"
      refine ⟨a, ns, i, by rw [Int.zero_add], s0.seq hS, hl, by omega, fun H1 p s1 np pot => ⟨p, rfl, pot, fun H2 k2 => ?_⟩⟩
      have s2 : Same H H2 := fun c o e => k2 c o (ne_of_none (s0 _ _ e) np) (s1 _ _ (s0 _ _ e))
      exact ⟨true, rfl, iteF s2⟩
    · rintro σ H0 ⟨t, rfl, s0⟩
      walk_at "rd"
      exact q _
end
end Pf

set_option Elab.async false
set_option linter.all false
set_option maxRecDepth 100000
/-! The end. -/
namespace Pf
open PySem PySem.Spec PyProof.Rows L2
section
variable {base : Heap} {P : Program} {w : World} {mg : Str → Option Value} {K : PySem.W.Frag}
theorem all_ok {f : Addr} {fd : FuncData} (T : Txt mg) (ND : base.NoDigits) (F : Fun K "law" "law" s_law f fd)
    {f0 : Addr} {fd0 : FuncData} (F0 : Fun K "added_by_bits" "added_by_bits" s_added_by_bits f0 fd0) (b0 : Binds K fd0 ["one", "other"] []) (m0 : mg "added_by_bits" = some (.ref f0))
    {f1 : Addr} {fd1 : FuncData} (F1 : Fun K "bits_of" "bits_of" s_bits_of f1 fd1) (b1 : Binds K fd1 ["ranges"] []) (m1 : mg "bits_of" = some (.ref f1))
    {f2 : Addr} {fd2 : FuncData} (F2 : Fun K "smeared" "smeared" s_smeared f2 fd2) (b2 : Binds K fd2 ["bits", "width"] []) (m2 : mg "smeared" = some (.ref f2))
    {f3 : Addr} {fd3 : FuncData} (F3 : Fun K "ranges_of" "ranges_of" s_ranges_of f3 fd3) (b3 : Binds K fd3 ["bits", "least"] []) (m3 : mg "ranges_of" = some (.ref f3))
    {f4 : Addr} {fd4 : FuncData} (F4 : Fun K "is_number" "is_number" s_is_number f4 fd4) (b4 : Binds K fd4 ["value"] []) (m4 : mg "is_number" = some (.ref f4))
    {f5 : Addr} {fd5 : FuncData} (F5 : Fun K "is_ranges" "is_ranges" s_is_ranges f5 fd5) (b5 : Binds K fd5 ["value"] []) (m5 : mg "is_ranges" = some (.ref f5))
    {f6 : Addr} {fd6 : FuncData} (F6 : Fun K "holds" "holds" s_holds f6 fd6) (b6 : Binds K fd6 ["ranges", "number"] []) (m6 : mg "holds" = some (.ref f6))
    {f7 : Addr} {fd7 : FuncData} (F7 : Fun K "both" "both" s_both f7 fd7) (b7 : Binds K fd7 ["one", "other"] []) (m7 : mg "both" = some (.ref f7))
    {f8 : Addr} {fd8 : FuncData} (F8 : Fun K "either" "either" s_either f8 fd8) (b8 : Binds K fd8 ["one", "other"] []) (m8 : mg "either" = some (.ref f8))
    {f9 : Addr} {fd9 : FuncData} (F9 : Fun K "without" "without" s_without f9 fd9) (b9 : Binds K fd9 ["one", "other"] []) (m9 : mg "without" = some (.ref f9))
    {f10 : Addr} {fd10 : FuncData} (F10 : Fun K "added" "added" s_added f10 fd10) (b10 : Binds K fd10 ["one", "other"] []) (m10 : mg "added" = some (.ref f10))
    {f11 : Addr} {fd11 : FuncData} (F11 : Fun K "sums" "sums" s_sums f11 fd11) (b11 : Binds K fd11 ["ranges", "many"] []) (m11 : mg "sums" = some (.ref f11))
    {f12 : Addr} {fd12 : FuncData} (F12 : Fun K "is_pair" "is_pair" s_is_pair f12 fd12) (b12 : Binds K fd12 ["value"] []) (m12 : mg "is_pair" = some (.ref f12))
    {f13 : Addr} {fd13 : FuncData} (F13 : Fun K "united" "united" s_united f13 fd13) (b13 : Binds K fd13 ["pairs"] []) (m13 : mg "united" = some (.ref f13))
    {f14 : Addr} {fd14 : FuncData} (F14 : Fun K "gaps" "gaps" s_gaps f14 fd14) (b14 : Binds K fd14 ["ranges", "low", "high"] []) (m14 : mg "gaps" = some (.ref f14))
    {f15 : Addr} {fd15 : FuncData} (F15 : Fun K "_law_pot" "_law_pot" s__law_pot f15 fd15) (b15 : Binds K fd15 ["_law_script", "_law_k"] []) (m15 : mg "_law_pot" = some (.ref f15))
    {f16 : Addr} {fd16 : FuncData} (F16 : Fun K "_law_draw" "_law_draw" s__law_draw f16 fd16) (b16 : Binds K fd16 ["_law_pot_here", "_law_many"] []) (m16 : mg "_law_draw" = some (.ref f16))
    {f17 : Addr} {fd17 : FuncData} (F17 : Fun K "_law_any" "_law_any" s__law_any f17 fd17) (b17 : Binds K fd17 ["_law_pot_here", "_law_items"] []) (m17 : mg "_law_any" = some (.ref f17))
    {f18 : Addr} {fd18 : FuncData} (F18 : Fun K "_law_spans" "_law_spans" s__law_spans f18 fd18) (b18 : Binds K fd18 ["_law_pot_here", "_law_most", "_law_low", "_law_high"] []) (m18 : mg "_law_spans" = some (.ref f18))
    {f19 : Addr} {fd19 : FuncData} (F19 : Fun K "_law_sets_right" "_law_sets_right" s__law_sets_right f19 fd19) (b19 : Binds K fd19 ["_law_one", "_law_two", "_law_three"] []) (m19 : mg "_law_sets_right" = some (.ref f19))
    {f20 : Addr} {fd20 : FuncData} (F20 : Fun K "_law_sums_right" "_law_sums_right" s__law_sums_right f20 fd20) (b20 : Binds K fd20 ["_law_pot_here", "_law_one", "_law_two", "_law_three"] []) (m20 : mg "_law_sums_right" = some (.ref f20))
    {f21 : Addr} {fd21 : FuncData} (F21 : Fun K "_law_points_right" "_law_points_right" s__law_points_right f21 fd21) (b21 : Binds K fd21 ["_law_one", "_law_two"] []) (m21 : mg "_law_points_right" = some (.ref f21))
    {f22 : Addr} {fd22 : FuncData} (F22 : Fun K "_law_right" "_law_right" s__law_right f22 fd22) (b22 : Binds K fd22 ["_law_pot_here"] []) (m22 : mg "_law_right" = some (.ref f22)) :
    FnG P w K mg base 7 f fd ["_law_script"] (sp_law K) := by
  have C_bits_of : Cal P w K mg base 1 "bits_of" sp_bits := ⟨_, _, _, ok_bits F1 T ND, m1, F1.kp, b1⟩
  have C_smeared : Cal P w K mg base 1 "smeared" sp_smeared := ⟨_, _, _, ok_smeared F2 T, m2, F2.kp, b2⟩
  have C_ranges_of : Cal P w K mg base 1 "ranges_of" sp_rof := ⟨_, _, _, ok_rof F3 T, m3, F3.kp, b3⟩
  have C_abb : Cal P w K mg base 2 "added_by_bits" sp_abb := ⟨_, _, _, ok_abb F0 T C_bits_of C_smeared C_ranges_of, m0, F0.kp, b0⟩
  have C_united : Cal P w K mg base 1 "united" sp_united := ⟨_, _, _, ok_united F13 T, m13, F13.kp, b13⟩
  have C_both : Cal P w K mg base 1 "both" sp_both := ⟨_, _, _, ok_both F7 T, m7, F7.kp, b7⟩
  have C_gaps : Cal P w K mg base 2 "gaps" sp_gaps := ⟨_, _, _, ok_gaps F14 T C_both, m14, F14.kp, b14⟩
  have C_without : Cal P w K mg base 3 "without" sp_without := ⟨_, _, _, ok_without F9 T C_both C_gaps, m9, F9.kp, b9⟩
  have C_either : Cal P w K mg base 2 "either" sp_either := ⟨_, _, _, ok_either F8 T C_united, m8, F8.kp, b8⟩
  have C_added : Cal P w K mg base 3 "added" sp_added := ⟨_, _, _, ok_added F10 T C_abb C_united, m10, F10.kp, b10⟩
  have C_sums : Cal P w K mg base 4 "sums" sp_sums := ⟨_, _, _, ok_sums F11 T C_added, m11, F11.kp, b11⟩
  have C_number : Cal P w K mg base 1 "is_number" sp_number := ⟨_, _, _, ok_number F4 T, m4, F4.kp, b4⟩
  have C_pair : Cal P w K mg base 2 "is_pair" sp_pair := ⟨_, _, _, ok_pair F12 T C_number, m12, F12.kp, b12⟩
  have C_ranges : Cal P w K mg base 3 "is_ranges" sp_ranges := ⟨_, _, _, ok_ranges F5 T C_pair, m5, F5.kp, b5⟩
  have C_holds : Cal P w K mg base 1 "holds" sp_holds := ⟨_, _, _, ok_holds F6 T, m6, F6.kp, b6⟩
  have C_pot : Cal P w K mg base 1 "_law_pot" (sp_pot K) := ⟨_, _, _, ok_pot F15 T, m15, F15.kp, b15⟩
  have C_draw : Cal P w K mg base 1 "_law_draw" sp_draw := ⟨_, _, _, ok_draw F16 T, m16, F16.kp, b16⟩
  have C_any : Cal P w K mg base 2 "_law_any" sp_any := ⟨_, _, _, ok_any F17 T C_draw, m17, F17.kp, b17⟩
  have C_spans : Cal P w K mg base 3 "_law_spans" sp_spans := ⟨_, _, _, ok_spans F18 T C_draw C_any, m18, F18.kp, b18⟩
  have C_sets : Cal P w K mg base 4 "_law_sets_right" sp_setsr := ⟨_, _, _, ok_setsr F19 T C_both C_either C_without C_added C_ranges, m19, F19.kp, b19⟩
  have C_sumsr : Cal P w K mg base 5 "_law_sums_right" sp_sumsr := ⟨_, _, _, ok_sumsr F20 T C_either C_added C_sums C_draw, m20, F20.kp, b20⟩
  have C_points : Cal P w K mg base 4 "_law_points_right" sp_pointsr := ⟨_, _, _, ok_pointsr F21 T C_both C_either C_without C_holds, m21, F21.kp, b21⟩
  have C_right : Cal P w K mg base 6 "_law_right" sp_right := ⟨_, _, _, ok_right F22 T C_any C_spans C_sets C_points C_sumsr, m22, F22.kp, b22⟩
  exact ok_law F T C_pot C_right
end
theorem all_mk {l : PySem.W.OpenLaw} {w : World} {K : PySem.W.Frag} {h : Heap} {mg : Str → Option Value} {fa f0 f1 f2 f3 f4 f5 f6 f7 f8 f9 f10 f11 f12 f13 f14 f15 f16 f17 f18 f19 f20 f21 f22 f23 : Addr} (X : K.In h) (G : h.Ns mainGlobals mg) (hfa : mg "law" = some (.ref fa))
    {od0 an0 od1 an1 od2 an2 od3 an3 od4 an4 od5 an5 od6 an6 od7 an7 od8 an8 od9 an9 od10 an10 od11 an11 od12 an12 od13 an13 od14 an14 od15 an15 od16 an16 od17 an17 od18 an18 od19 an19 od20 an20 od21 an21 od22 an22 od23 an23 : Option Addr} {sl0 sl1 sl2 sl3 sl4 sl5 sl6 sl7 sl8 sl9 sl10 sl11 sl12 sl13 sl14 sl15 sl16 sl17 sl18 sl19 sl20 sl21 sl22 sl23 : Array (Option Value)} {oc0 kV0 dc0 pm0 cd0 ct0 oc1 kV1 dc1 pm1 cd1 ct1 oc2 kV2 dc2 pm2 cd2 ct2 oc3 kV3 dc3 pm3 cd3 ct3 oc4 kV4 dc4 pm4 cd4 ct4 oc5 kV5 dc5 pm5 cd5 ct5 oc6 kV6 dc6 pm6 cd6 ct6 oc7 kV7 dc7 pm7 cd7 ct7 oc8 kV8 dc8 pm8 cd8 ct8 oc9 kV9 dc9 pm9 cd9 ct9 oc10 kV10 dc10 pm10 cd10 ct10 oc11 kV11 dc11 pm11 cd11 ct11 oc12 kV12 dc12 pm12 cd12 ct12 oc13 kV13 dc13 pm13 cd13 ct13 oc14 kV14 dc14 pm14 cd14 ct14 oc15 kV15 dc15 pm15 cd15 ct15 oc16 kV16 dc16 pm16 cd16 ct16 oc17 kV17 dc17 pm17 cd17 ct17 oc18 kV18 dc18 pm18 cd18 ct18 oc19 kV19 dc19 pm19 cd19 ct19 oc20 kV20 dc20 pm20 cd20 ct20 oc21 kV21 dc21 pm21 cd21 ct21 oc22 kV22 dc22 pm22 cd22 ct22 oc23 kV23 dc23 pm23 cd23 ct23 : Value}
    (a0 : PySem.W.nsIn K mainGlobals "added_by_bits" = some (some (.ref f0))) (l0 : K.lookup f0 = some ⟨oc0, od0, .func (PySem.W.fnOf "added_by_bits" "added_by_bits" (defArgs s_added_by_bits) (defBody s_added_by_bits) (defScope s_added_by_bits) .none kV0 dc0 pm0 an0 cd0 ct0), sl0⟩) (c0 : PySem.W.codeIn K cd0 "added_by_bits" = true) (k0 : PySem.W.keepIn K (.ref f0) = true)
    (a1 : PySem.W.nsIn K mainGlobals "bits_of" = some (some (.ref f1))) (l1 : K.lookup f1 = some ⟨oc1, od1, .func (PySem.W.fnOf "bits_of" "bits_of" (defArgs s_bits_of) (defBody s_bits_of) (defScope s_bits_of) .none kV1 dc1 pm1 an1 cd1 ct1), sl1⟩) (c1 : PySem.W.codeIn K cd1 "bits_of" = true) (k1 : PySem.W.keepIn K (.ref f1) = true)
    (a2 : PySem.W.nsIn K mainGlobals "smeared" = some (some (.ref f2))) (l2 : K.lookup f2 = some ⟨oc2, od2, .func (PySem.W.fnOf "smeared" "smeared" (defArgs s_smeared) (defBody s_smeared) (defScope s_smeared) .none kV2 dc2 pm2 an2 cd2 ct2), sl2⟩) (c2 : PySem.W.codeIn K cd2 "smeared" = true) (k2 : PySem.W.keepIn K (.ref f2) = true)
    (a3 : PySem.W.nsIn K mainGlobals "ranges_of" = some (some (.ref f3))) (l3 : K.lookup f3 = some ⟨oc3, od3, .func (PySem.W.fnOf "ranges_of" "ranges_of" (defArgs s_ranges_of) (defBody s_ranges_of) (defScope s_ranges_of) .none kV3 dc3 pm3 an3 cd3 ct3), sl3⟩) (c3 : PySem.W.codeIn K cd3 "ranges_of" = true) (k3 : PySem.W.keepIn K (.ref f3) = true)
    (a4 : PySem.W.nsIn K mainGlobals "is_number" = some (some (.ref f4))) (l4 : K.lookup f4 = some ⟨oc4, od4, .func (PySem.W.fnOf "is_number" "is_number" (defArgs s_is_number) (defBody s_is_number) (defScope s_is_number) .none kV4 dc4 pm4 an4 cd4 ct4), sl4⟩) (c4 : PySem.W.codeIn K cd4 "is_number" = true) (k4 : PySem.W.keepIn K (.ref f4) = true)
    (a5 : PySem.W.nsIn K mainGlobals "is_ranges" = some (some (.ref f5))) (l5 : K.lookup f5 = some ⟨oc5, od5, .func (PySem.W.fnOf "is_ranges" "is_ranges" (defArgs s_is_ranges) (defBody s_is_ranges) (defScope s_is_ranges) .none kV5 dc5 pm5 an5 cd5 ct5), sl5⟩) (c5 : PySem.W.codeIn K cd5 "is_ranges" = true) (k5 : PySem.W.keepIn K (.ref f5) = true)
    (a6 : PySem.W.nsIn K mainGlobals "holds" = some (some (.ref f6))) (l6 : K.lookup f6 = some ⟨oc6, od6, .func (PySem.W.fnOf "holds" "holds" (defArgs s_holds) (defBody s_holds) (defScope s_holds) .none kV6 dc6 pm6 an6 cd6 ct6), sl6⟩) (c6 : PySem.W.codeIn K cd6 "holds" = true) (k6 : PySem.W.keepIn K (.ref f6) = true)
    (a7 : PySem.W.nsIn K mainGlobals "both" = some (some (.ref f7))) (l7 : K.lookup f7 = some ⟨oc7, od7, .func (PySem.W.fnOf "both" "both" (defArgs s_both) (defBody s_both) (defScope s_both) .none kV7 dc7 pm7 an7 cd7 ct7), sl7⟩) (c7 : PySem.W.codeIn K cd7 "both" = true) (k7 : PySem.W.keepIn K (.ref f7) = true)
    (a8 : PySem.W.nsIn K mainGlobals "either" = some (some (.ref f8))) (l8 : K.lookup f8 = some ⟨oc8, od8, .func (PySem.W.fnOf "either" "either" (defArgs s_either) (defBody s_either) (defScope s_either) .none kV8 dc8 pm8 an8 cd8 ct8), sl8⟩) (c8 : PySem.W.codeIn K cd8 "either" = true) (k8 : PySem.W.keepIn K (.ref f8) = true)
    (a9 : PySem.W.nsIn K mainGlobals "without" = some (some (.ref f9))) (l9 : K.lookup f9 = some ⟨oc9, od9, .func (PySem.W.fnOf "without" "without" (defArgs s_without) (defBody s_without) (defScope s_without) .none kV9 dc9 pm9 an9 cd9 ct9), sl9⟩) (c9 : PySem.W.codeIn K cd9 "without" = true) (k9 : PySem.W.keepIn K (.ref f9) = true)
    (a10 : PySem.W.nsIn K mainGlobals "added" = some (some (.ref f10))) (l10 : K.lookup f10 = some ⟨oc10, od10, .func (PySem.W.fnOf "added" "added" (defArgs s_added) (defBody s_added) (defScope s_added) .none kV10 dc10 pm10 an10 cd10 ct10), sl10⟩) (c10 : PySem.W.codeIn K cd10 "added" = true) (k10 : PySem.W.keepIn K (.ref f10) = true)
    (a11 : PySem.W.nsIn K mainGlobals "sums" = some (some (.ref f11))) (l11 : K.lookup f11 = some ⟨oc11, od11, .func (PySem.W.fnOf "sums" "sums" (defArgs s_sums) (defBody s_sums) (defScope s_sums) .none kV11 dc11 pm11 an11 cd11 ct11), sl11⟩) (c11 : PySem.W.codeIn K cd11 "sums" = true) (k11 : PySem.W.keepIn K (.ref f11) = true)
    (a12 : PySem.W.nsIn K mainGlobals "is_pair" = some (some (.ref f12))) (l12 : K.lookup f12 = some ⟨oc12, od12, .func (PySem.W.fnOf "is_pair" "is_pair" (defArgs s_is_pair) (defBody s_is_pair) (defScope s_is_pair) .none kV12 dc12 pm12 an12 cd12 ct12), sl12⟩) (c12 : PySem.W.codeIn K cd12 "is_pair" = true) (k12 : PySem.W.keepIn K (.ref f12) = true)
    (a13 : PySem.W.nsIn K mainGlobals "united" = some (some (.ref f13))) (l13 : K.lookup f13 = some ⟨oc13, od13, .func (PySem.W.fnOf "united" "united" (defArgs s_united) (defBody s_united) (defScope s_united) .none kV13 dc13 pm13 an13 cd13 ct13), sl13⟩) (c13 : PySem.W.codeIn K cd13 "united" = true) (k13 : PySem.W.keepIn K (.ref f13) = true)
    (a14 : PySem.W.nsIn K mainGlobals "gaps" = some (some (.ref f14))) (l14 : K.lookup f14 = some ⟨oc14, od14, .func (PySem.W.fnOf "gaps" "gaps" (defArgs s_gaps) (defBody s_gaps) (defScope s_gaps) .none kV14 dc14 pm14 an14 cd14 ct14), sl14⟩) (c14 : PySem.W.codeIn K cd14 "gaps" = true) (k14 : PySem.W.keepIn K (.ref f14) = true)
    (a15 : PySem.W.nsIn K mainGlobals "_law_pot" = some (some (.ref f15))) (l15 : K.lookup f15 = some ⟨oc15, od15, .func (PySem.W.fnOf "_law_pot" "_law_pot" (defArgs s__law_pot) (defBody s__law_pot) (defScope s__law_pot) .none kV15 dc15 pm15 an15 cd15 ct15), sl15⟩) (c15 : PySem.W.codeIn K cd15 "_law_pot" = true) (k15 : PySem.W.keepIn K (.ref f15) = true)
    (a16 : PySem.W.nsIn K mainGlobals "_law_draw" = some (some (.ref f16))) (l16 : K.lookup f16 = some ⟨oc16, od16, .func (PySem.W.fnOf "_law_draw" "_law_draw" (defArgs s__law_draw) (defBody s__law_draw) (defScope s__law_draw) .none kV16 dc16 pm16 an16 cd16 ct16), sl16⟩) (c16 : PySem.W.codeIn K cd16 "_law_draw" = true) (k16 : PySem.W.keepIn K (.ref f16) = true)
    (a17 : PySem.W.nsIn K mainGlobals "_law_any" = some (some (.ref f17))) (l17 : K.lookup f17 = some ⟨oc17, od17, .func (PySem.W.fnOf "_law_any" "_law_any" (defArgs s__law_any) (defBody s__law_any) (defScope s__law_any) .none kV17 dc17 pm17 an17 cd17 ct17), sl17⟩) (c17 : PySem.W.codeIn K cd17 "_law_any" = true) (k17 : PySem.W.keepIn K (.ref f17) = true)
    (a18 : PySem.W.nsIn K mainGlobals "_law_spans" = some (some (.ref f18))) (l18 : K.lookup f18 = some ⟨oc18, od18, .func (PySem.W.fnOf "_law_spans" "_law_spans" (defArgs s__law_spans) (defBody s__law_spans) (defScope s__law_spans) .none kV18 dc18 pm18 an18 cd18 ct18), sl18⟩) (c18 : PySem.W.codeIn K cd18 "_law_spans" = true) (k18 : PySem.W.keepIn K (.ref f18) = true)
    (a19 : PySem.W.nsIn K mainGlobals "_law_sets_right" = some (some (.ref f19))) (l19 : K.lookup f19 = some ⟨oc19, od19, .func (PySem.W.fnOf "_law_sets_right" "_law_sets_right" (defArgs s__law_sets_right) (defBody s__law_sets_right) (defScope s__law_sets_right) .none kV19 dc19 pm19 an19 cd19 ct19), sl19⟩) (c19 : PySem.W.codeIn K cd19 "_law_sets_right" = true) (k19 : PySem.W.keepIn K (.ref f19) = true)
    (a20 : PySem.W.nsIn K mainGlobals "_law_sums_right" = some (some (.ref f20))) (l20 : K.lookup f20 = some ⟨oc20, od20, .func (PySem.W.fnOf "_law_sums_right" "_law_sums_right" (defArgs s__law_sums_right) (defBody s__law_sums_right) (defScope s__law_sums_right) .none kV20 dc20 pm20 an20 cd20 ct20), sl20⟩) (c20 : PySem.W.codeIn K cd20 "_law_sums_right" = true) (k20 : PySem.W.keepIn K (.ref f20) = true)
    (a21 : PySem.W.nsIn K mainGlobals "_law_points_right" = some (some (.ref f21))) (l21 : K.lookup f21 = some ⟨oc21, od21, .func (PySem.W.fnOf "_law_points_right" "_law_points_right" (defArgs s__law_points_right) (defBody s__law_points_right) (defScope s__law_points_right) .none kV21 dc21 pm21 an21 cd21 ct21), sl21⟩) (c21 : PySem.W.codeIn K cd21 "_law_points_right" = true) (k21 : PySem.W.keepIn K (.ref f21) = true)
    (a22 : PySem.W.nsIn K mainGlobals "_law_right" = some (some (.ref f22))) (l22 : K.lookup f22 = some ⟨oc22, od22, .func (PySem.W.fnOf "_law_right" "_law_right" (defArgs s__law_right) (defBody s__law_right) (defScope s__law_right) .none kV22 dc22 pm22 an22 cd22 ct22), sl22⟩) (c22 : PySem.W.codeIn K cd22 "_law_right" = true) (k22 : PySem.W.keepIn K (.ref f22) = true)
    (a23 : PySem.W.nsIn K mainGlobals "law" = some (some (.ref f23))) (l23 : K.lookup f23 = some ⟨oc23, od23, .func (PySem.W.fnOf "law" "law" (defArgs s_law) (defBody s_law) (defScope s_law) .none kV23 dc23 pm23 an23 cd23 ct23), sl23⟩) (c23 : PySem.W.codeIn K cd23 "law" = true) (k23 : PySem.W.keepIn K (.ref f23) = true)
    (z_abs : PySem.W.nsIn K mainGlobals "abs" = some none)
    (z_all : PySem.W.nsIn K mainGlobals "all" = some none)
    (z_any : PySem.W.nsIn K mainGlobals "any" = some none)
    (z_bool : PySem.W.nsIn K mainGlobals "bool" = some none)
    (z_int : PySem.W.nsIn K mainGlobals "int" = some none)
    (z_isinstance : PySem.W.nsIn K mainGlobals "isinstance" = some none)
    (z_len : PySem.W.nsIn K mainGlobals "len" = some none)
    (z_max : PySem.W.nsIn K mainGlobals "max" = some none)
    (z_min : PySem.W.nsIn K mainGlobals "min" = some none)
    (z_range : PySem.W.nsIn K mainGlobals "range" = some none)
    (z_sorted : PySem.W.nsIn K mainGlobals "sorted" = some none)
    (z_tuple : PySem.W.nsIn K mainGlobals "tuple" = some none)
    (z_zip : PySem.W.nsIn K mainGlobals "zip" = some none) :
    ∃ fd : FuncData, (∀ (s : Shared) (v : Value), BindsTo s fd ⟨[v], []⟩ [("_law_script", v)]) ∧ ∀ base : Heap, K.In base → base.Ns mainGlobals mg → base.NoDigits → FnG l.prog w K mg base 7 fa fd ["_law_script"] (sp_law K) := by
  have e := hfa.symm.trans (PySem.W.mg_of X G a23)
  cases e
  have b0 := (fun_mk (st := s_added_by_bits) l0 c0 k0).binds (ps := ["one", "other"]) fun _ _ _ _ _ _ us hl => match us, hl with | [_, _], _ => rfl
  have b1 := (fun_mk (st := s_bits_of) l1 c1 k1).binds (ps := ["ranges"]) fun _ _ _ _ _ _ us hl => match us, hl with | [_], _ => rfl
  have b2 := (fun_mk (st := s_smeared) l2 c2 k2).binds (ps := ["bits", "width"]) fun _ _ _ _ _ _ us hl => match us, hl with | [_, _], _ => rfl
  have b3 := (fun_mk (st := s_ranges_of) l3 c3 k3).binds (ps := ["bits", "least"]) fun _ _ _ _ _ _ us hl => match us, hl with | [_, _], _ => rfl
  have b4 := (fun_mk (st := s_is_number) l4 c4 k4).binds (ps := ["value"]) fun _ _ _ _ _ _ us hl => match us, hl with | [_], _ => rfl
  have b5 := (fun_mk (st := s_is_ranges) l5 c5 k5).binds (ps := ["value"]) fun _ _ _ _ _ _ us hl => match us, hl with | [_], _ => rfl
  have b6 := (fun_mk (st := s_holds) l6 c6 k6).binds (ps := ["ranges", "number"]) fun _ _ _ _ _ _ us hl => match us, hl with | [_, _], _ => rfl
  have b7 := (fun_mk (st := s_both) l7 c7 k7).binds (ps := ["one", "other"]) fun _ _ _ _ _ _ us hl => match us, hl with | [_, _], _ => rfl
  have b8 := (fun_mk (st := s_either) l8 c8 k8).binds (ps := ["one", "other"]) fun _ _ _ _ _ _ us hl => match us, hl with | [_, _], _ => rfl
  have b9 := (fun_mk (st := s_without) l9 c9 k9).binds (ps := ["one", "other"]) fun _ _ _ _ _ _ us hl => match us, hl with | [_, _], _ => rfl
  have b10 := (fun_mk (st := s_added) l10 c10 k10).binds (ps := ["one", "other"]) fun _ _ _ _ _ _ us hl => match us, hl with | [_, _], _ => rfl
  have b11 := (fun_mk (st := s_sums) l11 c11 k11).binds (ps := ["ranges", "many"]) fun _ _ _ _ _ _ us hl => match us, hl with | [_, _], _ => rfl
  have b12 := (fun_mk (st := s_is_pair) l12 c12 k12).binds (ps := ["value"]) fun _ _ _ _ _ _ us hl => match us, hl with | [_], _ => rfl
  have b13 := (fun_mk (st := s_united) l13 c13 k13).binds (ps := ["pairs"]) fun _ _ _ _ _ _ us hl => match us, hl with | [_], _ => rfl
  have b14 := (fun_mk (st := s_gaps) l14 c14 k14).binds (ps := ["ranges", "low", "high"]) fun _ _ _ _ _ _ us hl => match us, hl with | [_, _, _], _ => rfl
  have b15 := (fun_mk (st := s__law_pot) l15 c15 k15).binds (ps := ["_law_script", "_law_k"]) fun _ _ _ _ _ _ us hl => match us, hl with | [_, _], _ => rfl
  have b16 := (fun_mk (st := s__law_draw) l16 c16 k16).binds (ps := ["_law_pot_here", "_law_many"]) fun _ _ _ _ _ _ us hl => match us, hl with | [_, _], _ => rfl
  have b17 := (fun_mk (st := s__law_any) l17 c17 k17).binds (ps := ["_law_pot_here", "_law_items"]) fun _ _ _ _ _ _ us hl => match us, hl with | [_, _], _ => rfl
  have b18 := (fun_mk (st := s__law_spans) l18 c18 k18).binds (ps := ["_law_pot_here", "_law_most", "_law_low", "_law_high"]) fun _ _ _ _ _ _ us hl => match us, hl with | [_, _, _, _], _ => rfl
  have b19 := (fun_mk (st := s__law_sets_right) l19 c19 k19).binds (ps := ["_law_one", "_law_two", "_law_three"]) fun _ _ _ _ _ _ us hl => match us, hl with | [_, _, _], _ => rfl
  have b20 := (fun_mk (st := s__law_sums_right) l20 c20 k20).binds (ps := ["_law_pot_here", "_law_one", "_law_two", "_law_three"]) fun _ _ _ _ _ _ us hl => match us, hl with | [_, _, _, _], _ => rfl
  have b21 := (fun_mk (st := s__law_points_right) l21 c21 k21).binds (ps := ["_law_one", "_law_two"]) fun _ _ _ _ _ _ us hl => match us, hl with | [_, _], _ => rfl
  have b22 := (fun_mk (st := s__law_right) l22 c22 k22).binds (ps := ["_law_pot_here"]) fun _ _ _ _ _ _ us hl => match us, hl with | [_], _ => rfl
  exact ⟨PySem.W.fnOf "law" "law" (defArgs s_law) (defBody s_law) (defScope s_law) .none kV23 dc23 pm23 an23 cd23 ct23, fun s v => .of_eq rfl, fun base _ _ nd =>
    all_ok ⟨PySem.W.mg_none_of X G z_abs, PySem.W.mg_none_of X G z_all, PySem.W.mg_none_of X G z_any, PySem.W.mg_none_of X G z_bool, PySem.W.mg_none_of X G z_int, PySem.W.mg_none_of X G z_isinstance, PySem.W.mg_none_of X G z_len, PySem.W.mg_none_of X G z_max, PySem.W.mg_none_of X G z_min, PySem.W.mg_none_of X G z_range, PySem.W.mg_none_of X G z_sorted, PySem.W.mg_none_of X G z_tuple, PySem.W.mg_none_of X G z_zip⟩ nd (fun_mk (st := s_law) l23 c23 k23) (fun_mk (st := s_added_by_bits) l0 c0 k0) b0 (PySem.W.mg_of X G a0) (fun_mk (st := s_bits_of) l1 c1 k1) b1 (PySem.W.mg_of X G a1) (fun_mk (st := s_smeared) l2 c2 k2) b2 (PySem.W.mg_of X G a2) (fun_mk (st := s_ranges_of) l3 c3 k3) b3 (PySem.W.mg_of X G a3) (fun_mk (st := s_is_number) l4 c4 k4) b4 (PySem.W.mg_of X G a4) (fun_mk (st := s_is_ranges) l5 c5 k5) b5 (PySem.W.mg_of X G a5) (fun_mk (st := s_holds) l6 c6 k6) b6 (PySem.W.mg_of X G a6) (fun_mk (st := s_both) l7 c7 k7) b7 (PySem.W.mg_of X G a7) (fun_mk (st := s_either) l8 c8 k8) b8 (PySem.W.mg_of X G a8) (fun_mk (st := s_without) l9 c9 k9) b9 (PySem.W.mg_of X G a9) (fun_mk (st := s_added) l10 c10 k10) b10 (PySem.W.mg_of X G a10) (fun_mk (st := s_sums) l11 c11 k11) b11 (PySem.W.mg_of X G a11) (fun_mk (st := s_is_pair) l12 c12 k12) b12 (PySem.W.mg_of X G a12) (fun_mk (st := s_united) l13 c13 k13) b13 (PySem.W.mg_of X G a13) (fun_mk (st := s_gaps) l14 c14 k14) b14 (PySem.W.mg_of X G a14) (fun_mk (st := s__law_pot) l15 c15 k15) b15 (PySem.W.mg_of X G a15) (fun_mk (st := s__law_draw) l16 c16 k16) b16 (PySem.W.mg_of X G a16) (fun_mk (st := s__law_any) l17 c17 k17) b17 (PySem.W.mg_of X G a17) (fun_mk (st := s__law_spans) l18 c18 k18) b18 (PySem.W.mg_of X G a18) (fun_mk (st := s__law_sets_right) l19 c19 k19) b19 (PySem.W.mg_of X G a19) (fun_mk (st := s__law_sums_right) l20 c20 k20) b20 (PySem.W.mg_of X G a20) (fun_mk (st := s__law_points_right) l21 c21 k21) b21 (PySem.W.mg_of X G a21) (fun_mk (st := s__law_right) l22 c22 k22) b22 (PySem.W.mg_of X G a22)⟩
end Pf
open PySem PySem.W PyProof.Rows
set_option maxHeartbeats 0 in
theorem PySem.Challenge.cw_piecefacts_k04_whole_rules_of_range_sets_holds : PySem.Challenge.rw_piecefacts_k04_whole_rules_of_range_sets.Holds := by
  w_on; o_law; k_head; (case hw => w_witness2)
  k_fill
  refine Pf.walkN (l := PySem.Challenge.rw_piecefacts_k04_whole_rules_of_range_sets) (k := 7) (x := "_law_script") (sp := Pf.sp_law) rfl rfl ⟨rfl, by decide, by decide⟩ (fun w h Y => PySem.W.kIn_of Y) ?F (fun _ _ a ns hl hS => ⟨a, ns, rfl, hS, hl, fun _ => rfl⟩)
  case F =>
    intro w mg fa h KX G hmg
    refine' Pf.all_mk KX G hmg ?a0 ?l0 ?c0 ?k0 ?a1 ?l1 ?c1 ?k1 ?a2 ?l2 ?c2 ?k2 ?a3 ?l3 ?c3 ?k3 ?a4 ?l4 ?c4 ?k4 ?a5 ?l5 ?c5 ?k5 ?a6 ?l6 ?c6 ?k6 ?a7 ?l7 ?c7 ?k7 ?a8 ?l8 ?c8 ?k8 ?a9 ?l9 ?c9 ?k9 ?a10 ?l10 ?c10 ?k10 ?a11 ?l11 ?c11 ?k11 ?a12 ?l12 ?c12 ?k12 ?a13 ?l13 ?c13 ?k13 ?a14 ?l14 ?c14 ?k14 ?a15 ?l15 ?c15 ?k15 ?a16 ?l16 ?c16 ?k16 ?a17 ?l17 ?c17 ?k17 ?a18 ?l18 ?c18 ?k18 ?a19 ?l19 ?c19 ?k19 ?a20 ?l20 ?c20 ?k20 ?a21 ?l21 ?c21 ?k21 ?a22 ?l22 ?c22 ?k22 ?a23 ?l23 ?c23 ?k23 ?z_abs ?z_all ?z_any ?z_bool ?z_int ?z_isinstance ?z_len ?z_max ?z_min ?z_range ?z_sorted ?z_tuple ?z_zip
    (case a0 => k_is); (case l0 => k_is); (case c0 => k_is); (case k0 => k_is); (case a1 => k_is); (case l1 => k_is); (case c1 => k_is); (case k1 => k_is); (case a2 => k_is); (case l2 => k_is); (case c2 => k_is); (case k2 => k_is); (case a3 => k_is); (case l3 => k_is); (case c3 => k_is); (case k3 => k_is); (case a4 => k_is); (case l4 => k_is); (case c4 => k_is); (case k4 => k_is); (case a5 => k_is); (case l5 => k_is); (case c5 => k_is); (case k5 => k_is); (case a6 => k_is); (case l6 => k_is); (case c6 => k_is); (case k6 => k_is); (case a7 => k_is); (case l7 => k_is); (case c7 => k_is); (case k7 => k_is); (case a8 => k_is); (case l8 => k_is); (case c8 => k_is); (case k8 => k_is); (case a9 => k_is); (case l9 => k_is); (case c9 => k_is); (case k9 => k_is); (case a10 => k_is); (case l10 => k_is); (case c10 => k_is); (case k10 => k_is); (case a11 => k_is); (case l11 => k_is); (case c11 => k_is); (case k11 => k_is); (case a12 => k_is); (case l12 => k_is); (case c12 => k_is); (case k12 => k_is); (case a13 => k_is); (case l13 => k_is); (case c13 => k_is); (case k13 => k_is); (case a14 => k_is); (case l14 => k_is); (case c14 => k_is); (case k14 => k_is); (case a15 => k_is); (case l15 => k_is); (case c15 => k_is); (case k15 => k_is); (case a16 => k_is); (case l16 => k_is); (case c16 => k_is); (case k16 => k_is); (case a17 => k_is); (case l17 => k_is); (case c17 => k_is); (case k17 => k_is); (case a18 => k_is); (case l18 => k_is); (case c18 => k_is); (case k18 => k_is); (case a19 => k_is); (case l19 => k_is); (case c19 => k_is); (case k19 => k_is); (case a20 => k_is); (case l20 => k_is); (case c20 => k_is); (case k20 => k_is); (case a21 => k_is); (case l21 => k_is); (case c21 => k_is); (case k21 => k_is); (case a22 => k_is); (case l22 => k_is); (case c22 => k_is); (case k22 => k_is); (case a23 => k_is); (case l23 => k_is); (case c23 => k_is); (case k23 => k_is); (case z_abs => k_is); (case z_all => k_is); (case z_any => k_is); (case z_bool => k_is); (case z_int => k_is); (case z_isinstance => k_is); (case z_len => k_is); (case z_max => k_is); (case z_min => k_is); (case z_range => k_is); (case z_sorted => k_is); (case z_tuple => k_is); (case z_zip => k_is)
