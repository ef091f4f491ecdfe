import PyProof.Rows.All
import Wide.All
import OpenK.AllK
import Wide.FinOn
import HandS.ForMost
import HandS.Wide
import HandS.IsInst
import HandS.Zip
import HandS.Style
import HandS.Defaults
import HandS.TupAny
import HandS.Walk
import PyProof.ReprRoads
import PySem.Challenge.RW_piecefacts_k01_range_sets_of_any_value
set_option Elab.async false
set_option linter.all false
set_option maxRecDepth 100000
/-! Calls where no repr is under way: the hand layer's promises of defs, with that fact carried along. -/
namespace Pf
open PySem PySem.Spec PyProof.Rows L2
/-- the promise of a def, kept wherever no repr is under way -/
structure FnG (P : Program) (w : World) (K : PySem.W.Frag) (mg : Str → Option Value) (base : Heap) (k : Nat) (f : Addr) (fd : FuncData) (ps : List Str) (sp : Sp) : Prop where
  size : ∀ vs H Q E, sp vs H Q E → vs.length = ps.length
  goes : ∀ (A : Around) (outer : List Env) (s : Shared) (H : Hp) (args : Args) (us : List Value) (vs : List V) (Q : VK) (E : XK), A.guards = some [] → Room k A →
    Env0 P w K mg base A outer s H → BindsTo s fd args (ps.zip us) → Vals vs us → sp vs H Q E → codeAny (model P w) A (.call (.ref f) args) (CR CX0 outer P w H s Q E) s
section
variable {base : Heap} {P : Program} {w : World} {mg : Str → Option Value} {K : PySem.W.Frag}
theorem FnG.up {j k : Nat} {f : Addr} {fd : FuncData} {ps : List Str} {sp : Sp} (F : FnG P w K mg base j f fd ps sp) (h : j ≤ k) : FnG P w K mg base k f fd ps sp :=
  ⟨F.size, fun A outer s H args us vs Q E hg hr => F.goes A outer s H args us vs Q E hg (hr.mono h)⟩
theorem guards_deeper {A : Around} {env : Env} (h : A.guards = some []) : (A.deeper env).guards = some [] := h
/-- a def by its body, where no repr is under way -/
theorem okG {x qual : Str} {st : Stmt} {f : Addr} {fd : FuncData} {N ps : List Str} {k : Nat} {sp : Sp} (F : Fun K x qual st f fd) (S : FnScope N ps (defScope st)) (hlen : ∀ vs H Q E, sp vs H Q E → vs.length = ps.length)
    (bd : ∀ (cdv : Value) (A : Around) (outer : List Env) (s : Shared) (H : Hp) (vs : List V) (Q : VK) (E : XK), (A.deeper (envOfC qual (defScope st) s.heap.objs.size f cdv)).guards = some [] →
      Room k (A.deeper (envOfC qual (defScope st) s.heap.objs.size f cdv)) → sp vs H Q E →
      ∃ t, PSs (cxOf CX0 P w K mg base N qual (defScope st) f cdv A outer s H E).nox (defBody st) t ∧ t { nx := fun _ H' => Q .non H', rt := Q } (start N vs) H) : FnG P w K mg base (k + 1) f fd ps sp := by
  obtain ⟨_, _, _, _, _, _, cdv, _, _, hfd, lk, hcd⟩ := F.ex
  subst hfd
  constructor
  · exact hlen
  intro A outer s H args us vs Q E hg hr env0 bind rel promise
  have vsl := hlen vs H Q E promise
  have kin : K.In s.heap := env0.mod.kin.keeps (fun b o z => (env0.bs b o z).1)
  have nolim : s.heap.NoLimit := env0.mod.nolimit.keeps (fun b o z => (env0.bs b o z).1)
  obtain ⟨t, der, rd⟩ := bd cdv A outer s H vs Q E (guards_deeper hg) (hr.deeper _) promise
  refine codeAny_call_function hr.depth (kin _ _ lk) rfl S.co S.gen rfl (PySem.W.codeRec_of kin hcd) (bind _ _ _ _ (wpAny_newFunctionEnv_cells S.kind ?kinds ?enter))
  case kinds =>
    rintro ⟨n, v⟩ hy
    cases S.par n (List.of_mem_zip hy).1 with
    | inl q => exact Or.inl q
    | inr q => exact Or.inr (And.intro q (PySem.W.cellsFrom_some _ _ _ (Or.inl q)))
  case enter =>
    intro env he s1 inside
    subst he
    constructor
    · exact nolim.keeps inside.toInCall.keep
    refine codeAny_func (wpAny_mono (der.nox.run [] s1 (start N vs) H _ (inv_start S hr.hd env0 vsl rel inside) rd) ?_ (fun e s' z => z))
    intro flow s' z
    match flow, z with
    | .ret u, ⟨v, σ', H', J, rv, q⟩ => exact ⟨v, H', J.os, J.bare, J.base, J.hok, rv, q⟩
    | .next, ⟨σ', H', J, q⟩ => exact ⟨V.non, H', J.os, J.bare, J.base, J.hok, rfl, q⟩
    | .brk, ⟨_, _, _, q⟩ => exact q.elim
    | .cont, ⟨_, _, _, q⟩ => exact q.elim
end
/-- a def that may be called by its name -/
structure Cal (P : Program) (w : World) (K : PySem.W.Frag) (mg : Str → Option Value) (base : Heap) (k : Nat) (x : Str) (sp : Sp) : Prop where
  is : ∃ (f : Addr) (fd : FuncData) (ps : List Str), FnG P w K mg base k f fd ps sp ∧ mg x = some (.ref f) ∧ PySem.W.keepIn K (.ref f) = true ∧ Binds K fd ps []
/-- .. by keywords alone -/
structure CalK (P : Program) (w : World) (K : PySem.W.Frag) (mg : Str → Option Value) (base : Heap) (k : Nat) (x : Str) (ks : List Str) (gV : List V → List V) (sp : Sp) : Prop where
  is : ∃ (f : Addr) (fd : FuncData) (ps : List Str) (g : List Value → List Value), FnG P w K mg base k f fd ps sp ∧ mg x = some (.ref f) ∧ PySem.W.keepIn K (.ref f) = true ∧ KBn K fd ps 0 ks (fun _ ws => g ws) (fun _ zs => gV zs)
def noErr : XK := fun _ _ _ => False
def tC1 (sp : Sp) (t : TA) : TE := fun σ H Q => t σ H fun vs H1 => sp vs H1 Q noErr
def tCK (m : Nat) (sp : Sp) (gV : List V → List V) (tk : TA) : TE := fun σ H Q => tk σ H fun zs H1 => zs.length = m ∧ sp (gV zs) H1 Q noErr
section
variable {X : Cx} {j k : Nat} {x : Str} {sp : Sp} {p pos : Pos} {e : Expr} {es : List Expr} {t tk : TA} {kws : List Keyword} {ks : List Str} {gV : List V → List V}
theorem goesG {pins : List (Addr × Obj)} {σ : L2.St} {H : Hp} {s : Shared} {Q : VK} {f : Addr} {fd : FuncData} {ps : List Str} {args : Args} {us : List Value} {vs : List V} (F : FnG X.prog X.w X.K X.mg X.base k f fd ps sp) (hg : X.A.guards = some []) (hr : Room k X.A)
    (I : Inv X pins σ H s) (b : BindsTo s fd args (ps.zip us)) (r : Vals vs us) (h : sp vs H Q noErr) : wpAny (model X.prog X.w) X.A (call (.ref f) args.pos args.kw) (EP X pins σ Q) X.xe s := by
  refine wpAny_call (codeAny_mono (F.goes X.A X.stack s H args us vs Q noErr hg hr I.env0 b r h) ?_)
  intro res s' z
  match res, z with
  | .error e, z => exact pass0 pins σ H s e s' I z
  | .ok (.ret u), z => exact I.after z
  | .ok .next, z => exact z.elim
  | .ok .brk, z => exact z.elim
  | .ok .cont, z => exact z.elim
theorem pe_c (c : Cal X.prog X.w X.K X.mg X.base k x sp) (hr : X.A.guards = some [] ∧ Room j X.A) (hk : k ≤ j) (gl : Gl X x) (ha : PA X (e :: es) t)
    (hdb : (x == ("__debug__" : Str)) = false := by decide) (he : starEach (e :: es) X.env = (false, eval e X.env) :: starEach es X.env := by rfl) (hpl : (backTo pos (starEach es X.env)).any (·.1) = false := by rfl) :
    PE X (.Call (.Name x p) (e :: es) [] pos) (tC1 sp t) := by
  obtain ⟨f, fd, ps, F, hm, kp, b⟩ := c.is
  constructor
  intro pins s σ H Q I h
  have vsl := F.size
  refine Call_ (ld_glob I gl hm ?_ hdb)
  refine PySem.W.callWith_K (h₀ := X.base) I.ok.mod.kin kp ?_ he hpl
  refine thn (ha.run pos pins s σ H _ I h) fun us s1 ⟨vs, H1, I1, r, q⟩ => ⟨I1.kIn, ?_⟩
  have hl : us.length = ps.length := by rw [← r.length]; exact vsl _ _ _ _ q
  have bb := b s1 us I1.kIn (by rw [List.append_nil]; exact hl)
  rw [List.append_nil] at bb
  exact goesG F hr.1 (hr.2.mono hk) I1 bb r q
theorem pe_cK0 (c : CalK X.prog X.w X.K X.mg X.base k x ks gV sp) (hr : X.A.guards = some [] ∧ Room j X.A) (hk : k ≤ j) (gl : Gl X x) (hkw : PK X kws tk)
    (h1 : (backToKw pos (keywordEach kws X.env)).all (·.1.isSome) = true := by rfl) (h2 : (backToKw pos (keywordEach kws X.env)).filterMap (·.1) = ks := by rfl)
    (hdb : (x == ("__debug__" : Str)) = false := by decide) (hpl : ((backTo pos (starEach [] X.env)).any (·.1) || (backToKw pos (keywordEach kws X.env)).any (·.1.isNone)) = false := by rfl) :
    PE X (.Call (.Name x p) [] kws pos) (tCK ks.length sp gV tk) := by
  obtain ⟨f, fd, ps, g, F, hm, kp, b⟩ := c.is
  constructor
  intro pins s σ H Q I h
  refine wpAny_Call_Name_kw (ld_glob I gl hm ?_ hdb)
  refine PySem.W.callWith_KW0 (h₀ := X.base) I.ok.mod.kin kp h1 ?_ hpl
  refine thn (hkw.run pos pins s σ H _ I h) fun ws s1 ⟨zs, H1, I1, r, hz, q⟩ => ⟨I1.kIn, ?_⟩
  rw [h2]
  have bb := b.to s1 [] ws I1.kIn rfl (r.length.symm.trans hz)
  exact goesG (args := ⟨[], ks.zip ws⟩) F hr.1 (hr.2.mono hk) I1 bb (b.rel (vs := []) .nil r) q
end
/-- the law's call at the caller of a claim: the script is the one object that is known -/
theorem lawG {P : Program} {w : World} {K : PySem.W.Frag} {mg mb : Str → Option Value} {k : Nat} {fa a : Addr} {fd : FuncData} {x : Str} {sp : Sp} {s₁ : Shared} {vs : List Value} {ns : List Int}
    (KX : K.In s₁.heap) (gn : s₁.heap.Ns mainGlobals mg) (bn : s₁.heap.Ns builtinsNs mb) (bb : ∀ x : Str, x ≠ "__name__" → mb x = bootBuiltins x) (nl : s₁.heap.NoLimit) (gens : s₁.gens = #[])
    (at_a : s₁.heap.get? a = some { cls := .type "list", data := .seq vs.toArray }) (iv : IntsAre vs ns) (few : ns.length ≤ sizeLine) (room : Room k callerA)
    (F : ∀ base : Heap, K.In base → base.Ns mainGlobals mg → FnG P w K mg base k fa fd [x] sp) (bind : ∀ (s : Shared) (u : Value), BindsTo s fd ⟨[u], []⟩ [(x, u)])
    (goal : ∀ H : Hp, SqL K H a (ns.map V.int) → sp [.ref a] H (fun v _ => v = .bl true) fun _ _ _ => False) :
    codeAny (model P w) callerA (.call (.ref fa) ⟨[.ref a], []⟩) (fun out t => out = .ok (.ret (.bool true)) ∧ OldK s₁.heap t.heap ∧ t.os = s₁.os ∧ AllBare t.gens) s₁ := by
  have rel := vals_ints iv
  -- the abstract heap: the script, unless it is an object of the written part
  obtain ⟨H, only, sql, ok, mine, offK⟩ : ∃ H : Hp, (∀ b, H b = none ∨ ∃ o xs, H b = some (.frz o (.lst xs))) ∧ SqL K H a (ns.map V.int) ∧ HOk P w H s₁.heap ∧ (∀ b, H b ≠ none → b = a) ∧ (H a ≠ none → K.lookup a = none) := by
    cases look : K.lookup a with
    | some o =>
      have same := KX a o look
      rw [at_a] at same
      cases same
      exact ⟨fun _ => none, fun _ => Or.inl rfl, .inr ⟨_, vs.toArray, _, look, rfl, rfl, rfl, by rw [List.size_toArray, iv.length]; exact few, by simpa using rel⟩, (fun _ _ z => by cases (show (none : Option HO) = some _ from z)), (fun _ z => absurd rfl z), (fun z => absurd rfl z)⟩
    | none =>
      refine ⟨fun b => if b = a then some (.frz { cls := .type "list", data := .seq vs.toArray } (.lst (ns.map V.int))) else none, fun b => ?_, .inl (.inr ⟨_, if_pos rfl⟩), fun b u z => ?_, fun b z => ?_, fun _ => rfl⟩
      · by_cases hb : b = a
        · exact Or.inr ⟨_, _, if_pos hb⟩
        · exact Or.inl (if_neg hb)
      · by_cases hb : b = a
        · subst hb
          have zz := (if_pos rfl).symm.trans z
          cases zz
          exact ⟨at_a, by rw [List.length_map]; exact few, vs, _, rel, at_a⟩
        · have zz := (if_neg hb).symm.trans z
          cases zz
      · by_cases hb : b = a
        · exact hb
        · exact absurd (if_neg hb) z
  have hid : ∀ {b : Addr} {o : Obj}, s₁.heap.get? b = some o → H b = none → (hidT s₁.heap H).get? b = some o := fun e n => hidT_get e n
  have dicts : ∀ {b : Addr} {o : Obj} {es : Array DictEntry} {ep : Nat}, s₁.heap.get? b = some o → o.data = .dict es ep → H b = none := by
    intro b o es ep e d
    apply Classical.byContradiction
    intro z
    have eb := mine b z
    subst eb
    rw [at_a] at e
    cases e
    exact absurd d (fun q => nomatch q)
  have names : ∀ {b : Addr} {m : Str → Option Value}, s₁.heap.Ns b m → (hidT s₁.heap H).Ns b m := by
    rintro b m ⟨o, es, ep, e, d, r⟩
    exact ⟨o, es, ep, hid e (dicts e d), d, r⟩
  have kin : K.In (hidT s₁.heap H) := by
    intro b o e
    refine hid (KX b o e) (Classical.byContradiction fun z => ?_)
    have eb := mine b z
    subst eb
    rw [offK z] at e
    cases e
  obtain ⟨mc, n1, n2⟩ := nl
  have env0 : Env0 P w K mg (hidT s₁.heap H) callerA [] s₁ H :=
    ⟨rfl, ⟨kin, names gn, ⟨mb, names bn, bb⟩, ⟨mc, names n1, n2⟩⟩, fun b o e => of_hidT e, Nat.le_of_eq (hidT_size _ _), trivial, fun b hb => (List.not_mem_nil hb).elim, ok, .of_eq gens⟩
  refine codeAny_mono ((F _ kin (names gn)).goes callerA [] s₁ H ⟨[.ref a], []⟩ [.ref a] [.ref a] _ _ rfl room env0 (bind s₁ (.ref a)) (.cons rfl .nil) (goal H sql)) ?_
  intro res s' z
  match res, z with
  | .ok .next, z => exact z.elim
  | .ok .brk, z => exact z.elim
  | .ok .cont, z => exact z.elim
  | .ok (.ret u), ⟨v, H', os, bare, un, ok', rv, q⟩ =>
    have vt : v = V.bl true := q
    subst vt
    have ut : u = Value.bool true := rv
    subst ut
    refine ⟨rfl, OldK.of_keep (fun b o e => ?_), os, bare⟩
    rcases only b with n | ⟨ob, xs, fz⟩
    · exact un.keep b o e n (fun m => (List.not_mem_nil m).elim) (by simp)
    · have g1 := (ok b _ fz).1
      have g2 := (ok' b _ (un.frzs b ob _ fz)).1
      rw [e] at g1
      cases g1
      exact g2
theorem walkG {l : PySem.W.OpenLaw} {k : Nat} {q : Program} {loose : List Str} {XP : (Str → Option Value) → Heap → Prop} {YP : World → Heap → Prop} {d : DefRec} {K : Params → PySem.W.Frag} {sp : PySem.W.Frag → Sp} {x : Str}
    (hn : l.most = some 63) (hdf : d.params.defaults = []) (room : Room k callerA) (hY : ∀ (w : World) (h : Heap), YP w h → (K w.params).In h)
    (F : ∀ (w : World) (mg : Str → Option Value) (at_ : Addr) (top : Heap), (K w.params).In top → top.Ns mainGlobals mg → mg d.name = some (.ref at_) →
      ∃ fd : FuncData, (∀ (s : Shared) (u : Value), BindsTo s fd ⟨[u], []⟩ [(x, u)]) ∧ ∀ base : Heap, (K w.params).In base → base.Ns mainGlobals mg → FnG l.prog w (K w.params) mg base k at_ fd [x] (sp (K w.params)))
    (goal : ∀ (K : PySem.W.Frag) (H : Hp) (a : Addr) (ns : List Int), ns.length ≤ 63 → SqL K H a (ns.map V.int) → sp K [.ref a] H (fun v _ => v = .bl true) fun _ _ _ => False) :
    PySem.W.WalkO q loose XP YP l.row.toRowW d [] (fun g args => PySem.call g args) := by
  refine Att.attach_call hn hdf ?_
  intro w _ _ mg _ fa _ _ _ _ a _ ns top behind _ _ _ named script iv few gens
  obtain ⟨fd, bind, made⟩ := F w mg fa _ (hY w _ behind) top.T.g named
  exact lawG (hY w _ behind) top.T.g top.T.b top.T.builtins top.T.nolimit gens script iv (Nat.le_trans few (by decide)) room made bind fun H hS => goal _ H a ns few hS
end Pf

set_option Elab.async false
set_option linter.all false
set_option maxRecDepth 100000
/-! Data of any kind in the abstract heap, and its repr. -/
namespace Pf
open PySem PySem.Spec PyProof.Rows L2
mutual
/-- b: it may hold dicts (then its lists do not stand at the modules' place); p: an address that is none of its own -/
inductive Dq (b : Bool) (p : Addr) (H : Hp) : V → PyData → Prop
  | non : Dq b p H .non .none
  | bl (x : Bool) : Dq b p H (.bl x) (.bool x)
  | int (i : Int) : Dq b p H (.int i) (.int i)
  | str (x : Str) : Dq b p H (.str x) (.str x)
  | lst {a : Addr} {xs : List V} {ds : List PyData} : H a = some (.lst xs) → a ≠ p → (b = true → a ≠ sysModules) → DqAll b p H xs ds → Dq b p H (.ref a) (.list ds)
  | tup {a : Addr} {xs : List V} {ds : List PyData} : H a = some (.tup xs) → a ≠ p → DqAll b p H xs ds → Dq b p H (.ref a) (.tuple ds)
  | dc0 {a : Addr} : b = true → H a = some (.dK []) → a ≠ p → Dq b p H (.ref a) (.dict [])
  | dc1 {a : Addr} {x : Str} {v : V} {d : PyData} : b = true → H a = some (.dK [(Sum.inr x, v)]) → a ≠ p → Dq b p H v d → Dq b p H (.ref a) (.dict [(.str x, d)])
inductive DqAll (b : Bool) (p : Addr) (H : Hp) : List V → List PyData → Prop
  | nil : DqAll b p H [] []
  | cons {v : V} {vs : List V} {d : PyData} {ds : List PyData} : Dq b p H v d → DqAll b p H vs ds → DqAll b p H (v :: vs) (d :: ds)
end
section
variable {X : Cx} {pins : List (Addr × Obj)} {σ : L2.St} {H : Hp} {s : Shared} {b : Bool} {p : Addr}
mutual
theorem Dq.reads (I : Inv X pins σ H s) : ∀ (d : PyData) (v : V) (u : Value), Dq b p H v d → RelV v u → ∃ as, Reads s.heap u d as ∧ (b = true → sysModules ∉ as) ∧ (b = false → d.hasDict = false)
  | .none, _, _, h, r => by
    cases h
    cases r
    exact ⟨[], Reads.none, fun _ z => (List.not_mem_nil z).elim, fun _ => by simp only [PyData.hasDict]⟩
  | .bool x, _, _, h, r => by
    cases h
    cases r
    exact ⟨[], Reads.bool x, fun _ z => (List.not_mem_nil z).elim, fun _ => by simp only [PyData.hasDict]⟩
  | .int i, _, _, h, r => by
    cases h
    obtain ⟨t, rfl⟩ := r
    exact ⟨[], Reads.int i t, fun _ z => (List.not_mem_nil z).elim, fun _ => by simp only [PyData.hasDict]⟩
  | .str x, _, _, h, r => by
    cases h
    obtain ⟨t, rfl⟩ := r
    exact ⟨[], Reads.str x t, fun _ z => (List.not_mem_nil z).elim, fun _ => by simp only [PyData.hasDict]⟩
  | .list ds, _, _, h, r => by
    cases h with
    | lst e ne sm ha =>
      cases r
      obtain ⟨_, its, n, rv, g⟩ := I.hok _ _ e
      obtain ⟨as, q, z1, z2⟩ := Dq.readsAll I ds _ its ha rv
      refine ⟨_, Reads.list g rfl rfl q, fun t m => ?_, fun f => by simp only [PyData.hasDict]; exact z2 f⟩
      rcases List.mem_cons.mp m with m | m
      · exact sm t m.symm
      · exact z1 t m
  | .tuple ds, _, _, h, r => by
    cases h with
    | tup e ne ha =>
      cases r
      obtain ⟨_, its, rv, o, g, c, n, dd⟩ := I.hok _ _ e
      obtain ⟨as, q, z1, z2⟩ := Dq.readsAll I ds _ its ha rv
      exact ⟨_, Reads.tuple g c dd q, z1, fun f => by simp only [PyData.hasDict]; exact z2 f⟩
  | .dict kvs, _, _, h, r => by
    cases h with
    | dc0 bt e ne =>
      cases r
      obtain ⟨_, sm, vs, kv, o, es, ep, g, ex, dd, _, pr, _⟩ := I.hok _ _ e
      cases kv
      have el : es.toList = [] := by cases hh : es.toList with
        | nil => rfl
        | cons x r => rw [hh] at pr; cases pr
      refine ⟨_, Reads.dict (as := []) (bs := []) g ex.1 dd (by rw [el]; exact .nil) (by rw [el]; exact .nil), fun _ m => ?_, fun f => by rw [bt] at f; cases f⟩
      rcases List.mem_cons.mp m with m | m
      · exact absurd m.symm (beq_eq_false_iff_ne.mp sm)
      · exact List.not_mem_nil m
    | @dc1 a x v d bt e ne hd =>
      cases r
      obtain ⟨_, sm, vs, kv, o, es, ep, g, ex, dd, _, pr, _⟩ := I.hok _ _ e
      obtain ⟨w, rfl, rw'⟩ : ∃ w, vs = [((Sum.inr x : Key), w)] ∧ RelV v w := by
        cases vs with
        | nil => cases kv
        | cons q r =>
          cases r with
          | nil =>
            cases kv with
            | cons k1 k2 =>
              obtain ⟨kk, w⟩ := q
              obtain ⟨k1, k3⟩ := k1
              simp only at k1 k3
              subst k1
              exact ⟨w, rfl, k3⟩
          | cons _ _ =>
            cases kv with
            | cons k1 k2 => cases k2
      by_cases tt0 : True
      · skip
        have el : ∃ en : DictEntry, es.toList = [en] ∧ keyIs (Sum.inr x) en.key = true ∧ en.val = w := by
          cases hh : es.toList with
          | nil => rw [hh] at pr; cases pr
          | cons en r =>
            rw [hh] at pr
            cases pr with
            | cons i1 i2 i3 => cases i3; exact ⟨en, rfl, i1, i2⟩
        obtain ⟨en, el, hk, hv⟩ := el
        obtain ⟨t, ek⟩ : ∃ t, en.key = Value.str x t := by
          rcases keyIs_shape hk with ⟨i, t, e1, e2⟩ | ⟨y, t, e1, e2⟩
          · cases e1
          · cases e1; exact ⟨t, e2⟩
        obtain ⟨as, q, z1, z2⟩ := Dq.reads I d v w hd rw'
        refine ⟨_, Reads.dict (as := [] ++ []) (bs := as ++ []) g ex.1 dd (by rw [el]; exact .cons (by show Reads s.heap en.key (.str x) []; rw [ek]; exact Reads.str x t) .nil) (by rw [el]; exact .cons (by show Reads s.heap en.val d as; rw [hv]; exact q) .nil), fun tt m => ?_, fun f => by rw [bt] at f; cases f⟩
        simp only [List.append_nil, List.nil_append] at m
        rcases List.mem_cons.mp m with m | m
        · exact absurd m.symm (beq_eq_false_iff_ne.mp sm)
        · exact z1 tt m
      · exact absurd trivial tt0
theorem Dq.readsAll (I : Inv X pins σ H s) : ∀ (ds : List PyData) (vs : List V) (us : List Value), DqAll b p H vs ds → Vals vs us → ∃ as, ReadsAll s.heap us ds as ∧ (b = true → sysModules ∉ as) ∧ (b = false → PyData.hasDictAll ds = false)
  | [], _, _, h, r => by
    cases h
    cases r
    exact ⟨[], ReadsAll.nil, fun _ z => (List.not_mem_nil z).elim, fun _ => by simp only [PyData.hasDictAll]⟩
  | d :: ds, _, _, h, r => by
    cases h with
    | cons h1 h2 =>
      cases r with
      | cons r1 r2 =>
        obtain ⟨as, q1, y1, y2⟩ := Dq.reads I d _ _ h1 r1
        obtain ⟨bs, q2, z1, z2⟩ := Dq.readsAll I ds _ _ h2 r2
        refine ⟨_, ReadsAll.cons q1 q2, fun t m => ?_, fun f => by simp only [PyData.hasDictAll, y2 f, z2 f, Bool.or_self]⟩
        rcases List.mem_append.mp m with m | m
        · exact y1 t m
        · exact z1 t m
end
end
/-- the text of a value, what it asks -/
def Fits (d : PyData) : Prop := d.showable = true ∧ d.shown.length ≤ sizeLine ∧ d.depth ≤ 60
section
variable {X : Cx} {k : Nat}
theorem call_reprD (hr : X.A.guards = some [] ∧ Room k X.A) : CallR X (.builtin "repr") (fun xs H Q => ∃ a d b p, xs = [.ref a] ∧ Dq b p H (.ref a) d ∧ Fits d ∧ Q (.str d.shown) H) := by
  intro pins s σ H xs us Q I r h
  obtain ⟨a, d, b, p, rfl, hd, ⟨f1, f2, f3⟩, q⟩ := h
  obtain ⟨u, rfl, ru⟩ := vals1 r
  obtain ⟨as, rd, z1, z2⟩ := Dq.reads I d _ u hd ru
  cases ru
  have un := hr.2.un
  refine repr_of_reads' rd f1 (fun hx => ?_) hr.1 (by omega) (fun _ _ e => e) (fun h' u tk hk => ?_) f2
  · cases b with
    | true => exact z1 rfl
    | false => rw [z2 rfl] at hx; cases hx
  · exact ⟨.str _, H, I.kept hk, ⟨u, rfl⟩, q⟩
theorem call_reprV (hr : X.A.guards = some [] ∧ Room k X.A) : CallR X (.builtin "repr") (fun xs H Q => ∃ v d b p, xs = [v] ∧ Dq b p H v d ∧ Fits d ∧ Q (.str d.shown) H) := by
  intro pins s σ H xs us Q I r h
  obtain ⟨v, d, b, p, e, hd, f, q⟩ := h
  have go : ∀ a, v = .ref a → wpAny (model X.prog X.w) X.A (call (.builtin "repr") us) (EP X pins σ Q) X.xe s := fun a z => by
    subst z
    exact call_reprD hr pins s σ H xs us Q I r ⟨a, d, b, p, e, hd, f, q⟩
  cases hd with
  | non =>
    subst e
    obtain ⟨u, rfl, ru⟩ := vals1 r
    cases ru
    exact PySem.P.repr_of_none ⟨.str _, H, I.tok _, ⟨_, rfl⟩, q⟩
  | bl x =>
    subst e
    obtain ⟨u, rfl, ru⟩ := vals1 r
    cases ru
    refine PySem.P.repr_of_bool ⟨.str _, H, I.tok _, ⟨_, rfl⟩, ?_⟩
    simp only [PyData.shown] at q
    cases x <;> exact q
  | int x =>
    subst e
    obtain ⟨u, rfl, t, rfl⟩ := vals1 r
    exact PySem.P.repr_of_int (of_decide_eq_true f.1) ⟨.str _, H, I.tok _, ⟨_, rfl⟩, q⟩
  | str x =>
    subst e
    obtain ⟨u, rfl, t, rfl⟩ := vals1 r
    exact PySem.P.repr_of_str ⟨.str _, H, I.tok _, ⟨_, rfl⟩, q⟩ f.2.1
  | lst _ _ _ _ => exact go _ rfl
  | tup _ _ _ => exact go _ rfl
  | dc0 _ _ _ => exact go _ rfl
  | dc1 _ _ _ _ => exact go _ rfl
/-- a new list is not the table of modules -/
def tLstM (t : TA) : TE := fun σ H Q => t σ H fun xs H1 => xs.length ≤ sizeLine ∧ ∀ p, H1 p = none → p ≠ sysModules → Q (.ref p) (upd H1 p (.lst xs))
theorem pe_lstM {es : List Expr} {t : TA} {pos : Pos} (h : PA X es t) : PE X (.List es pos) (tLstM t) := by
  constructor
  intro pins s σ H Q I hq
  refine wpAny_List_spliced (thn (h.run pos pins s σ H _ I hq) ?_)
  rintro us s1 ⟨xs, H1, I1, r, z, q⟩
  have big := I1.big
  have new := I1.hok.fresh (Nat.le_refl s1.heap.objs.size)
  refine ⟨r.length ▸ z, .ref s1.heap.objs.size, upd H1 s1.heap.objs.size (.lst xs), I1.laid (t' := s1.toks) (fun _ _ e => Heap.get?_push_of_some _ e) (Nat.le_refl _) ⟨z, us, 0, r, Heap.get?_push_size _ rfl⟩, rfl, q _ new (Nat.ne_of_gt big)⟩
/-- a power of whole numbers -/
theorem op_powW : OpR X (binaryOp .Pow) (rI (fun i j => 0 ≤ j ∧ (Builtin.Int.intBits i : Int) * j ≤ 2 ^ 27) fun i j => .int (i ^ j.toNat)) := opI fun _ _ _ _ _ _ _ hc q => pow_int hc.1 hc.2 q
end
end Pf

set_option Elab.async false
set_option linter.all false
set_option maxRecDepth 100000
/-! The law's own draws: a pot of three numbers, of which only bounds are told. -/
namespace Pf
open PySem PySem.Spec PyProof.Rows L2
theorem at20 {x y : V} : atI [x, y] 0 = some x := rfl
theorem at21 {x y : V} : atI [x, y] 1 = some y := rfl
theorem at0 {x y z : V} : atI [x, y, z] 0 = some x := rfl
theorem at1 {x y z : V} : atI [x, y, z] 1 = some y := rfl
theorem at2 {x y z : V} : atI [x, y, z] 2 = some z := rfl
/-- an item of a list that is tracked -/
def rIxV : R2 := fun x y H Q => ∃ p xs i v, x = .ref p ∧ y = .int i ∧ H p = some (.lst xs) ∧ atI xs i = some v ∧ Q v H
theorem ix_v {X : Cx} : IxR X rIxV := by
  intro value slice pins s σ H x y u v Q I rx ry h hs
  obtain ⟨p, xs, i, z, e1, e2, e3, e4, q⟩ := h
  exact ix_list value slice pins s σ H x y u v Q I rx ry ⟨p, xs, i, z, e1, e2, SqL.of e3, e4, q⟩ hs
theorem call_intI {X : Cx} : CallR X (.type "int") (fun xs H Q => ∃ i, xs = [.int i] ∧ Q (.int i) H) := fun pins s σ H xs us Q I r h => call_int1 pins s σ H xs us Q I r (Or.inl h)
theorem call_lenL {X : Cx} : CallR X (.builtin "len") (fun xs H Q => ∃ p ys, xs = [.ref p] ∧ H p = some (.lst ys) ∧ Q (.int ys.length) H) := by
  intro pins s σ H xs us Q I r h
  obtain ⟨p, ys, e1, e2, q⟩ := h
  exact call_len_seq pins s σ H xs us Q I r ⟨p, ys, e1, .inl (SqL.of e2), q⟩
theorem call_lenT {X : Cx} : CallR X (.builtin "len") (fun xs H Q => ∃ p ys, xs = [.ref p] ∧ H p = some (.tup ys) ∧ Q (.int ys.length) H) := by
  intro pins s σ H xs us Q I r h
  obtain ⟨p, ys, e1, e2, q⟩ := h
  exact call_len_seq pins s σ H xs us Q I r ⟨p, ys, e1, .inr (SqT.of e2), q⟩
theorem atI_some {α : Type} {xs : List α} {i : Int} (h0 : 0 ≤ i) (h1 : i < xs.length) : ∃ x, atI xs i = some x ∧ x ∈ xs := by
  obtain ⟨n, rfl⟩ := Int.eq_ofNat_of_zero_le h0
  have hn : n < xs.length := by omega
  exact ⟨xs[n], atI_nat (List.getElem?_eq_getElem hn), List.getElem_mem hn⟩
def rIxP : R2 := fun x y H Q => ∃ p xs i v, x = .ref p ∧ y = .int i ∧ H p = some (.tup xs) ∧ atI xs i = some v ∧ Q v H
theorem ix_t {X : Cx} : IxR X rIxP := by
  intro value slice pins s σ H x y u v Q I rx ry h hs
  obtain ⟨p, xs, i, z, e1, e2, e3, e4, q⟩ := h
  exact ix_tup value slice pins s σ H x y u v Q I rx ry ⟨p, xs, i, z, e1, e2, SqT.of e3, e4, q⟩ hs
/-- (a, b) = a tracked tuple -/
def gTupV (n : Nat) (t : TGs) : TG := fun v σ H Q => ∃ a xs, v = .ref a ∧ H a = some (.tup xs) ∧ xs.length = n ∧ t xs σ H Q
theorem pg_tupV {X : Cx} {es : List Expr} {k : Nat} {t : TGs} {n : Nat} {pos : Pos} (hc : X.calm = true) (h : PGs X es t) (hn : (assignEach es X.env).length = n := by rfl) (hs : (assignEach es X.env).findIdx? (·.1) = none := by rfl) : PG X (.Tuple es k pos) (gTupV n t) := by
  constructor
  intro pins s σ H v u Q I r ⟨a, xs, e1, e2, e3, q⟩
  exact (pg_tup hc h hn hs).run pins s σ H v u Q I r ⟨a, xs, e1, SqT.of e2, e3, q⟩
/-- all(l), any(l) of a tracked list of truths -/
def rAllB : List V → Hp → VK → Prop := fun xs H Q => ∃ (a : Addr) (bs : List Bool), xs = [V.ref a] ∧ H a = some (.lst (bs.map V.bl)) ∧ Q (.bl (bs.all id)) H
def rAnyB : List V → Hp → VK → Prop := fun xs H Q => ∃ (a : Addr) (bs : List Bool), xs = [V.ref a] ∧ H a = some (.lst (bs.map V.bl)) ∧ Q (.bl (bs.any id)) H
theorem call_allB {X : Cx} (hc : X.calm = true) : CallR X (.builtin "all") rAllB := fun pins s σ H xs us Q I r ⟨a, bs, e1, e2, q⟩ => cr_all hc pins s σ H xs us Q I r ⟨a, bs, e1, SqL.of e2, q⟩
theorem call_anyB {X : Cx} (hc : X.calm = true) : CallR X (.builtin "any") rAnyB := fun pins s σ H xs us Q I r ⟨a, bs, e1, e2, q⟩ => cr_any hc pins s σ H xs us Q I r ⟨a, bs, e1, SqL.of e2, q⟩
/-- t[1:] of a tracked tuple -/
def rSl1 : V → Option Int → Option Int → Hp → VK → Prop := fun x lo hi H Q => ∃ (a : Addr) (xs : List V), x = .ref a ∧ lo = some 1 ∧ hi = none ∧ H a = some (.tup xs) ∧ ∀ (H' : Hp) (c : Addr), Same H H' → H' c = some (.tup (xs.drop 1)) → Q (.ref c) H'
theorem sl_one {X : Cx} : SlR X rSl1 := by
  intro pins s σ H x v vl vu lo hi sl Q I rx hs pl pu h
  obtain ⟨a, xs, e1, e2, e3, e4, q⟩ := h
  subst e2 e3
  have h1 : HT.sIx xs.length 0 (some 1) = min 1 xs.length := HT.sIx_nat xs.length 0 1
  have h2 : HT.sIx xs.length xs.length none = xs.length := HT.sIx_none ..
  refine sl_tupA pins s σ H x v vl vu _ _ sl Q I rx hs pl pu ⟨a, xs, e1, SqT.of e4, fun z => ?_, fun z c hc => ?_⟩
  · rw [h1, h2] at z
    have nil : xs = [] := List.eq_nil_of_length_eq_zero (by omega)
    subst nil
    exact q H a (Same.refl H) e4
  · refine q _ c (fun b o g => ?_) ?_
    · rw [upd_ne (ne_of_none g hc)]
      exact g
    · have cut : cutV xs (some 1) none = xs.drop 1 := by
        unfold cutV
        rw [h1, h2]
        cases xs with
        | nil => rfl
        | cons y r =>
          rw [show min 1 (y :: r).length = 1 from Nat.min_eq_left (by simp)]
          exact List.take_of_length_le (by simp)
      rw [cut, upd_same]
theorem call_tupleL {X : Cx} : CallR X (.type "tuple") (fun xs H Q => ∃ p ys, xs = [.ref p] ∧ H p = some (.lst ys) ∧ ∀ l, H l = none → Q (.ref l) (upd H l (.tup ys))) := fun pins s σ H xs us Q I r ⟨p, ys, e1, e2, q⟩ => call_tuple_of pins s σ H xs us Q I r ⟨p, ys, e1, .inl ⟨SqL.of e2, q⟩⟩
theorem call_listT {X : Cx} : CallR X (.type "list") (fun xs H Q => ∃ p ys, xs = [.ref p] ∧ H p = some (.tup ys) ∧ ∀ l, H l = none → Q (.ref l) (upd H l (.lst ys))) := fun pins s σ H xs us Q I r ⟨p, ys, e1, e2, q⟩ => call_list_of pins s σ H xs us Q I r ⟨p, ys, e1, .inr (SqT.of e2), q⟩
theorem ixN30 : ixN 3 0 = some 0 := rfl
theorem ixN32 : ixN 3 2 = some 2 := rfl
local macro_rules | `(tactic| walk_at "rd") => `(tactic| simp only [tC1, tCK, tB, rNe, rEq, tChain, gTupV, gCons, gNil, Nat.sub_self, Nat.reduceSub, List.replicate_zero, List.replicate_succ, tTest, tIfS, tIf, tNot, tAnd, tOr, tAndV, tOrV, tNotV, tDrop, tNext, rIxV, rIxP,
  gSub, rSetL, tSl, tPart, tNoPart, rSl1, tDNewK, tBM, rAppend, wipe, rAllB, rAnyB, iTup, iList, RZ.iZipA, iRng1, iRng2, tYes, upd_same, at0, at1, at2, at20, at21, ixN30, ixN32, HO.lst.injEq, HO.tup.injEq, Nat.reduceAdd, tSeq, tAsg, tPar, tAug, tOp, tVar, tC, tCB, tCons, tNil, rI, rI0, rU, tUn, gName, tRet, tLst, tLstM, tTup, L2.start, List.map_cons, List.map_nil, List.length_cons, List.length_nil, List.replicate, List.cons_append,
  List.nil_append, List.set_cons_zero, List.set_cons_succ, List.getElem?_cons_zero, List.getElem?_cons_succ, Option.some.injEq, V.int.injEq, V.ref.injEq, V.bl.injEq, V.str.injEq, List.cons.injEq, exists_eq_left', exists_eq_left, exists_and_left, exists_and_right, and_true, true_and, reduceCtorEq, false_and,
  exists_false, or_false, false_or, exists_const, exists_eq, exists_eq', Bool.not_true, Bool.not_false, Bool.false_eq_true, if_true, if_false, ite_true, ite_false])
/-- all that stood stays, but what is at p -/
def Kp (p : Addr) (H H' : Hp) : Prop := ∀ b o, b ≠ p → H b = some o → H' b = some o
theorem Kp.refl (p : Addr) (H : Hp) : Kp p H H := fun _ _ _ h => h
theorem Kp.trans {p : Addr} {H H1 H2 : Hp} (a : Kp p H H1) (b : Kp p H1 H2) : Kp p H H2 := fun c o n h => b c o n (a c o n h)
theorem Kp.of {p : Addr} {H H' : Hp} (a : Same H H') : Kp p H H' := fun c o _ h => a c o h
theorem Kp.new {p q : Addr} {H : Hp} {o : HO} (h : H q = none) : Kp p H (upd H q o) := fun b u _ e => by
  rw [upd_ne (ne_of_none e h)]
  exact e
theorem Kp.put {p : Addr} {H : Hp} {o : HO} : Kp p H (upd H p o) := fun b u n e => by
  rw [upd_ne n]
  exact e
theorem new_same {q : Addr} {H : Hp} {o : HO} (h : H q = none) : Same H (upd H q o) := fun b u e => by
  rw [upd_ne (ne_of_none e h)]
  exact e
theorem Kp.seqL {K : PySem.W.Frag} {p a : Addr} {H H' : Hp} {xs : List V} (k : Kp p H H') (n : a ≠ p) (h : SqL K H a xs) : SqL K H' a xs := by
  rcases h with (h | ⟨o, h⟩) | h
  · exact .inl (.inl (k _ _ n h))
  · exact .inl (.inr ⟨o, k _ _ n h⟩)
  · exact .inr h
/-- a place that is free behind was free ahead -/
theorem Kp.free {p q : Addr} {H H' : Hp} {u : HO} (k : Kp p H H') (hp : H' p = some u) (h : H' q = none) : H q = none := by
  cases e : H q with
  | none => rfl
  | some o =>
    by_cases n : q = p
    · rw [n, hp] at h
      cases h
    · rw [k _ _ n e] at h
      cases h
/-- a comprehension without ifs, whose turns leave what stood: its new list is out -/
theorem lcMap {J : It} {n : Nat} {G : Hp → Prop} {Y : Nat → Hp → V → Hp → Prop} (w : Walk J n G Y) {g : TG} {te : TE} {vs : List Nat} {σ : L2.St} {H1 : Hp} {Qd : Addr → Hp → Prop} (out : List V) (hn : out.length = n) (hz : n ≤ sizeLine) (hG : ∀ H, Same H1 H → G H)
    (hs : ∀ (i : Nat) (x : V) (H H' : Hp) (y : V) (R : VK), out[i]? = some y → Same H1 H → Y i H x H' → (∀ H4, Same H H4 → R y H4) → g x (wipe σ vs) H' fun σ2 H2 => wipe σ2 vs = wipe σ vs ∧ te σ2 H2 R)
    (hd : ∀ H D, H1 D = none → Same H1 H → H D = some (.lst out) → Qd D H) :
    ∀ D, H1 D = none → ∃ W : Nat → Nat → Hp → Prop, (∃ m, W 0 m (upd H1 D (.lst []))) ∧ ∀ i m H, W i m H →
      (J.stop i H ∧ Qd D H) ∨ (J.go i H ∧ ∃ Nx : Hp → Prop, (∀ H', Nx H' → ∃ m', m' < m ∧ W (i + 1) m' H') ∧ ∀ x H', J.yld i H x H' → g x (wipe σ vs) H' fun σ2 H2 => wipe σ2 vs = wipe σ vs ∧ tYes σ2 H2 fun on H3 =>
        if on = true then te σ2 H3 fun y H4 => ∃ made, H4 D = some (.lst made) ∧ made.length < sizeLine ∧ Nx (upd H4 D (.lst (made ++ [y]))) else Nx H3) := by
  intro D hD
  refine lc_it w (Qd := fun H => Qd D H) (fun i H => Same H1 H ∧ H D = some (.lst (out.take i))) ⟨new_same hD, by rw [upd_same]; rfl⟩ (fun i H _ h => hG H h.1) ?_ (fun H h => hd H D hD h.1 (by rw [h.2, List.take_of_length_le (by omega)]))
  rintro i x H H' hi ⟨hS, hL⟩ hy
  have hi2 : i < out.length := by omega
  simp only [tYes, if_true]
  refine hs i x H H' out[i] _ (List.getElem?_eq_getElem hi2) hS hy fun H4 h4 => ?_
  have l4 := h4 _ _ hL
  refine ⟨_, l4, by rw [List.length_take]; omega, fun b o e => ?_, ?_⟩
  · rw [upd_ne (ne_of_none e hD)]
    exact h4 _ _ (hS _ _ e)
  · rw [upd_same, List.take_add_one, List.getElem?_eq_getElem hi2]
    rfl
/-- zip of two tuples -/
theorem walk_zipT {K : PySem.W.Frag} {a b : Addr} {xs ys : List V} {n : Nat} (hn : n = min xs.length ys.length) : Walk (RZ.ItzT K a b) n (fun H => SqT K H a xs ∧ SqT K H b ys) (YPair (fun i => xs[i]?) (fun i => ys[i]?)) := by
  subst hn
  constructor
  · intro i H hi q
    have h1 : i < xs.length := Nat.lt_of_lt_of_le hi (Nat.min_le_left _ _)
    have h2 : i < ys.length := Nat.lt_of_lt_of_le hi (Nat.min_le_right _ _)
    exact ⟨xs, ys, xs[i], ys[i], q.1, q.2, List.getElem?_eq_getElem h1, List.getElem?_eq_getElem h2⟩
  · intro H q
    exact ⟨xs, ys, q.1, q.2, by omega⟩
  · rintro i H v H' _ q ⟨T, x, y, e1, e2, e3, e4, e5⟩
    exact ⟨T, x, y, e1, e2, e3, e4 xs q.1, e5 ys q.2⟩
/-- the pot: what is left of the cell, the mixed number, the draws so far (at most m) -/
def Pot (H : Hp) (p : Addr) (m : Nat) : Prop := ∃ a b c : Int, H p = some (.lst [.int a, .int b, .int c]) ∧ 0 ≤ a ∧ a.natAbs < 2 ^ 1000 ∧ 0 ≤ b ∧ b < 2 ^ 61 ∧ 0 ≤ c ∧ c ≤ m
theorem Pot.lst {H : Hp} {p : Addr} {m : Nat} (h : Pot H p m) : ∃ xs, H p = some (.lst xs) := by
  obtain ⟨a, b, c, e, _⟩ := h
  exact ⟨_, e⟩
theorem Pot.up {H : Hp} {p : Addr} {m n : Nat} (h : Pot H p m) (l : m ≤ n) : Pot H p n := by
  obtain ⟨a, b, c, e, h1, h2, h3, h4, h5, h6⟩ := h
  exact ⟨a, b, c, e, h1, h2, h3, h4, h5, by omega⟩
theorem Pot.same {H H' : Hp} {p : Addr} {m : Nat} (h : Pot H p m) (s : Same H H') : Pot H' p m := by
  obtain ⟨a, b, c, e, r⟩ := h
  exact ⟨a, b, c, s _ _ e, r⟩
theorem cell_at {ns : List Int} {k : Nat} (h : k < ns.length) : atI (ns.map V.int) (k : Int) = some (.int ns[k]) := atI_nat (by rw [List.getElem?_map, List.getElem?_eq_getElem h]; rfl)
theorem pow_bits {i j : Int} (h0 : 0 ≤ j) {n : Nat} (h : Builtin.Int.intBits i ≤ n) (h2 : (n : Int) * j ≤ 2 ^ 27) : 0 ≤ j ∧ (Builtin.Int.intBits i : Int) * j ≤ 2 ^ 27 :=
  ⟨h0, Int.le_trans (Int.mul_le_mul_of_nonneg_right (by omega) h0) h2⟩
def topS (i : Nat) : Stmt := PySem.Challenge.pw_piecefacts_k01_range_sets_of_any_value.main.body.getD i (.Pass ⟨0, 0, 0, 0⟩)
abbrev s__law_pot : Stmt := topS 7
theorem sc__law_pot : FnScope ["_law_script", "_law_k", "_law_cell", "_law_own"] ["_law_script", "_law_k"] (defScope s__law_pot) := ⟨rfl, rfl, rfl, by decide +kernel, rfl, by decide +kernel, by decide +kernel⟩
abbrev s__law_draw : Stmt := topS 8
theorem sc__law_draw : FnScope ["_law_pot_here", "_law_many", "_law_digit", "_law_prime", "_law_made"] ["_law_pot_here", "_law_many"] (defScope s__law_draw) := ⟨rfl, rfl, rfl, by decide +kernel, rfl, by decide +kernel, by decide +kernel⟩
abbrev s__law_any : Stmt := topS 9
theorem sc__law_any : FnScope ["_law_pot_here", "_law_items"] ["_law_pot_here", "_law_items"] (defScope s__law_any) := ⟨rfl, rfl, rfl, by decide +kernel, rfl, by decide +kernel, by decide +kernel⟩
structure Txt (mg : Str → Option Value) : Prop where
  b_abs : mg "abs" = none
  b_all : mg "all" = none
  b_any : mg "any" = none
  b_bool : mg "bool" = none
  b_int : mg "int" = none
  b_isinstance : mg "isinstance" = none
  b_len : mg "len" = none
  b_list : mg "list" = none
  b_max : mg "max" = none
  b_min : mg "min" = none
  b_range : mg "range" = none
  b_repr : mg "repr" = none
  b_tuple : mg "tuple" = none
  b_zip : mg "zip" = none
theorem pot_c1 : (0 : Int) ≤ 60 ∧ (Builtin.Int.intBits 10 : Int) * 60 ≤ 2 ^ 27 := by decide +kernel
theorem pot_c2 : (0 : Int) ≤ 5 ∧ (Builtin.Int.intBits (10 ^ Int.toNat 60) : Int) * 5 ≤ 2 ^ 27 := by decide +kernel
theorem pot_c3 : (0 : Int) < (10 ^ Int.toNat 60) ^ Int.toNat 5 := by decide +kernel
theorem pot_c4 : (0 : Int) ≤ 18 ∧ (Builtin.Int.intBits 10 : Int) * 18 ≤ 2 ^ 27 := by decide +kernel
theorem pot_c5 {x y : Int} {b : Bool} : CMul (x % y) (if b = true then 1 else 0) := by
  cases b with
  | true => exact Or.inr (by decide)
  | false => exact Or.inr (by decide)
theorem pot_c6 (c : Int) : CMul (c % 2305843009213693951) 71993 := Or.inr (by decide)
theorem pot_c7 (x : Int) (h : -(2 ^ 64) < x ∧ x < 2 ^ 64) {k : Nat} (hk : k ≤ 63) : CMul x (k : Int) := Or.inl h
theorem pot_c8 {k : Nat} (hk : k ≤ 63) : CMul (9241 * (k : Int)) (k : Int) := Or.inr (by omega)
theorem pot_c9 : (((10 : Int) ^ Int.toNat 60) ^ Int.toNat 5).natAbs < 2 ^ 1000 := by decide +kernel
theorem pot_made (H : Hp) (p : Addr) (x y : Int) (b : Bool) : Pot (upd H p (.lst [.int (x % (10 ^ Int.toNat 60) ^ Int.toNat 5 * if b = true then 1 else 0), .int (y % 2305843009213693921), .int 0])) p 0 := by
  have g1 := Int.emod_nonneg x (Int.ne_of_gt pot_c3)
  have g2 := Int.emod_lt_of_pos x pot_c3
  have g3 := pot_c9
  refine ⟨_, _, _, upd_same, ?_, ?_, by omega, by omega, by decide, by decide⟩
  · cases b with
    | true => exact Int.mul_nonneg g1 (by decide)
    | false => exact Int.mul_nonneg g1 (by decide)
  · cases b with
    | true =>
      rw [if_pos rfl, Int.mul_one]
      exact Nat.lt_trans (Int.natAbs_lt_natAbs_of_nonneg_of_lt g1 g2) g3
    | false =>
      rw [if_neg Bool.false_ne_true, Int.mul_zero]
      exact Nat.two_pow_pos _
theorem five {j : Int} (h0 : 0 ≤ j) (h5 : j < 5) : ∃ q : Int, 0 < q ∧ q < 2 ^ 31 ∧ atI [V.int 2147483647, V.int 2147483629, V.int 2147483587, V.int 2147483579, V.int 2147483563] j = some (.int q) := by
  have c : j = 0 ∨ j = 1 ∨ j = 2 ∨ j = 3 ∨ j = 4 := by omega
  rcases c with rfl | rfl | rfl | rfl | rfl
  · exact ⟨2147483647, by decide, by decide, rfl⟩
  · exact ⟨2147483629, by decide, by decide, rfl⟩
  · exact ⟨2147483587, by decide, by decide, rfl⟩
  · exact ⟨2147483579, by decide, by decide, rfl⟩
  · exact ⟨2147483563, by decide, by decide, rfl⟩
section
variable {base : Heap} {P : Program} {w : World} {mg : Str → Option Value} {K : PySem.W.Frag}
def sp_pot (K : PySem.W.Frag) : Sp := fun vs H Q _ => ∃ (a : Addr) (ns : List Int) (k : Nat), vs = [.ref a, .int k] ∧ SqL K H a (ns.map V.int) ∧ ns.length ≤ 63 ∧ k ≤ 63 ∧ ∀ H' p, Same H H' → H p = none → Pot H' p 0 → Q (.ref p) H'
theorem ok_pot {f : Addr} {fd : FuncData} (F : Fun K "_law_pot" "_law_pot" s__law_pot f fd) (T : Txt mg) : FnG P w K mg base 1 f fd ["_law_script", "_law_k"] (sp_pot K) := by
  refine okG F sc__law_pot (fun vs H Q E h => ?_) (fun cdv A outer s H vs Q E hg hr h => ?_)
  · obtain ⟨a, ns, k, rfl, _⟩ := h
    rfl
  · obtain ⟨a, ns, k, rfl, hS, hlen, hk, q⟩ := h
    replace hr := And.intro hg hr
    refine ⟨_, (pss_cons (ps_set (i := 2) sc__law_pot.nd rfl (Or.inl rfl) (pe_ifExp (pt_cmpR op_lt (pv 1) (pe_callB call_len_seq (by rfl) T.b_len (by decide +kernel) (pa_cons (pv 0) pa_nil)) (nomark _)) (pe_ix ix_list (pv 0) (pv 1) (fun _ _ => rfl)) (pe_op op_add (pe_op op_mul pe_int (pv 1)) pe_int)))
        (pss_cons (ps_set (i := 3) sc__law_pot.nd rfl (Or.inl rfl) (pe_op op_mul (pe_op op_mod (pe_callTy call_intI (by rfl) T.b_int (by decide +kernel) (pa_cons (pe_callB call_abs (by rfl) T.b_abs (by decide +kernel) (pa_cons (pv 2) pa_nil)) pa_nil)) (pe_op op_powW (pe_op op_powW pe_int pe_int) pe_int)) (pe_callTy call_int1 (by rfl) T.b_int (by decide +kernel) (pa_cons (pe_cmpR op_ge (pe_callB call_abs (by rfl) T.b_abs (by decide +kernel) (pa_cons (pv 2) pa_nil)) (pe_op op_powW pe_int pe_int) (nomark _)) pa_nil))))
        (pss_one (ps_ret (pe_lst (pa_cons (pv 3) (pa_cons (pe_op op_mod (pe_callTy call_intI (by rfl) T.b_int (by decide +kernel) (pa_cons (pe_op op_add (pe_op op_add (pe_op op_mul (pe_op op_mod (pe_callTy call_intI (by rfl) T.b_int (by decide +kernel) (pa_cons (pv 2) pa_nil)) pe_int) pe_int) (pe_op op_mul (pe_op op_mul pe_int (pv 1)) (pv 1))) pe_int) pa_nil)) pe_int) (pa_cons pe_int pa_nil)))))))), ?_⟩
    refine ⟨.int k, rfl, .ref a, rfl, a, _, rfl, .inl hS, (k : Int), _, rfl, rfl, _, rfl, ?_⟩
    refine ite2 (fun e => ?_) (fun e => ?_)
    · have hlt : k < ns.length := by
        have := of_decide_eq_true e
        rw [List.length_map] at this
        omega
      refine ⟨.ref a, rfl, .int k, rfl, a, _, (k : Int), _, rfl, rfl, hS, cell_at hlt, ?_⟩
      generalize ns[k] = c
      walk_at "rd"
      refine ⟨pot_c1, pot_c2, pot_c3, pot_c4, pot_c5, by decide, pot_c6 c, pot_c7 9241 (by decide) hk, pot_c8 hk, by decide, by decide, fun p hp => q _ p (new_same hp) hp (pot_made H p _ _ _)⟩
    · walk_at "rd"
      refine ⟨pot_c7 11 (by decide) hk, pot_c1, pot_c2, pot_c3, pot_c4, pot_c5, by decide, pot_c6 _, pot_c7 9241 (by decide) hk, pot_c8 hk, by decide, by decide, fun p hp => q _ p (new_same hp) hp (pot_made H p _ _ _)⟩
def sp_draw : Sp := fun vs H Q _ => ∃ (p : Addr) (many : Int) (m : Nat), vs = [.ref p, .int many] ∧ Pot H p m ∧ m < 1000000 ∧ 1 ≤ many ∧ many.natAbs < 2 ^ 200 ∧
  ∀ (H' : Hp) (r : Int), Kp p H H' → Pot H' p (m + 1) → 0 ≤ r → r < many → Q (.int r) H'
theorem ok_draw {f : Addr} {fd : FuncData} (F : Fun K "_law_draw" "_law_draw" s__law_draw f fd) (T : Txt mg) : FnG P w K mg base 1 f fd ["_law_pot_here", "_law_many"] sp_draw := by
  refine okG F sc__law_draw (fun vs H Q E h => ?_) (fun cdv A outer s H vs Q E hg hr h => ?_)
  · obtain ⟨p, many, m, rfl, _⟩ := h
    rfl
  · obtain ⟨p, many, m, rfl, ⟨a, b, c, e, h1, h2, h3, h4, h5, h6⟩, hm, hn, hn2, q⟩ := h
    replace hr := And.intro hg hr
    refine ⟨_, (pss_cons (ps_if (pt_cmpR op_gt (pe_ix ix_v (pv 0) pe_int (fun _ _ => rfl)) pe_int (nomark _)) (pss_cons (ps_set (i := 2) sc__law_draw.nd rfl (Or.inl rfl) (pe_op op_mod (pe_callTy call_intI (by rfl) T.b_int (by decide +kernel) (pa_cons (pe_ix ix_v (pv 0) pe_int (fun _ _ => rfl)) pa_nil)) (pv 1)))
        (pss_cons (ps_asg (pe_op op_fdivW (pe_ix ix_v (pv 0) pe_int (fun _ _ => rfl)) (pv 1)) (pg_sub (pv 0) pe_int set_list))
        (pss_one (ps_ret (pv 2))))) pss_nil)
        (pss_cons (ps_asg (pe_op op_add (pe_ix ix_v (pv 0) pe_int (fun _ _ => rfl)) pe_int) (pg_sub (pv 0) pe_int set_list))
        (pss_cons (ps_set (i := 3) sc__law_draw.nd rfl (Or.inl rfl) (pe_ix ix_v (pe_lst (pa_cons pe_int (pa_cons pe_int (pa_cons pe_int (pa_cons pe_int (pa_cons pe_int pa_nil)))))) (pe_op op_mod (pe_callTy call_intI (by rfl) T.b_int (by decide +kernel) (pa_cons (pe_ix ix_v (pv 0) pe_int (fun _ _ => rfl)) pa_nil)) pe_int) (fun _ _ => rfl)))
        (pss_cons (ps_set (i := 4) sc__law_draw.nd rfl (Or.inl rfl) (pe_op op_mod (pe_callTy call_intI (by rfl) T.b_int (by decide +kernel) (pa_cons (pe_op op_pow (pe_op op_add (pe_op op_add (pe_ix ix_v (pv 0) pe_int (fun _ _ => rfl)) (pe_op op_mul (pe_op op_mul pe_int (pe_ix ix_v (pv 0) pe_int (fun _ _ => rfl))) (pe_ix ix_v (pv 0) pe_int (fun _ _ => rfl)))) pe_int) pe_int) pa_nil)) (pv 3)))
        (pss_cons (ps_set (i := 4) sc__law_draw.nd rfl (Or.inl rfl) (pe_op op_mod (pe_callTy call_intI (by rfl) T.b_int (by decide +kernel) (pa_cons (pe_op op_mul (pv 4) (pe_op op_add (pe_op op_mod (pe_callTy call_intI (by rfl) T.b_int (by decide +kernel) (pa_cons (pv 4) pa_nil)) pe_int) (pe_op op_mul pe_int (pe_ix ix_v (pv 0) pe_int (fun _ _ => rfl))))) pa_nil)) pe_int))
        (pss_one (ps_ret (pe_op op_mod (pe_callTy call_intI (by rfl) T.b_int (by decide +kernel) (pa_cons (pe_op op_fdivW (pv 4) pe_int) pa_nil)) (pv 1))))))))), ?_⟩
    walk_at "rd"
    simp only [e, Option.some.injEq, HO.lst.injEq, exists_eq_left']
    walk_at "rd"
    refine ite2 (fun g => ?_) (fun g => ?_)
    · refine ⟨hn, wide_div hn hn2 (by decide) (by decide), q _ _ Kp.put ⟨_, _, _, upd_same, Int.ediv_nonneg h1 (by omega), ?_, h3, h4, h5, by omega⟩ (Int.emod_nonneg _ (by omega)) (Int.emod_lt_of_pos _ hn)⟩
      have le : a / many ≤ a := Int.ediv_le_self _ h1
      have ge := Int.ediv_nonneg h1 (show 0 ≤ many by omega)
      exact wide_le ge le h2
    · refine ⟨by decide, fun r nr => ?_⟩
      have npr : p ≠ r := fun z => by
        rw [z, upd_same] at nr
        cases nr
      have e2 : ∀ o, upd (upd H p (HO.lst [V.int a, V.int b, V.int (c + 1)])) r o p = some (.lst [V.int a, V.int b, V.int (c + 1)]) := fun o => by rw [upd_ne npr, upd_same]
      simp only [e2, Option.some.injEq, HO.lst.injEq, exists_eq_left']
      walk_at "rd"
      obtain ⟨d, d0, d1, ed⟩ := five (Int.emod_nonneg (c + 1) (by decide : (5 : Int) ≠ 0)) (Int.emod_lt_of_pos (c + 1) (by decide))
      simp only [ed, Option.some.injEq, exists_eq_left', e2, HO.lst.injEq]
      walk_at "rd"
      have t0 : 0 ≤ c + 1 := by omega
      have t1 : c + 1 ≤ 1000000 := by omega
      have t2 : (c + 1) * (c + 1) ≤ 1000000 * 1000000 := Int.mul_le_mul t1 t1 t0 (by decide)
      have t3 : 0 ≤ (c + 1) * (c + 1) := Int.mul_nonneg t0 t0
      have t4 : 99991 * (c + 1) * (c + 1) = 99991 * ((c + 1) * (c + 1)) := Int.mul_assoc _ _ _
      have m0 := Int.emod_nonneg ((b + 99991 * (c + 1) * (c + 1) + 61) ^ Int.toNat 3) (show d ≠ 0 by omega)
      have m1 := Int.emod_lt_of_pos ((b + 99991 * (c + 1) * (c + 1) + 61) ^ Int.toNat 3) d0
      refine ⟨by decide, Or.inl (by decide), Or.inr (by omega), ⟨by decide, by decide, by omega⟩, d0, by decide, Or.inl (by decide), Or.inl (by omega), by decide, ⟨by decide, by decide⟩, hn,
        q _ _ (Kp.trans Kp.put (Kp.new nr)) ⟨_, _, _, e2 _, h1, h2, h3, h4, t0, by omega⟩ (Int.emod_nonneg _ (by omega)) (Int.emod_lt_of_pos _ hn)⟩
def sp_any : Sp := fun vs H Q _ => ∃ (p l : Addr) (xs : List V) (m : Nat), vs = [.ref p, .ref l] ∧ Pot H p m ∧ m < 1000000 ∧ l ≠ p ∧ H l = some (.lst xs) ∧ xs ≠ [] ∧ xs.length < 2 ^ 20 ∧
  ∀ (H' : Hp) (x : V), Kp p H H' → Pot H' p (m + 1) → x ∈ xs → Q x H'
theorem ok_any {f : Addr} {fd : FuncData} (F : Fun K "_law_any" "_law_any" s__law_any f fd) (T : Txt mg) (C__law_draw : Cal P w K mg base 1 "_law_draw" sp_draw) : FnG P w K mg base 2 f fd ["_law_pot_here", "_law_items"] sp_any := by
  refine okG F sc__law_any (fun vs H Q E h => ?_) (fun cdv A outer s H vs Q E hg hr h => ?_)
  · obtain ⟨p, l, xs, m, rfl, _⟩ := h
    rfl
  · obtain ⟨p, l, xs, m, rfl, hp, hm, nlp, e, ne, hz, q⟩ := h
    replace hr := And.intro hg hr
    refine ⟨_, (pss_one (ps_ret (pe_ix ix_v (pv 1) (pe_c C__law_draw hr (by decide) (by rfl) (pa_cons (pv 0) (pa_cons (pe_callB call_lenL (by rfl) T.b_len (by decide +kernel) (pa_cons (pv 1) pa_nil)) pa_nil))) (fun _ _ => rfl)))), ?_⟩
    walk_at "rd"
    simp only [e, Option.some.injEq, HO.lst.injEq, exists_eq_left']
    have pos : 0 < xs.length := List.length_pos_iff.mpr ne
    refine ⟨p, _, m, rfl, hp, hm, by omega, Nat.lt_of_lt_of_le (show ((xs.length : Nat) : Int).natAbs < 2 ^ 20 by simpa using hz) (by decide), fun H1 r k1 p1 r0 r1 => ?_⟩
    have e1 := k1 _ _ nlp e
    obtain ⟨x, hx, mx⟩ := atI_some r0 r1
    exact ⟨_, r, rfl, e1, x, hx, q _ _ k1 p1 mx⟩
end
end Pf

set_option Elab.async false
set_option linter.all false
set_option maxRecDepth 100000
/-! Which values are range sets, by the program's own look. -/
namespace Pf
open PySem PySem.Spec PyProof.Rows L2
local macro_rules | `(tactic| walk_at "rd") => `(tactic| simp only [tC1, tCK, tB, rNe, rEq, tChain, gTupV, gCons, gNil, Nat.sub_self, Nat.reduceSub, List.replicate_zero, List.replicate_succ, tTest, tIfS, tIf, tNot, tAnd, tOr, tAndV, tOrV, tNotV, tDrop, tNext, rIxV, rIxP,
  gSub, rSetL, tSl, tPart, tNoPart, rSl1, tDNewK, tBM, rAppend, wipe, rAllB, rAnyB, iTup, iList, RZ.iZipA, iRng1, iRng2, tYes, upd_same, at0, at1, at2, at20, at21, ixN30, ixN32, HO.lst.injEq, HO.tup.injEq, Nat.reduceAdd, tSeq, tAsg, tPar, tAug, tOp, tVar, tC, tCB, tCons, tNil, rI, rI0, rU, tUn, gName, tRet, tLst, tLstM, tTup, L2.start, List.map_cons, List.map_nil, List.length_cons, List.length_nil, List.replicate, List.cons_append,
  List.nil_append, List.set_cons_zero, List.set_cons_succ, List.getElem?_cons_zero, List.getElem?_cons_succ, Option.some.injEq, V.int.injEq, V.ref.injEq, V.bl.injEq, V.str.injEq, List.cons.injEq, exists_eq_left', exists_eq_left, exists_and_left, exists_and_right, and_true, true_and, reduceCtorEq, false_and,
  exists_false, or_false, false_or, exists_const, exists_eq, exists_eq', Bool.not_true, Bool.not_false, Bool.false_eq_true, if_true, if_false, ite_true, ite_false])
/-! ### the mirror -/
def isIntD : PyData → Bool
  | .int _ => true
  | .bool _ => true
  | _ => false
def isBoolD : PyData → Bool
  | .bool _ => true
  | _ => false
def isTupD : PyData → Bool
  | .tuple _ => true
  | _ => false
def isNumD : PyData → Bool
  | .int _ => true
  | _ => false
def pairOf : PyData → Option (Int × Int)
  | .tuple [.int a, .int b] => some (a, b)
  | _ => none
def isPairD (d : PyData) : Bool :=
  match pairOf d with
  | some q => decide (q.1 ≤ q.2)
  | none => false
def stepD (d e : PyData) : Bool :=
  match pairOf d, pairOf e with
  | some q, some r => decide (q.2 + 2 ≤ r.1)
  | _, _ => false
def stepsD : List PyData → List Bool
  | d :: e :: r => stepD d e :: stepsD (e :: r)
  | _ => []
def isRangesD : PyData → Bool
  | .tuple ds => ds.all isPairD && (stepsD ds).all id
  | _ => false
theorem pairOf_len {ds : List PyData} (h : ds.length ≠ 2) : pairOf (.tuple ds) = none := by
  unfold pairOf
  split
  · rename_i e
    cases e
    exact absurd rfl h
  · rfl
theorem _root_.L2.Same.seqT {K : PySem.W.Frag} {H H' : Hp} {a : Addr} {xs : List V} (e : Same H H') (h : SqT K H a xs) : SqT K H' a xs := by
  rcases h with (h | ⟨o, h⟩) | h
  · exact .inl (.inl (e _ _ h))
  · exact .inl (.inr ⟨o, e _ _ h⟩)
  · exact .inr h
theorem DqAll.length {b : Bool} {p : Addr} {H : Hp} : ∀ {vs : List V} {ds : List PyData}, DqAll b p H vs ds → vs.length = ds.length
  | _, _, .nil => rfl
  | _, _, .cons _ t => congrArg Nat.succ (DqAll.length t)
theorem DqAll.get {b : Bool} {p : Addr} {H : Hp} : ∀ {vs : List V} {ds : List PyData} {i : Nat} {v : V}, DqAll b p H vs ds → vs[i]? = some v → ∃ d, ds[i]? = some d ∧ Dq b p H v d
  | _, _, _, _, .nil, e => by simp at e
  | _, _, 0, _, .cons h _, e => by
    simp at e
    subst e
    exact ⟨_, rfl, h⟩
  | _, _, i + 1, _, .cons _ t, e => by
    obtain ⟨d, e1, e2⟩ := DqAll.get (i := i) t (by simpa using e)
    exact ⟨d, by simpa using e1, e2⟩
mutual
theorem Dq.keep {b : Bool} {p : Addr} {H H' : Hp} (k : Kp p H H') : ∀ (d : PyData) (v : V), Dq b p H v d → Dq b p H' v d
  | .none, _, h => by cases h; exact .non
  | .bool x, _, h => by cases h; exact .bl x
  | .int x, _, h => by cases h; exact .int x
  | .str x, _, h => by cases h; exact .str x
  | .list ds, _, h => by
    cases h with
    | lst g ne sm ha => exact .lst (k _ _ ne g) ne sm (Dq.keepAll k ds _ ha)
  | .tuple ds, _, h => by
    cases h with
    | tup g ne ha => exact .tup (k _ _ ne g) ne (Dq.keepAll k ds _ ha)
  | .dict kvs, _, h => by
    cases h with
    | dc0 t g ne => exact .dc0 t (k _ _ ne g) ne
    | @dc1 a x v d t g ne hd => exact .dc1 t (k _ _ ne g) ne (Dq.keep k d v hd)
theorem Dq.keepAll {b : Bool} {p : Addr} {H H' : Hp} (k : Kp p H H') : ∀ (ds : List PyData) (vs : List V), DqAll b p H vs ds → DqAll b p H' vs ds
  | [], _, h => by cases h; exact .nil
  | d :: ds, _, h => by
    cases h with
    | cons h1 h2 => exact .cons (Dq.keep k d _ h1) (Dq.keepAll k ds _ h2)
end
theorem Dq.same {b : Bool} {p : Addr} {H H' : Hp} {d : PyData} {v : V} (h : Dq b p H v d) (s : Same H H') : Dq b p H' v d := Dq.keep (Kp.of s) d v h
theorem DqAll.same {b : Bool} {p : Addr} {H H' : Hp} {ds : List PyData} {vs : List V} (h : DqAll b p H vs ds) (s : Same H H') : DqAll b p H' vs ds := Dq.keepAll (Kp.of s) ds vs h
theorem stepsD_len : ∀ ds : List PyData, (stepsD ds).length = ds.length - 1
  | [] => rfl
  | [_] => rfl
  | d :: e :: r => by
    have ih := stepsD_len (e :: r)
    unfold stepsD
    rw [List.length_cons, ih]
    simp
theorem stepsD_get : ∀ {ds : List PyData} {i : Nat} {d e : PyData}, ds[i]? = some d → ds[i + 1]? = some e → (stepsD ds)[i]? = some (stepD d e)
  | [], _, _, _, h, _ => by simp at h
  | [_], 0, _, _, _, h => by simp at h
  | [_], i + 1, _, _, h, _ => by simp at h
  | a :: b :: r, 0, d, e, h, h2 => by
    simp at h h2
    subst h h2
    rfl
  | a :: b :: r, i + 1, d, e, h, h2 => by
    unfold stepsD
    simpa using stepsD_get (ds := b :: r) (i := i) (by simpa using h) (by simpa using h2)
theorem pair_of {ds : List PyData} {i : Nat} {d : PyData} (al : ds.all isPairD = true) (h : ds[i]? = some d) : ∃ l r, pairOf d = some (l, r) := by
  have q := List.all_eq_true.mp al d (List.mem_of_getElem? h)
  unfold isPairD at q
  split at q
  · rename_i z e
    exact ⟨z.1, z.2, e⟩
  · cases q
theorem Dq.pair {b : Bool} {p : Addr} {H : Hp} {v : V} {d : PyData} {l r : Int} (h : Dq b p H v d) (e : pairOf d = some (l, r)) : ∃ t, v = .ref t ∧ H t = some (.tup [.int l, .int r]) := by
  unfold pairOf at e
  split at e
  · cases e
    cases h with
    | tup g ne ha =>
      cases ha with
      | cons h1 t1 =>
        cases t1 with
        | cons h2 t2 =>
          cases h1
          cases h2
          cases t2
          exact ⟨_, rfl, g⟩
  · cases e
def loD (d : PyData) : Int :=
  match pairOf d with
  | some q => q.1
  | none => 0
def hiD (d : PyData) : Int :=
  match pairOf d with
  | some q => q.2
  | none => 0
def inOne (n : Int) (d : PyData) : Bool :=
  match pairOf d with
  | some q => decide (q.1 ≤ n) && decide (n ≤ q.2)
  | none => false
def inD (ds : List PyData) (n : Int) : Bool := ds.any (inOne n)
theorem pair_lohi {d : PyData} {l h : Int} (e : pairOf d = some (l, h)) : loD d = l ∧ hiD d = h ∧ ∀ n, inOne n d = (decide (l ≤ n) && decide (n ≤ h)) := by
  unfold loD hiD inOne
  rw [e]
  exact ⟨rfl, rfl, fun _ => rfl⟩
structure Rgs (ds : List PyData) : Prop where
  pr : ∀ i, i < ds.length → pairOf (ds.getD i .none) = some (loD (ds.getD i .none), hiD (ds.getD i .none))
  le : ∀ i, i < ds.length → loD (ds.getD i .none) ≤ hiD (ds.getD i .none)
  st : ∀ i, i + 1 < ds.length → hiD (ds.getD i .none) + 2 ≤ loD (ds.getD (i + 1) .none)
theorem getD_at {ds : List PyData} {i : Nat} (h : i < ds.length) : ds[i]? = some (ds.getD i .none) := by
  rw [List.getD_eq_getElem?_getD, List.getElem?_eq_getElem h]
  rfl
theorem rgs_of {ds : List PyData} (h : isRangesD (.tuple ds) = true) : Rgs ds := by
  have h' : (ds.all isPairD && (stepsD ds).all id) = true := h
  obtain ⟨h1, h2⟩ := Bool.and_eq_true_iff.mp h'
  have pr : ∀ i, i < ds.length → pairOf (ds.getD i .none) = some (loD (ds.getD i .none), hiD (ds.getD i .none)) := fun i hi => by
    obtain ⟨l, r, e⟩ := pair_of h1 (getD_at hi)
    obtain ⟨e1, e2, _⟩ := pair_lohi e
    rw [e1, e2]
    exact e
  refine ⟨pr, fun i hi => ?_, fun i hi => ?_⟩
  · have q := List.all_eq_true.mp h1 _ (List.mem_of_getElem? (getD_at hi))
    unfold isPairD at q
    rw [pr i hi] at q
    exact of_decide_eq_true q
  · have g := stepsD_get (getD_at (show i < ds.length by omega)) (getD_at hi)
    have q := List.all_eq_true.mp h2 _ (List.mem_of_getElem? g)
    unfold stepD at q
    rw [pr i (by omega), pr (i + 1) hi] at q
    exact of_decide_eq_true q
theorem Rgs.up {ds : List PyData} (r : Rgs ds) : ∀ (j i : Nat), i ≤ j → j < ds.length → loD (ds.getD i .none) ≤ loD (ds.getD j .none) ∧ hiD (ds.getD i .none) ≤ hiD (ds.getD j .none)
  | 0, i, h, _ => by
    have e : i = 0 := by omega
    rw [e]
    exact ⟨Int.le_refl _, Int.le_refl _⟩
  | j + 1, i, h, hj => by
    by_cases e : i = j + 1
    · rw [e]
      exact ⟨Int.le_refl _, Int.le_refl _⟩
    · have ih := r.up j i (by omega) (by omega)
      have s1 := r.st j hj
      have s2 := r.le j (by omega)
      have s3 := r.le (j + 1) hj
      omega
theorem Rgs.find {ds : List PyData} (r : Rgs ds) {n : Int} {f : Nat} (hf : f ≤ ds.length) (h1 : ∀ i, i < f → hiD (ds.getD i .none) < n) (h2 : ∀ i, f ≤ i → i < ds.length → n ≤ hiD (ds.getD i .none)) :
    inD ds n = (decide (f < ds.length) && decide (loD (ds.getD f .none) ≤ n)) := by
  have one : ∀ i, i < ds.length → inOne n (ds.getD i .none) = (decide (loD (ds.getD i .none) ≤ n) && decide (n ≤ hiD (ds.getD i .none))) := fun i hi => (pair_lohi (r.pr i hi)).2.2 n
  by_cases hl : f < ds.length ∧ loD (ds.getD f .none) ≤ n
  · rw [decide_eq_true hl.1, decide_eq_true hl.2]
    refine List.any_eq_true.mpr ⟨ds.getD f .none, List.mem_of_getElem? (getD_at hl.1), ?_⟩
    rw [one f hl.1, decide_eq_true hl.2, decide_eq_true (h2 f (Nat.le_refl _) hl.1)]
    rfl
  · have e : (decide (f < ds.length) && decide (loD (ds.getD f .none) ≤ n)) = false := by
      rw [← Bool.decide_and]
      exact decide_eq_false hl
    rw [e]
    refine List.any_eq_false.mpr fun d hd => ?_
    obtain ⟨i, hi, e⟩ := List.getElem_of_mem hd
    have ed : d = ds.getD i .none := by
      have := getD_at hi
      rw [List.getElem?_eq_getElem hi, e] at this
      exact Option.some.inj this
    rw [ed, one i hi]
    by_cases lt : i < f
    · rw [decide_eq_false (show ¬ n ≤ hiD (ds.getD i .none) by have := h1 i lt; omega), Bool.and_false]
      exact Bool.false_ne_true
    · have u := (r.up i f (by omega) hi).1
      have nl : ¬ loD (ds.getD i .none) ≤ n := fun z => hl ⟨by omega, by omega⟩
      rw [decide_eq_false nl, Bool.false_and]
      exact Bool.false_ne_true
def gap : L2.St → Nat
  | [_, _, some (.int x), some (.int y), _] => (y - x).toNat
  | _ => 0
/-! ### rules -/
theorem isiD {X : Cx} {b : Bool} {p : Addr} {H : Hp} {v : V} {d : PyData} (h : Dq b p H v d) {T : String} {r : Bool} (e : ∀ t, TyX X.K H v (.type t) → t ∈ ["NoneType", "bool", "int", "str", "list", "tuple", "dict"] → kitB t T = some r) : ∃ t, TyX X.K H v t ∧ PySem.W.kitOne X.K t (.type T) = some r := by
  cases h with
  | non => exact ⟨_, .base .non, kit_ty (e _ (.base .non) (by decide))⟩
  | bl x => exact ⟨_, .base (.bl x), kit_ty (e _ (.base (.bl x)) (by decide))⟩
  | int x => exact ⟨_, .base (.int x), kit_ty (e _ (.base (.int x)) (by decide))⟩
  | str x => exact ⟨_, .base (.str x), kit_ty (e _ (.base (.str x)) (by decide))⟩
  | lst g _ _ _ => exact ⟨_, .base (.lst g), kit_ty (e _ (.base (.lst g)) (by decide))⟩
  | tup g _ _ => exact ⟨_, .base (.tup g), kit_ty (e _ (.base (.tup g)) (by decide))⟩
  | dc0 _ g _ => exact ⟨_, .base (.dK g), kit_ty (e _ (.base (.dK g)) (by decide))⟩
  | dc1 _ g _ _ => exact ⟨_, .base (.dK g), kit_ty (e _ (.base (.dK g)) (by decide))⟩
theorem tyD {K : PySem.W.Frag} {b : Bool} {p : Addr} {H : Hp} {v : V} {d : PyData} (h : Dq b p H v d) : ∃ t, TyX K H v (.type t) ∧ kitB t "int" = some (isIntD d) ∧ kitB t "bool" = some (isBoolD d) ∧ kitB t "tuple" = some (isTupD d) := by
  cases h with
  | non => exact ⟨_, .base .non, by decide +kernel, by decide +kernel, by decide +kernel⟩
  | bl x => exact ⟨_, .base (.bl x), by show kitB "bool" "int" = some true; decide +kernel, by show kitB "bool" "bool" = some true; decide +kernel, by show kitB "bool" "tuple" = some false; decide +kernel⟩
  | int x => exact ⟨_, .base (.int x), by show kitB "int" "int" = some true; decide +kernel, by show kitB "int" "bool" = some false; decide +kernel, by show kitB "int" "tuple" = some false; decide +kernel⟩
  | str x => exact ⟨_, .base (.str x), by show kitB "str" "int" = some false; decide +kernel, by show kitB "str" "bool" = some false; decide +kernel, by show kitB "str" "tuple" = some false; decide +kernel⟩
  | lst g _ _ _ => exact ⟨_, .base (.lst g), by show kitB "list" "int" = some false; decide +kernel, by show kitB "list" "bool" = some false; decide +kernel, by show kitB "list" "tuple" = some false; decide +kernel⟩
  | tup g _ _ => exact ⟨_, .base (.tup g), by show kitB "tuple" "int" = some false; decide +kernel, by show kitB "tuple" "bool" = some false; decide +kernel, by show kitB "tuple" "tuple" = some true; decide +kernel⟩
  | dc0 _ g _ => exact ⟨_, .base (.dK g), by show kitB "dict" "int" = some false; decide +kernel, by show kitB "dict" "bool" = some false; decide +kernel, by show kitB "dict" "tuple" = some false; decide +kernel⟩
  | dc1 _ g _ _ => exact ⟨_, .base (.dK g), by show kitB "dict" "int" = some false; decide +kernel, by show kitB "dict" "bool" = some false; decide +kernel, by show kitB "dict" "tuple" = some false; decide +kernel⟩
section
variable {X : Cx}
theorem call_isiInt : CallR X (.builtin "isinstance") (fun xs H Q => ∃ v d b p, xs = [v, .ty "int"] ∧ Dq b p H v d ∧ Q (.bl (isIntD d)) H) := by
  intro pins s σ H xs us Q I r h
  obtain ⟨v, d, b, p, e, hd, q⟩ := h
  obtain ⟨t, ty, k1, k2, k3⟩ := tyD (K := X.K) hd
  exact call_isi pins s σ H xs us Q I r ⟨v, _, _, _, _, e, .ty _, ty, kit_ty k1, q⟩
theorem call_isiBool : CallR X (.builtin "isinstance") (fun xs H Q => ∃ v d b p, xs = [v, .ty "bool"] ∧ Dq b p H v d ∧ Q (.bl (isBoolD d)) H) := by
  intro pins s σ H xs us Q I r h
  obtain ⟨v, d, b, p, e, hd, q⟩ := h
  obtain ⟨t, ty, k1, k2, k3⟩ := tyD (K := X.K) hd
  exact call_isi pins s σ H xs us Q I r ⟨v, _, _, _, _, e, .ty _, ty, kit_ty k2, q⟩
theorem call_isiTup : CallR X (.builtin "isinstance") (fun xs H Q => ∃ v d b p, xs = [v, .ty "tuple"] ∧ Dq b p H v d ∧ Q (.bl (isTupD d)) H) := by
  intro pins s σ H xs us Q I r h
  obtain ⟨v, d, b, p, e, hd, q⟩ := h
  obtain ⟨t, ty, k1, k2, k3⟩ := tyD (K := X.K) hd
  exact call_isi pins s σ H xs us Q I r ⟨v, _, _, _, _, e, .ty _, ty, kit_ty k3, q⟩
end
abbrev s_is_number : Stmt := topS 1
theorem sc_is_number : FnScope ["value"] ["value"] (defScope s_is_number) := ⟨rfl, rfl, rfl, by decide +kernel, rfl, by decide +kernel, by decide +kernel⟩
abbrev s_is_ranges : Stmt := topS 3
theorem sc_is_ranges : FnScope ["value", "before", "after", "pair"] ["value"] (defScope s_is_ranges) := ⟨rfl, rfl, rfl, by decide +kernel, rfl, by decide +kernel, by decide +kernel⟩
abbrev s_holds : Stmt := topS 4
theorem sc_holds : FnScope ["ranges", "number", "first", "behind", "middle"] ["ranges", "number"] (defScope s_holds) := ⟨rfl, rfl, rfl, by decide +kernel, rfl, by decide +kernel, by decide +kernel⟩
abbrev s_is_pair : Stmt := topS 5
theorem sc_is_pair : FnScope ["value", "low", "high"] ["value"] (defScope s_is_pair) := ⟨rfl, rfl, rfl, by decide +kernel, rfl, by decide +kernel, by decide +kernel⟩
section
variable {base : Heap} {P : Program} {w : World} {mg : Str → Option Value} {K : PySem.W.Frag}
def sp_number : Sp := fun vs H Q _ => ∃ v d b p, vs = [v] ∧ Dq b p H v d ∧ Q (.bl (isNumD d)) H
theorem ok_number {f : Addr} {fd : FuncData} (F : Fun K "is_number" "is_number" s_is_number f fd) (T : Txt mg) : FnG P w K mg base 1 f fd ["value"] sp_number := by
  refine okG F sc_is_number (fun vs H Q E h => ?_) (fun cdv A outer s H vs Q E hg hr h => ?_)
  · obtain ⟨v, d, b, p, rfl, _⟩ := h
    rfl
  · obtain ⟨v, d, b, p, rfl, hd, q⟩ := h
    refine ⟨_, (pss_one (ps_ret (pe_and (pe_callB call_isiInt (by rfl) T.b_isinstance (by decide +kernel) (pa_cons (pv 0) (pa_cons (pe_bltn (v := .ty "int") (u := .type "int") (by rfl) T.b_int (by decide +kernel) rfl) pa_nil))) (pe_one (pe_not (pe_callB call_isiBool (by rfl) T.b_isinstance (by decide +kernel) (pa_cons (pv 0) (pa_cons (pe_bltn (v := .ty "bool") (u := .type "bool") (by rfl) T.b_bool (by decide +kernel) rfl) pa_nil)))))))), ?_⟩
    walk_at "rd"
    refine ⟨d, ⟨b, p, hd⟩, ?_⟩
    cases d with
    | int i => exact ⟨.int i, ⟨b, p, hd⟩, q⟩
    | bool i => exact ⟨.bool i, ⟨b, p, hd⟩, q⟩
    | none => exact q
    | str x => exact q
    | list x => exact q
    | tuple x => exact q
    | dict x => exact q
def sp_pair : Sp := fun vs H Q _ => ∃ v d b p, vs = [v] ∧ Dq b p H v d ∧ Q (.bl (isPairD d)) H
theorem ok_pair {f : Addr} {fd : FuncData} (F : Fun K "is_pair" "is_pair" s_is_pair f fd) (T : Txt mg) (C_is_number : Cal P w K mg base 1 "is_number" sp_number) : FnG P w K mg base 2 f fd ["value"] sp_pair := by
  refine okG F sc_is_pair (fun vs H Q E h => ?_) (fun cdv A outer s H vs Q E hg hr h => ?_)
  · obtain ⟨v, d, b, p, rfl, _⟩ := h
    rfl
  · obtain ⟨v, d, b, p, rfl, hd, q⟩ := h
    replace hr := And.intro hg hr
    refine ⟨_, (pss_cons (ps_if (PW.pt (pw_or (pt_not (pt_val (pe_callB call_isiTup (by rfl) T.b_isinstance (by decide +kernel) (pa_cons (pv 0) (pa_cons (pe_bltn (v := .ty "tuple") (u := .type "tuple") (by rfl) T.b_tuple (by decide +kernel) rfl) pa_nil))))) (pw_or1 (pt_cmpR op_ne (pe_callB call_lenT (by rfl) T.b_len (by decide +kernel) (pa_cons (pv 0) pa_nil)) pe_int (nomark _))))) (pss_one (ps_ret pe_bl)) pss_nil)
        (pss_cons (ps_asg (pv 0) (pg_tupV (n := 2) rfl (pgs_cons (pg_name (i := 1) sc_is_pair.nd rfl (Or.inl rfl)) (pgs_cons (pg_name (i := 2) sc_is_pair.nd rfl (Or.inl rfl)) pgs_nil))))
        (pss_one (ps_ret (pe_and (pe_c C_is_number hr (by decide) (by rfl) (pa_cons (pv 1) pa_nil)) (pe_and (pe_c C_is_number hr (by decide) (by rfl) (pa_cons (pv 2) pa_nil)) (pe_one (pe_cmpR op_le (pv 1) (pv 2) (nomark _))))))))), ?_⟩
    walk_at "rd"
    refine ⟨d, ⟨b, p, hd⟩, ?_⟩
    cases hd with
    | @tup a xs ds g ne ha =>
      show if (!true) = true then _ else _
      refine iteF ?_
      simp only [g, Option.some.injEq, HO.tup.injEq, exists_eq_left', V.ref.injEq]
      refine ⟨rfl, ?_⟩
      have none2 : ds.length ≠ 2 → isPairD (.tuple ds) = false := fun n => by
        unfold isPairD
        rw [pairOf_len n]
      rw [← ha.length] at none2
      by_cases n : xs.length = 2
      · rw [if_neg (by simp [n])]
        cases ha with
        | nil => cases n
        | cons h1 t1 =>
          cases t1 with
          | nil => cases n
          | cons h2 t2 =>
            cases t2 with
            | cons _ _ => simp at n
            | nil =>
              rename_i v d w e
              refine ⟨rfl, v, [w], rfl, w, [], rfl, rfl, v, d, b, p, rfl, h1, _, rfl, ?_⟩
              cases h1 with
              | int i =>
                refine iteT ⟨w, e, b, p, rfl, h2, _, rfl, ?_⟩
                cases h2 with
                | int j => exact iteT ⟨i, rfl, j, rfl, q⟩
                | non => exact iteF q
                | bl x => exact iteF q
                | str x => exact iteF q
                | lst g _ _ _ => exact iteF q
                | tup g _ _ => exact iteF q
                | dc0 _ g _ => exact iteF q
                | dc1 _ g _ _ => exact iteF q
              | non => exact iteF q
              | bl x => exact iteF q
              | str x => exact iteF q
              | lst g _ _ _ => exact iteF q
              | tup g _ _ => exact iteF q
              | dc0 _ g _ => exact iteF q
              | dc1 _ g _ _ => exact iteF q
      · rw [none2 n] at q
        rw [if_pos (by rw [decide_eq_false (fun z => n (by omega))]; rfl)]
        exact q
    | non => exact q
    | bl x => exact q
    | int x => exact q
    | str x => exact q
    | lst g _ _ _ => exact q
    | dc0 _ g _ => exact q
    | dc1 _ g _ _ => exact q
def sp_ranges : Sp := fun vs H Q _ => ∃ v d b p, vs = [v] ∧ Dq b p H v d ∧ (∀ ds, d = .tuple ds → ds.length ≤ 1000) ∧ ∀ H', Same H H' → Q (.bl (isRangesD d)) H'
theorem ok_ranges {f : Addr} {fd : FuncData} (F : Fun K "is_ranges" "is_ranges" s_is_ranges f fd) (T : Txt mg) (C_is_pair : Cal P w K mg base 2 "is_pair" sp_pair) : FnG P w K mg base 3 f fd ["value"] sp_ranges := by
  refine okG F sc_is_ranges (fun vs H Q E h => ?_) (fun cdv A outer s H vs Q E hg hr h => ?_)
  · obtain ⟨v, d, b, p, rfl, _⟩ := h
    rfl
  · obtain ⟨v, d, b, p, rfl, hd, hz, q⟩ := h
    replace hr := And.intro hg hr
    refine ⟨_, (pss_cons (ps_if (PW.pt (pw_or (pt_not (pt_val (pe_callB call_isiTup (by rfl) T.b_isinstance (by decide +kernel) (pa_cons (pv 0) (pa_cons (pe_bltn (v := .ty "tuple") (u := .type "tuple") (by rfl) T.b_tuple (by decide +kernel) rfl) pa_nil))))) (pw_or1 (pt_not (pt_val (pe_callB (call_allB rfl) (by rfl) T.b_all (by decide +kernel) (pa_cons (pe_lc (own := [("pair", 3)]) (g := gName 3) (tt := tYes) rfl sc_is_ranges.nd (pi_tup (pv 0)) (blkOk_by (own := [("pair", 3)]) (N := ["value", "before", "after", "pair"]) (sc := defScope s_is_ranges) (by decide +kernel)) (fun _ _ _ _ _ => (pg_name (i := 3) sc_is_ranges.nd rfl (Or.inl rfl))) (fun _ _ _ _ _ => pts_nil) (fun _ _ _ _ _ => (pe_c C_is_pair hr (by decide) (by rfl) (pa_cons (pv 3) pa_nil)))) pa_nil))))))) (pss_one (ps_ret pe_bl)) pss_nil)
        (pss_one (ps_ret (pe_callB (call_allB rfl) (by rfl) T.b_all (by decide +kernel) (pa_cons (pe_lc (own := [("before", 1), ("after", 2)]) (g := gTupV 2 (gCons (gName 1) (gCons (gName 2) gNil))) (tt := tYes) rfl sc_is_ranges.nd (RZ.pi_zipA (by rfl) T.b_zip (pa_cons (pv 0) (pa_cons (pe_slice sl_one (pv 0) (po_some pe_int) po_none) pa_nil))) (blkOk_by (own := [("before", 1), ("after", 2)]) (N := ["value", "before", "after", "pair"]) (sc := defScope s_is_ranges) (by decide +kernel)) (fun _ _ _ _ _ => (pg_tupV (n := 2) rfl (pgs_cons (pg_name (i := 1) sc_is_ranges.nd rfl (Or.inl rfl)) (pgs_cons (pg_name (i := 2) sc_is_ranges.nd rfl (Or.inl rfl)) pgs_nil)))) (fun _ _ _ _ _ => pts_nil) (fun _ _ _ _ _ => (pe_cmpR op_le (pe_op op_add (pe_ix ix_t (pv 1) pe_int (fun _ _ => rfl)) pe_int) (pe_ix ix_t (pv 2) pe_int (fun _ _ => rfl)) (nomark _)))) pa_nil))))), ?_⟩
    walk_at "rd"
    refine ⟨d, ⟨b, p, hd⟩, ?_⟩
    cases hd with
    | @tup a xs ds g ne ha =>
      refine iteF ?_
      have len := ha.length
      have small := hz ds rfl
      have big : (1000 : Nat) ≤ sizeLine := by decide
      refine ⟨.ref a, rfl, a, rfl, ⟨xs, SqT.of g⟩, lcMap (walk_tup (xs := xs)) ((ds.map isPairD).map V.bl) (by simp [len]) (by omega) (fun H1 s1 => s1.seqT (SqT.of g)) (fun i x H1 H2 y R ho s1 hy kk => ?_) (fun H1 D hD s1 hL => ?_)⟩
      · obtain ⟨rfl, hx⟩ := hy
        obtain ⟨e, he, hq⟩ := ha.get hx
        have ey : y = .bl (isPairD e) := by
          rw [List.getElem?_map, List.getElem?_map, he] at ho
          exact (Option.some.inj ho).symm
        subst ey
        refine ⟨rfl, ?_⟩
        walk_at "rd"
        exact ⟨x, e, b, p, rfl, hq.same s1, kk _ (Same.refl _)⟩
      · refine ⟨D, rfl, ds.map isPairD, hL, ?_⟩
        have ea : (ds.map isPairD).all id = ds.all isPairD := by rw [List.all_map]; rfl
        rw [ea]
        have ha1 := ha.same s1
        cases al : ds.all isPairD with
        | false =>
          have er : isRangesD (.tuple ds) = false := by show (ds.all isPairD && (stepsD ds).all id) = _; rw [al]; rfl
          rw [er] at q
          exact iteT (q _ s1)
        | true =>
          have er : isRangesD (.tuple ds) = (stepsD ds).all id := by show (ds.all isPairD && (stepsD ds).all id) = _; rw [al]; rfl
          rw [er] at q
          refine iteF ?_
          refine ⟨.ref a, rfl, .ref a, rfl, 1, rfl, a, xs, rfl, rfl, rfl, s1 _ _ g, fun H2 c s2 hc => ?_⟩
          refine ⟨a, c, xs, xs.drop 1, rfl, .inr ⟨SqT.of (s2 _ _ (s1 _ _ g)), SqT.of hc, lcMap (walk_zipT rfl) ((stepsD ds).map V.bl) (by rw [List.length_map, stepsD_len, List.length_drop, len]; omega) (by rw [List.length_drop]; omega)
            (fun H3 s3 => ⟨s3.seqT (SqT.of (s2 _ _ (s1 _ _ g))), s3.seqT (SqT.of hc)⟩) (fun i x H3 H4 y R ho s3 hy kk => ?_) (fun H3 D2 hD2 s3 hL2 => ?_)⟩⟩
          · obtain ⟨T2, x1, x2, rfl, nT, rfl, g1, g2⟩ := hy
            have g2' : xs[i + 1]? = some x2 := by
              replace g2 : (xs.drop 1)[i]? = some x2 := g2
              rw [List.getElem?_drop, Nat.add_comm] at g2
              exact g2
            obtain ⟨d1, e1, q1⟩ := ha1.get g1
            obtain ⟨d2, e2, q2⟩ := ha1.get g2'
            obtain ⟨l1, h1, p1⟩ := pair_of al e1
            obtain ⟨l2, h2, p2⟩ := pair_of al e2
            have s23 : Same H1 (upd H3 T2 (.tup [x1, x2])) := (s2.trans s3).trans (new_same nT)
            obtain ⟨t1, rfl, u1⟩ := (q1.same s23).pair p1
            obtain ⟨t2, rfl, u2⟩ := (q2.same s23).pair p2
            have ey : y = .bl (decide (h1 + 2 ≤ l2)) := by
              rw [List.getElem?_map, stepsD_get e1 e2] at ho
              have := (Option.some.inj ho).symm
              rw [this]
              unfold stepD
              rw [p1, p2]
            subst ey
            refine ⟨T2, _, rfl, upd_same, rfl, _, _, rfl, _, _, rfl, rfl, rfl, ?_⟩
            walk_at "rd"
            simp only [u1, u2, Option.some.injEq, HO.tup.injEq, exists_eq_left']
            walk_at "rd"
            exact kk _ (new_same nT)
          · exact ⟨D2, rfl, stepsD ds, hL2, q _ ((s1.trans s2).trans s3)⟩
    | non => exact iteT (q _ (Same.refl _))
    | bl x => exact iteT (q _ (Same.refl _))
    | int x => exact iteT (q _ (Same.refl _))
    | str x => exact iteT (q _ (Same.refl _))
    | lst g _ _ _ => exact iteT (q _ (Same.refl _))
    | dc0 _ g _ => exact iteT (q _ (Same.refl _))
    | dc1 _ g _ _ => exact iteT (q _ (Same.refl _))
def sp_holds : Sp := fun vs H Q _ => ∃ (a : Addr) (ds : List PyData) (b : Bool) (p : Addr) (n : Int), vs = [.ref a, .int n] ∧ Dq b p H (.ref a) (.tuple ds) ∧ isRangesD (.tuple ds) = true ∧ ds.length ≤ 1000 ∧ Q (.bl (inD ds n)) H
theorem ok_holds {f : Addr} {fd : FuncData} (F : Fun K "holds" "holds" s_holds f fd) (T : Txt mg) : FnG P w K mg base 1 f fd ["ranges", "number"] sp_holds := by
  refine okG F sc_holds (fun vs H Q E h => ?_) (fun cdv A outer s H vs Q E hg hr h => ?_)
  · obtain ⟨a, ds, b, p, n, rfl, _⟩ := h
    rfl
  · obtain ⟨a, ds, b, p, n, rfl, hd, hR, hz, q⟩ := h
    have R := rgs_of hR
    refine ⟨_, (pss_cons (ps_par (i := 2) (j := 3) (by rfl) sc_holds.nd rfl rfl (by decide) rfl rfl (pa_cons pe_int (pa_cons (pe_callB call_lenT (by rfl) T.b_len (by decide +kernel) (pa_cons (pv 0) pa_nil)) pa_nil)) (by rfl))
        (pss_cons (ps_while PassesOwn.never (pt_cmpR op_lt (pv 2) (pv 3) (nomark _)) (pss_cons (ps_set (i := 4) sc_holds.nd rfl (Or.inl rfl) (pe_op op_fdivW (pe_op op_add (pv 2) (pv 3)) pe_int))
        (pss_one (ps_if (pt_cmpR op_lt (pe_ix ix_t (pe_ix ix_t (pv 0) (pv 4) (fun _ _ => rfl)) pe_int (fun _ _ => rfl)) (pv 1) (nomark _)) (pss_one (ps_set (i := 2) sc_holds.nd rfl (Or.inl rfl) (pe_op op_add (pv 4) pe_int))) (pss_one (ps_set (i := 3) sc_holds.nd rfl (Or.inl rfl) (pv 4)))))))
        (pss_one (ps_ret (pe_and (pe_cmpR op_lt (pv 2) (pe_callB call_lenT (by rfl) T.b_len (by decide +kernel) (pa_cons (pv 0) pa_nil)) (nomark _)) (pe_one (pe_cmpR op_le (pe_ix ix_t (pe_ix ix_t (pv 0) (pv 2) (fun _ _ => rfl)) pe_int (fun _ _ => rfl)) (pv 1) (nomark _)))))))), ?_⟩
    cases hd with
    | @tup a xs ds g ne ha =>
    have len := ha.length
    have item : ∀ i : Nat, i < ds.length → ∃ t, atI xs (i : Int) = some (.ref t) ∧ H t = some (.tup [.int (loD (ds.getD i .none)), .int (hiD (ds.getD i .none))]) := fun i hi => by
      have hx : xs[i]? = some xs[i] := List.getElem?_eq_getElem (by omega)
      obtain ⟨d, e1, e2⟩ := ha.get hx
      rw [getD_at hi] at e1
      cases e1
      obtain ⟨t, e3, e4⟩ := e2.pair (R.pr i hi)
      exact ⟨t, atI_nat (by rw [hx, e3]), e4⟩
    walk_at "rd"
    simp only [g, Option.some.injEq, HO.tup.injEq, exists_eq_left']
    refine ⟨_, _, ⟨rfl, rfl⟩, while_by (fun σ H' => H' = H ∧ ∃ (x y : Nat) (m : Option V), σ = [some (.ref a), some (.int n), some (.int x), some (.int y), m] ∧ x ≤ y ∧ y ≤ ds.length ∧ (∀ i, i < x → hiD (ds.getD i .none) < n) ∧ (∀ i, y ≤ i → i < ds.length → n ≤ hiD (ds.getD i .none)))
      (fun σ _ => gap σ) ⟨rfl, 0, ds.length, none, by rw [len]; rfl, Nat.zero_le _, Nat.le_refl _, fun i hi => absurd hi (Nat.not_lt_zero _), fun i h1 h2 => absurd h2 (by omega)⟩ ?_
      (fun σ H Q Q' hq ⟨v, e1, w, e2, i, j, e3, e4, k, e5, r⟩ => ⟨v, e1, w, e2, i, j, e3, e4, k, e5, hq _ _ r⟩)⟩
    rintro σ H' ⟨rfl, x, y, m, rfl, hxy, hy, b1, b2⟩
    walk_at "rd"
    by_cases lt : x < y
    · have lt' : decide ((x : Int) < (y : Int)) = true := decide_eq_true (by omega)
      rw [if_pos lt']
      have em : ((x : Int) + (y : Int)) / 2 = (((x + y) / 2 : Nat) : Int) := by omega
      rw [em]
      have hm1 : (x + y) / 2 < ds.length := by omega
      obtain ⟨t, it, et⟩ := item _ hm1
      refine ⟨⟨by decide, by decide⟩, xs, g, _, it, _, rfl, _, et, _, rfl, _, rfl, ?_⟩
      by_cases c : hiD (ds.getD ((x + y) / 2) .none) < n
      · rw [if_pos (decide_eq_true c)]
        refine ⟨⟨(x + y) / 2 + 1, y, ⟨rfl, rfl⟩, by omega, hy, fun i hi => ?_, b2⟩, ?_⟩
        · have := (R.up ((x + y) / 2) i (by omega) hm1).2
          omega
        · show (((y : Int) - (((x + y) / 2 : Nat) + 1 : Int)).toNat) < ((y : Int) - (x : Int)).toNat
          omega
      · rw [if_neg (fun z => c (of_decide_eq_true z))]
        refine ⟨⟨x, (x + y) / 2, ⟨rfl, rfl⟩, by omega, by omega, b1, fun i h1 h2 => ?_⟩, ?_⟩
        · have := (R.up i ((x + y) / 2) h1 h2).2
          omega
        · show ((((x + y) / 2 : Nat) : Int) - (x : Int)).toNat < ((y : Int) - (x : Int)).toNat
          omega
    · have lt' : ¬ decide ((x : Int) < (y : Int)) = true := fun z => lt (by have := of_decide_eq_true z; omega)
      rw [if_neg lt']
      have exy : x = y := by omega
      subst exy
      have fd := R.find (n := n) hy b1 b2
      rw [fd] at q
      simp only [g, Option.some.injEq, HO.tup.injEq, exists_eq_left']
      by_cases c : x < ds.length
      · rw [decide_eq_true c, Bool.true_and] at q
        obtain ⟨t, it, et⟩ := item _ c
        rw [if_pos (decide_eq_true (by omega))]
        refine ⟨_, it, _, rfl, _, et, _, rfl, _, rfl, q⟩
      · rw [decide_eq_false c, Bool.false_and] at q
        rw [if_neg (fun z => c (by have := of_decide_eq_true z; omega))]
        exact q
end
end Pf

set_option Elab.async false
set_option linter.all false
set_option maxRecDepth 100000
/-! Drawn pairs. -/
namespace Pf
open PySem PySem.Spec PyProof.Rows L2
local macro_rules | `(tactic| walk_at "rd") => `(tactic| simp only [tC1, tCK, tB, rNe, rEq, tChain, gTupV, gCons, gNil, Nat.sub_self, Nat.reduceSub, List.replicate_zero, List.replicate_succ, tTest, tIfS, tIf, tNot, tAnd, tOr, tAndV, tOrV, tNotV, tDrop, tNext, rIxV, rIxP,
  gSub, rSetL, tSl, tPart, tNoPart, rSl1, tDNewK, tBM, rAppend, wipe, rAllB, rAnyB, iTup, iList, RZ.iZipA, iRng1, iRng2, tYes, upd_same, at0, at1, at2, at20, at21, ixN30, ixN32, HO.lst.injEq, HO.tup.injEq, Nat.reduceAdd, tSeq, tAsg, tPar, tAug, tOp, tVar, tC, tCB, tCons, tNil, rI, rI0, rU, tUn, gName, tRet, tLst, tLstM, tTup, L2.start, List.map_cons, List.map_nil, List.length_cons, List.length_nil, List.replicate, List.cons_append,
  List.nil_append, List.set_cons_zero, List.set_cons_succ, List.getElem?_cons_zero, List.getElem?_cons_succ, Option.some.injEq, V.int.injEq, V.ref.injEq, V.bl.injEq, V.str.injEq, List.cons.injEq, exists_eq_left', exists_eq_left, exists_and_left, exists_and_right, and_true, true_and, reduceCtorEq, false_and,
  exists_false, or_false, false_or, exists_const, exists_eq, exists_eq', Bool.not_true, Bool.not_false, Bool.false_eq_true, if_true, if_false, ite_true, ite_false])
/-! ### pairs as tuples of two numbers -/
def prD (q : Int × Int) : PyData := .tuple [.int q.1, .int q.2]
theorem pairOf_pr (q : Int × Int) : pairOf (prD q) = some q := rfl
/-- v is a tuple of the two numbers q -/
def PrAt (H : Hp) (v : V) (q : Int × Int) : Prop := ∃ t, v = .ref t ∧ H t = some (.tup [.int q.1, .int q.2])
abbrev PrAll (H : Hp) : List V → List (Int × Int) → Prop := Paired (PrAt H)
/-- tuples stay -/
def TK (H H' : Hp) : Prop := ∀ b xs, H b = some (.tup xs) → H' b = some (.tup xs)
theorem TK.refl (H : Hp) : TK H H := fun _ _ h => h
theorem TK.trans {H H1 H2 : Hp} (a : TK H H1) (b : TK H1 H2) : TK H H2 := fun c xs h => b c xs (a c xs h)
theorem TK.of {H H' : Hp} (s : Same H H') : TK H H' := fun b xs h => s b _ h
theorem TK.kp {p : Addr} {H H' : Hp} (k : Kp p H H') {ys : List V} (e : H p = some (.lst ys)) : TK H H' := fun b xs h => k b _ (fun z => by rw [z, e] at h; cases h) h
theorem TK.put {l : Addr} {H : Hp} {ys : List V} {o : HO} (e : H l = some (.lst ys)) : TK H (upd H l o) := fun b xs h => by
  rw [upd_ne (fun z => by rw [z, e] at h; cases h)]
  exact h
theorem PrAll.tk {H H' : Hp} {xs : List V} {ps : List (Int × Int)} (h : PrAll H xs ps) (k : TK H H') : PrAll H' xs ps := Paired.mono (fun v q ⟨t, e1, e2⟩ => ⟨t, e1, k _ _ e2⟩) h
theorem PrAll.len {H : Hp} {xs : List V} {ps : List (Int × Int)} (h : PrAll H xs ps) : xs.length = ps.length := Paired.length h
theorem PrAll.snoc {H : Hp} {xs : List V} {ps : List (Int × Int)} {v : V} {q : Int × Int} (h : PrAll H xs ps) (k : PrAt H v q) : PrAll H (xs ++ [v]) (ps ++ [q]) := Paired.snoc h k
theorem PrAll.dq {b : Bool} {p : Addr} {H : Hp} {ys : List V} (e : H p = some (.lst ys)) : ∀ {xs : List V} {ps : List (Int × Int)}, PrAll H xs ps → DqAll b p H xs (ps.map prD)
  | _, _, .nil => .nil
  | _, _, .cons ⟨t, e1, e2⟩ r => by
    subst e1
    exact .cons (.tup e2 (fun z => by rw [z, e] at e2; cases e2) (.cons (.int _) (.cons (.int _) .nil))) (PrAll.dq e r)
theorem Kp.putNew {p l : Addr} {H H' : Hp} {o : HO} (k : Kp p H H') (hl : H l = none) : Kp p H (upd H' l o) := fun b u n e => by
  rw [upd_ne (ne_of_none e hl)]
  exact k b u n e
theorem Pot.eq {p : Addr} {H H' : Hp} {m : Nat} (h : Pot H p m) (e : H' p = H p) : Pot H' p m := by
  obtain ⟨a, b, c, g, r⟩ := h
  exact ⟨a, b, c, e.trans g, r⟩
theorem menu6 {w a b c : Int} (hw : 0 ≤ w) (ha : 0 ≤ a ∧ a ≤ 5) (hb : 0 ≤ b ∧ b ≤ 5) (hc : 0 ≤ c ∧ c ≤ 5) {x : V} (h : x ∈ [V.int 0, V.int 0, V.int a, V.int b, V.int c, V.int w]) : ∃ v, x = .int v ∧ 0 ≤ v ∧ v ≤ w + 5 := by
  simp only [List.mem_cons, List.not_mem_nil, or_false] at h
  rcases h with rfl | rfl | rfl | rfl | rfl | rfl
  · exact ⟨0, rfl, by omega, by omega⟩
  · exact ⟨0, rfl, by omega, by omega⟩
  · exact ⟨a, rfl, by omega, by omega⟩
  · exact ⟨b, rfl, by omega, by omega⟩
  · exact ⟨c, rfl, by omega, by omega⟩
  · exact ⟨w, rfl, by omega, by omega⟩
theorem menu5 {w a b : Int} (hw : 0 ≤ w) (ha : 0 ≤ a ∧ a ≤ 5) (hb : 0 ≤ b ∧ b ≤ 5) {x : V} (h : x ∈ [V.int 0, V.int 0, V.int a, V.int b, V.int w]) : ∃ v, x = .int v ∧ 0 ≤ v ∧ v ≤ w + 5 := by
  simp only [List.mem_cons, List.not_mem_nil, or_false] at h
  rcases h with rfl | rfl | rfl | rfl | rfl
  · exact ⟨0, rfl, by omega, by omega⟩
  · exact ⟨0, rfl, by omega, by omega⟩
  · exact ⟨a, rfl, by omega, by omega⟩
  · exact ⟨b, rfl, by omega, by omega⟩
  · exact ⟨w, rfl, by omega, by omega⟩
theorem pair_intro : ∀ {es : List PyData}, es.length = 2 → es.all isNumD = true → ∃ q, pairOf (.tuple es) = some q
  | [], h, _ => by cases h
  | [_], h, _ => by cases h
  | a :: b :: c :: r, h, _ => by simp at h
  | [a, b], _, h => by
    have h' : (isNumD a && (isNumD b && true)) = true := h
    cases a with
    | int x =>
      cases b with
      | int y => exact ⟨(x, y), rfl⟩
      | none => cases h'
      | bool _ => cases h'
      | str _ => cases h'
      | list _ => cases h'
      | tuple _ => cases h'
      | dict _ => cases h'
    | none => cases h'
    | bool _ => cases h'
    | str _ => cases h'
    | list _ => cases h'
    | tuple _ => cases h'
    | dict _ => cases h'
theorem pair_some {es : List PyData} {q : Int × Int} (h : pairOf (.tuple es) = some q) : es.length = 2 ∧ es.all isNumD = true := by
  unfold pairOf at h
  split at h
  · rename_i e
    cases e
    exact ⟨rfl, rfl⟩
  · cases h
theorem not_pair {d : PyData} (h : pairOf d = none) : isPairD d = false := by
  unfold isPairD
  rw [h]
theorem not_ranges {ds : List PyData} {i : Nat} {d : PyData} (e : ds[i]? = some d) (h : isPairD d = false) : isRangesD (.tuple ds) = false := by
  have n : ds.all isPairD = false := by
    cases q : ds.all isPairD with
    | false => rfl
    | true =>
      have := List.all_eq_true.mp q d (List.mem_of_getElem? e)
      rw [h] at this
      cases this
  show (ds.all isPairD && (stepsD ds).all id) = false
  rw [n]
  rfl
abbrev s__law_spans : Stmt := topS 11
theorem sc__law_spans : FnScope ["_law_pot_here", "_law_most", "_law_low", "_law_high", "_law_wide", "_law_found", "_law_here", "_law_turn", "_law_end"] ["_law_pot_here", "_law_most", "_law_low", "_law_high"] (defScope s__law_spans) := ⟨rfl, rfl, rfl, by decide +kernel, rfl, by decide +kernel, by decide +kernel⟩
abbrev s__law_in : Stmt := topS 12
theorem sc__law_in : FnScope ["_law_spans_here", "_law_figure", "_law_low", "_law_high"] ["_law_spans_here", "_law_figure"] (defScope s__law_in) := ⟨rfl, rfl, rfl, by decide +kernel, rfl, by decide +kernel, by decide +kernel⟩
abbrev s__law_is_integer : Stmt := topS 13
theorem sc__law_is_integer : FnScope ["_law_thing_here"] ["_law_thing_here"] (defScope s__law_is_integer) := ⟨rfl, rfl, rfl, by decide +kernel, rfl, by decide +kernel, by decide +kernel⟩
abbrev s__law_is_set : Stmt := topS 14
theorem sc__law_is_set : FnScope ["_law_thing_here", "_law_pair", "_law_at", "_law_low", "_law_high", "_law_one"] ["_law_thing_here"] (defScope s__law_is_set) := ⟨rfl, rfl, rfl, by decide +kernel, rfl, by decide +kernel, by decide +kernel⟩
section
variable {base : Heap} {P : Program} {w : World} {mg : Str → Option Value} {K : PySem.W.Frag}
def Far (q : Int × Int) : Prop := -(2 ^ 120) < q.1 ∧ q.1 < 2 ^ 120 ∧ -(2 ^ 120) < q.2 ∧ q.2 < 2 ^ 120
def sp_spans : Sp := fun vs H Q _ => ∃ (p : Addr) (most : Nat) (low high : Int) (m : Nat), vs = [.ref p, .int most, .int low, .int high] ∧ Pot H p m ∧ m + 100 < 1000000 ∧ most ≤ 20 ∧ -(2 ^ 110) < low ∧ low ≤ high ∧ high < 2 ^ 110 ∧
  ∀ (H' : Hp) (t : Addr) (xs : List V) (ps : List (Int × Int)), Kp p H H' → Pot H' p (m + 60) → H' t = some (.tup xs) → PrAll H' xs ps → ps.length ≤ most → (∀ q ∈ ps, Far q) → Q (.ref t) H'
theorem ok_spans {f : Addr} {fd : FuncData} (F : Fun K "_law_spans" "_law_spans" s__law_spans f fd) (T : Txt mg) (C__law_draw : Cal P w K mg base 1 "_law_draw" sp_draw) (C__law_any : Cal P w K mg base 2 "_law_any" sp_any) :
    FnG P w K mg base 3 f fd ["_law_pot_here", "_law_most", "_law_low", "_law_high"] sp_spans := by
  refine okG F sc__law_spans (fun vs H Q E h => ?_) (fun cdv A outer s H vs Q E hg hr h => ?_)
  · obtain ⟨p, most, low, high, m, rfl, _⟩ := h
    rfl
  · obtain ⟨p, most, low, high, m, rfl, hp, hm, h1, h2, h3, h4, q⟩ := h
    replace hr := And.intro hg hr
    refine ⟨_, (pss_cons (ps_set (i := 4) sc__law_spans.nd rfl (Or.inl rfl) (pe_op op_fdivW (pe_op op_sub (pv 3) (pv 2)) pe_int))
        (pss_cons (ps_par (i := 5) (j := 6) (by rfl) sc__law_spans.nd rfl rfl (by decide) rfl rfl (pa_cons (pe_lst pa_nil) (pa_cons (pe_op op_add (pv 2) (pe_c C__law_draw hr (by decide) (by rfl) (pa_cons (pv 0) (pa_cons (pe_op op_add pe_int (pe_op op_fdivW (pe_op op_sub (pv 3) (pv 2)) pe_int)) pa_nil)))) pa_nil)) (by rfl))
        (pss_cons (ps_for PassesOwn.never rfl (pi_range1 (by rfl) T.b_range (pa_cons (pe_c C__law_draw hr (by decide) (by rfl) (pa_cons (pv 0) (pa_cons (pe_op op_add (pv 1) pe_int) pa_nil))) pa_nil)) (pg_name (i := 7) sc__law_spans.nd rfl (Or.inl rfl)) (pss_cons (ps_set (i := 8) sc__law_spans.nd rfl (Or.inl rfl) (pe_op op_add (pv 6) (pe_c C__law_any hr (by decide) (by rfl) (pa_cons (pv 0) (pa_cons (pe_lst (pa_cons pe_int (pa_cons pe_int (pa_cons pe_int (pa_cons pe_int (pa_cons pe_int (pa_cons (pv 4) pa_nil))))))) pa_nil)))))
        (pss_one (ps_if (pt_cmpR op_le (pv 8) (pv 3) (nomark _)) (pss_cons (ps_expr (pe_bm PySem.F.plainAttrs_list PySem.F.slot_list_append PySem.F.type_list_append mt_append (pv 5) (pa_cons (pe_tup (pa_cons (pv 6) (pa_cons (pv 8) pa_nil))) pa_nil)))
        (pss_one (ps_set (i := 6) sc__law_spans.nd rfl (Or.inl rfl) (pe_op op_add (pe_op op_add (pv 8) pe_int) (pe_c C__law_any hr (by decide) (by rfl) (pa_cons (pv 0) (pa_cons (pe_lst (pa_cons pe_int (pa_cons pe_int (pa_cons pe_int (pa_cons pe_int (pa_cons (pv 4) pa_nil)))))) pa_nil))))))) pss_nil))))
        (pss_one (ps_ret (pe_callTy call_tupleL (by rfl) T.b_tuple (by decide +kernel) (pa_cons (pv 5) pa_nil))))))), ?_⟩
    walk_at "rd"
    refine ⟨⟨by decide, by decide⟩, Nat.zero_le _, fun l hl => ⟨⟨by decide, by decide⟩, ?_⟩⟩
    have s0 : Same H (upd H l (.lst [])) := new_same hl
    obtain ⟨ys, ep⟩ := hp.lst
    have nlp : l ≠ p := fun z => by rw [← z, hl] at ep; cases ep
    refine ⟨p, _, m, rfl, hp.same s0, by omega, by omega, by omega, fun H1 r k1 p1 r0 r1 => ⟨r, rfl, _, _, ⟨rfl, rfl⟩, ?_⟩⟩
    refine ⟨.ref p, rfl, .int most, rfl, (most : Int), 1, rfl, rfl, p, _, m + 1, rfl, p1, by omega, by omega, by omega, fun H2 r2 k2 p2 a0 a1 => ?_⟩
    have k12 : Kp p H H2 := (Kp.of s0).trans (k1.trans k2)
    have l2 : H2 l = some (.lst []) := k2 _ _ nlp (k1 _ _ nlp upd_same)
    refine ⟨r2, rfl, by omega, by omega, for_range (lo := 0) (n := r2.toNat) (fun i σ H' => ∃ (here : Int) (t e : Option V) (xs : List V) (ps : List (Int × Int)), σ = [some (.ref p), some (.int most), some (.int low), some (.int high), some (.int ((high - low) / 9)), some (.ref l), some (.int here), t, e] ∧
      Kp p H H' ∧ Pot H' p (m + 2 + 2 * i) ∧ H' l = some (.lst xs) ∧ PrAll H' xs ps ∧ ps.length ≤ i ∧ (∀ q ∈ ps, Far q) ∧ low ≤ here ∧ here ≤ high + (high - low) / 9 + 10) ?_ ?_ ?_⟩
    · exact ⟨_, _, _, [], [], rfl, k12, p2, l2, .nil, Nat.le_refl _, fun _ z => (List.not_mem_nil z).elim, by omega, by omega⟩
    · rintro i σ H3 hi ⟨here, t, e, xs, ps, rfl, k3, p3, l3, pr, hn, fr, b1, b2⟩
      walk_at "rd"
      refine ⟨by decide, fun L hL => ?_⟩
      have hL0 : H3 p ≠ none := fun z => by obtain ⟨_, z2⟩ := p3.lst; rw [z] at z2; cases z2
      have nLp : L ≠ p := fun z => hL0 (z ▸ hL)
      refine ⟨p, L, _, _, rfl, p3.same (new_same hL), by omega, nLp, upd_same, by simp, by simp, fun H4 x k4 p4 mx => ?_⟩
      obtain ⟨u, rfl, u0, u1⟩ := menu6 (show 0 ≤ (high - low) / 9 by omega) (by decide) (by decide) (by decide) mx
      refine ⟨u, rfl, ?_⟩
      have l4 : H4 l = some (.lst xs) := k4 _ _ nlp (new_same hL _ _ l3)
      obtain ⟨y3, e3⟩ := p3.lst
      have t4 : TK H3 H4 := (TK.of (new_same hL)).trans (TK.kp k4 (new_same hL _ _ e3))
      have kp4 : Kp p H H4 := k3.trans ((Kp.of (new_same hL)).trans k4)
      have xl := pr.len
      refine ite2 (fun c => ?_) (fun c => ?_)
      · have c' : here + u ≤ high := of_decide_eq_true c
        refine ⟨Or.inl ⟨rfl, xs, SqL.of l4⟩, by decide, fun T hT => ?_⟩
        have nlT : l ≠ T := ne_of_none l4 hT
        have lA : upd H4 T (.tup [V.int here, V.int (here + u)]) l = some (.lst xs) := by rw [upd_ne nlT]; exact l4
        refine ⟨xs, lA, Nat.lt_of_le_of_lt (show xs.length ≤ 20 by omega) (by decide), by decide, fun M hM => ?_⟩
        obtain ⟨zs, e4⟩ := p4.lst
        have npT : p ≠ T := ne_of_none e4 hT
        have pB : Pot (upd (upd H4 T (.tup [V.int here, V.int (here + u)])) l (.lst (xs ++ [V.ref T]))) p (m + 2 + 2 * i + 1) := p4.eq (by rw [upd_ne nlp.symm, upd_ne npT])
        obtain ⟨zB, eB⟩ := pB.lst
        have nlM : l ≠ M := ne_of_none upd_same hM
        refine ⟨p, M, _, _, rfl, pB.same (new_same hM), by omega, (fun z => by rw [z, eB] at hM; cases hM), upd_same, by simp, by simp, fun H5 y k5 p5 my => ?_⟩
        obtain ⟨v, rfl, v0, v1⟩ := menu5 (show 0 ≤ (high - low) / 9 by omega) (by decide) (by decide) my
        have tA : TK H4 (upd H4 T (.tup [V.int here, V.int (here + u)])) := TK.of (new_same hT)
        have tB := (TK.put lA (o := .lst (xs ++ [V.ref T]))).trans ((TK.of (new_same hM)).trans (TK.kp k5 ((new_same hM) _ _ eB)))
        have l5 := k5 _ _ nlp (new_same hM _ _ upd_same)
        have kB : Kp p H (upd (upd H4 T (.tup [V.int here, V.int (here + u)])) l (.lst (xs ++ [V.ref T]))) := (kp4.trans (Kp.of (new_same hT))).putNew hl
        refine ⟨v, rfl, kB.trans ((Kp.of (new_same hM)).trans k5), p5.up (by omega), _, l5, ps ++ [(here, here + u)], (pr.tk (t4.trans (tA.trans tB))).snoc ⟨T, rfl, tB _ _ upd_same⟩, by rw [List.length_append]; simp; omega, fun q hq => ?_, by omega, by omega⟩
        rcases List.mem_append.mp hq with hq | hq
        · exact fr q hq
        · have eq : q = (here, here + u) := by simpa using hq
          rw [eq]
          exact ⟨by show -(2 ^ 120) < here; omega, by show here < 2 ^ 120; omega, by show -(2 ^ 120) < here + u; omega, by show here + u < 2 ^ 120; omega⟩
      · exact ⟨kp4, p4.up (by omega), xs, l4, ps, pr.tk t4, by omega, fr, b1, b2⟩
    · rintro σ H3 ⟨here, t, e, xs, ps, rfl, k3, p3, l3, pr, hn, fr, b1, b2⟩
      walk_at "rd"
      exact ⟨xs, l3, fun t ht => q _ t xs ps (k3.trans (Kp.of (new_same ht))) ((p3.same (new_same ht)).up (by omega)) upd_same (pr.tk (TK.of (new_same ht))) (by omega) fr⟩
def sp_in : Sp := fun vs H Q _ => ∃ (a : Addr) (ds : List PyData) (b : Bool) (p : Addr) (n : Int), vs = [.ref a, .int n] ∧ Dq b p H (.ref a) (.tuple ds) ∧ ds.all isPairD = true ∧ ds.length ≤ 1000 ∧ ∀ H', Same H H' → Q (.bl (inD ds n)) H'
theorem ok_in {f : Addr} {fd : FuncData} (F : Fun K "_law_in" "_law_in" s__law_in f fd) (T : Txt mg) : FnG P w K mg base 1 f fd ["_law_spans_here", "_law_figure"] sp_in := by
  refine okG F sc__law_in (fun vs H Q E h => ?_) (fun cdv A outer s H vs Q E hg hr h => ?_)
  · obtain ⟨a, ds, b, p, n, rfl, _⟩ := h
    rfl
  · obtain ⟨a, ds, b, p, n, rfl, hd, al, hz, q⟩ := h
    refine ⟨_, (pss_one (ps_ret (pe_callB (call_anyB rfl) (by rfl) T.b_any (by decide +kernel) (pa_cons (pe_lc (own := [("_law_low", 2), ("_law_high", 3)]) (g := gTupV 2 (gCons (gName 2) (gCons (gName 3) gNil))) (tt := tYes) rfl sc__law_in.nd (pi_tup (pv 0)) (blkOk_by (own := [("_law_low", 2), ("_law_high", 3)]) (N := ["_law_spans_here", "_law_figure", "_law_low", "_law_high"]) (sc := defScope s__law_in) (by decide +kernel)) (fun _ _ _ _ _ => (pg_tupV (n := 2) rfl (pgs_cons (pg_name (i := 2) sc__law_in.nd rfl (Or.inl rfl)) (pgs_cons (pg_name (i := 3) sc__law_in.nd rfl (Or.inl rfl)) pgs_nil)))) (fun _ _ _ _ _ => pts_nil) (fun _ _ _ _ _ => (pe_chain op_le op_le (pv 2) (pv 1) (pv 3)))) pa_nil)))), ?_⟩
    cases hd with
    | @tup a xs ds g ne ha =>
    have len := ha.length
    have big : (1000 : Nat) ≤ sizeLine := by decide
    walk_at "rd"
    refine ⟨.ref a, rfl, a, rfl, ⟨xs, SqT.of g⟩, lcMap (walk_tup (xs := xs)) ((ds.map (inOne n)).map V.bl) (by simp [len]) (by omega) (fun H1 s1 => s1.seqT (SqT.of g)) (fun i x H1 H2 y R ho s1 hy kk => ?_) (fun H1 D hD s1 hL => ?_)⟩
    · obtain ⟨rfl, hx⟩ := hy
      obtain ⟨e, he, hq⟩ := ha.get hx
      obtain ⟨l, r, pe⟩ := pair_of al he
      obtain ⟨t, rfl, ht⟩ := (hq.same s1).pair pe
      have ey : y = .bl (decide (l ≤ n) && decide (n ≤ r)) := by
        rw [List.getElem?_map, List.getElem?_map, he] at ho
        rw [← (pair_lohi pe).2.2 n]
        exact (Option.some.inj ho).symm
      subst ey
      walk_at "rd"
      simp only [ht, Option.some.injEq, HO.tup.injEq, exists_eq_left']
      walk_at "rd"
      refine ⟨_, _, ⟨rfl, rfl⟩, _, _, rfl, rfl, _, rfl, ?_⟩
      have k := kk _ (Same.refl _)
      cases e1 : decide (l ≤ n) with
      | true =>
        rw [e1, Bool.true_and] at k
        exact iteT ⟨_, rfl, k⟩
      | false =>
        rw [e1, Bool.false_and] at k
        exact iteF k
    · refine ⟨D, rfl, ds.map (inOne n), hL, ?_⟩
      have e : (ds.map (inOne n)).any id = inD ds n := by rw [List.any_map]; rfl
      rw [e]
      exact q _ s1
theorem ok_integer {f : Addr} {fd : FuncData} (F : Fun K "_law_is_integer" "_law_is_integer" s__law_is_integer f fd) (T : Txt mg) : FnG P w K mg base 1 f fd ["_law_thing_here"] sp_number := by
  refine okG F sc__law_is_integer (fun vs H Q E h => ?_) (fun cdv A outer s H vs Q E hg hr h => ?_)
  · obtain ⟨v, d, b, p, rfl, _⟩ := h
    rfl
  · obtain ⟨v, d, b, p, rfl, hd, q⟩ := h
    refine ⟨_, (pss_one (ps_ret (pe_and (pe_callB call_isiInt (by rfl) T.b_isinstance (by decide +kernel) (pa_cons (pv 0) (pa_cons (pe_bltn (v := .ty "int") (u := .type "int") (by rfl) T.b_int (by decide +kernel) rfl) pa_nil))) (pe_one (pe_not (pe_callB call_isiBool (by rfl) T.b_isinstance (by decide +kernel) (pa_cons (pv 0) (pa_cons (pe_bltn (v := .ty "bool") (u := .type "bool") (by rfl) T.b_bool (by decide +kernel) rfl) pa_nil)))))))), ?_⟩
    walk_at "rd"
    refine ⟨d, ⟨b, p, hd⟩, ?_⟩
    cases d with
    | int i => exact ⟨.int i, ⟨b, p, hd⟩, q⟩
    | bool i => exact ⟨.bool i, ⟨b, p, hd⟩, q⟩
    | none => exact q
    | str x => exact q
    | list x => exact q
    | tuple x => exact q
    | dict x => exact q
theorem ok_set {f : Addr} {fd : FuncData} (F : Fun K "_law_is_set" "_law_is_set" s__law_is_set f fd) (T : Txt mg) (C__law_is_integer : Cal P w K mg base 1 "_law_is_integer" sp_number) : FnG P w K mg base 3 f fd ["_law_thing_here"] sp_ranges := by
  refine okG F sc__law_is_set (fun vs H Q E h => ?_) (fun cdv A outer s H vs Q E hg hr h => ?_)
  · obtain ⟨v, d, b, p, rfl, _⟩ := h
    rfl
  · obtain ⟨v, d, b, p, rfl, hd, hz, q⟩ := h
    replace hr := And.intro hg hr
    refine ⟨_, (pss_cons (ps_if (pt_not (pt_val (pe_callB call_isiTup (by rfl) T.b_isinstance (by decide +kernel) (pa_cons (pv 0) (pa_cons (pe_bltn (v := .ty "tuple") (u := .type "tuple") (by rfl) T.b_tuple (by decide +kernel) rfl) pa_nil))))) (pss_one (ps_ret pe_bl)) pss_nil)
        (pss_cons (ps_for PassesOwn.never rfl (pi_tup (pv 0)) (pg_name (i := 1) sc__law_is_set.nd rfl (Or.inl rfl)) (pss_one (ps_if (PW.pt (pw_or (pt_not (pt_val (pe_callB call_isiTup (by rfl) T.b_isinstance (by decide +kernel) (pa_cons (pv 1) (pa_cons (pe_bltn (v := .ty "tuple") (u := .type "tuple") (by rfl) T.b_tuple (by decide +kernel) rfl) pa_nil))))) (pw_or (pt_cmpR op_ne (pe_callB call_lenT (by rfl) T.b_len (by decide +kernel) (pa_cons (pv 1) pa_nil)) pe_int (nomark _)) (pw_or1 (pt_not (pt_val (pe_callB (call_allB rfl) (by rfl) T.b_all (by decide +kernel) (pa_cons (pe_lc (own := [("_law_one", 5)]) (g := gName 5) (tt := tYes) rfl sc__law_is_set.nd (pi_tup (pv 1)) (blkOk_by (own := [("_law_one", 5)]) (N := ["_law_thing_here", "_law_pair", "_law_at", "_law_low", "_law_high", "_law_one"]) (sc := defScope s__law_is_set) (by decide +kernel)) (fun _ _ _ _ _ => (pg_name (i := 5) sc__law_is_set.nd rfl (Or.inl rfl))) (fun _ _ _ _ _ => pts_nil) (fun _ _ _ _ _ => (pe_c C__law_is_integer hr (by decide) (by rfl) (pa_cons (pv 5) pa_nil)))) pa_nil)))))))) (pss_one (ps_ret pe_bl)) pss_nil)))
        (pss_cons (ps_if (pt_not (pt_val (pe_callB (call_allB rfl) (by rfl) T.b_all (by decide +kernel) (pa_cons (pe_lc (own := [("_law_low", 3), ("_law_high", 4)]) (g := gTupV 2 (gCons (gName 3) (gCons (gName 4) gNil))) (tt := tYes) rfl sc__law_is_set.nd (pi_tup (pv 0)) (blkOk_by (own := [("_law_low", 3), ("_law_high", 4)]) (N := ["_law_thing_here", "_law_pair", "_law_at", "_law_low", "_law_high", "_law_one"]) (sc := defScope s__law_is_set) (by decide +kernel)) (fun _ _ _ _ _ => (pg_tupV (n := 2) rfl (pgs_cons (pg_name (i := 3) sc__law_is_set.nd rfl (Or.inl rfl)) (pgs_cons (pg_name (i := 4) sc__law_is_set.nd rfl (Or.inl rfl)) pgs_nil)))) (fun _ _ _ _ _ => pts_nil) (fun _ _ _ _ _ => (pe_cmpR op_le (pv 3) (pv 4) (nomark _)))) pa_nil)))) (pss_one (ps_ret pe_bl)) pss_nil)
        (pss_one (ps_ret (pe_callB (call_allB rfl) (by rfl) T.b_all (by decide +kernel) (pa_cons (pe_lc (own := [("_law_at", 2)]) (g := gName 2) (tt := tYes) rfl sc__law_is_set.nd (pi_range1 (by rfl) T.b_range (pa_cons (pe_op op_sub (pe_callB call_lenT (by rfl) T.b_len (by decide +kernel) (pa_cons (pv 0) pa_nil)) pe_int) pa_nil)) (blkOk_by (own := [("_law_at", 2)]) (N := ["_law_thing_here", "_law_pair", "_law_at", "_law_low", "_law_high", "_law_one"]) (sc := defScope s__law_is_set) (by decide +kernel)) (fun _ _ _ _ _ => (pg_name (i := 2) sc__law_is_set.nd rfl (Or.inl rfl))) (fun _ _ _ _ _ => pts_nil) (fun _ _ _ _ _ => (pe_cmpR op_le (pe_op op_add (pe_ix ix_t (pe_ix ix_t (pv 0) (pv 2) (fun _ _ => rfl)) pe_int (fun _ _ => rfl)) pe_int) (pe_ix ix_t (pe_ix ix_t (pv 0) (pe_op op_add (pv 2) pe_int) (fun _ _ => rfl)) pe_int (fun _ _ => rfl)) (nomark _)))) pa_nil))))))), ?_⟩
    walk_at "rd"
    refine ⟨d, ⟨b, p, hd⟩, ?_⟩
    cases hd with
    | @tup a xs ds g ne ha =>
      refine iteF ?_
      have len := ha.length
      have small := hz ds rfl
      have big : (1000 : Nat) ≤ sizeLine := by decide
      refine ⟨.ref a, rfl, a, rfl, ⟨xs, SqT.of g⟩, for_tup (K := K) (xs := xs) (fun i σ H' => ∃ t : Option V, σ = [some (.ref a), t, none, none, none, none] ∧ Same H H' ∧ ∀ j, j < i → j < ds.length → ∃ q, pairOf (ds.getD j .none) = some q) ⟨none, rfl, Same.refl _, fun j hj => absurd hj (Nat.not_lt_zero _)⟩
        (fun i σ H' _ ⟨_, _, s1, _⟩ => s1.seqT (SqT.of g)) ?_ ?_⟩
      · rintro i x σ H1 hx ⟨t, rfl, s1, hp⟩
        obtain ⟨e, he, hq⟩ := ha.get hx
        have hq1 := hq.same s1
        have hi : i < ds.length := (List.getElem?_eq_some_iff.mp he).1
        have stop : isPairD e = false → ∀ H', Same H H' → Q (.bl false) H' := fun z H' s' => by
          have := q H' s'
          rw [not_ranges he z] at this
          exact this
        walk_at "rd"
        refine ⟨e, ⟨b, p, hq1⟩, ?_⟩
        cases hq1 with
        | @tup c ys es gc nc hc =>
          refine iteF ?_
          have yl := hc.length
          have el : ds.getD i .none = .tuple es := by
            have := getD_at hi
            rw [he] at this
            exact (Option.some.inj this).symm
          simp only [gc, Option.some.injEq, HO.tup.injEq, exists_eq_left', V.ref.injEq]
          refine ⟨rfl, ?_⟩
          by_cases n2 : es.length = 2
          · rw [if_neg (by rw [yl, n2]; decide)]
            refine ⟨.ref c, rfl, c, rfl, ⟨ys, SqT.of gc⟩, lcMap (walk_tup (xs := ys)) ((es.map isNumD).map V.bl) (by simp [yl]) (by omega) (fun H2 s2 => s2.seqT (SqT.of gc)) (fun k x2 H2 H3 y R ho s2 hy kk => ?_) (fun H2 D hD s2 hL => ?_)⟩
            · obtain ⟨rfl, hx2⟩ := hy
              obtain ⟨e2, he2, hq2⟩ := hc.get hx2
              have ey : y = .bl (isNumD e2) := by
                rw [List.getElem?_map, List.getElem?_map, he2] at ho
                exact (Option.some.inj ho).symm
              subst ey
              refine ⟨rfl, ?_⟩
              walk_at "rd"
              exact ⟨x2, e2, b, p, rfl, hq2.same s2, kk _ (Same.refl _)⟩
            · refine ⟨D, rfl, es.map isNumD, hL, ?_⟩
              have ee : (es.map isNumD).all id = es.all isNumD := by rw [List.all_map]; rfl
              rw [ee]
              cases al : es.all isNumD with
              | false =>
                refine iteT (stop (not_pair ?_) _ (s1.trans s2))
                cases z : pairOf (.tuple es) with
                | none => rfl
                | some u =>
                  rw [(pair_some z).2] at al
                  cases al
              | true =>
                refine iteF ⟨s1.trans s2, fun j h1 h2 => ?_⟩
                by_cases ej : j = i
                · rw [ej, el]
                  exact pair_intro n2 al
                · exact hp j (by omega) h2
          · rw [if_pos (by rw [yl, decide_eq_false (fun z => n2 (by omega))]; rfl)]
            refine stop (not_pair (pairOf_len n2)) _ s1
        | non => exact iteT (stop rfl _ s1)
        | bl x => exact iteT (stop rfl _ s1)
        | int x => exact iteT (stop rfl _ s1)
        | str x => exact iteT (stop rfl _ s1)
        | lst g _ _ _ => exact iteT (stop rfl _ s1)
        | dc0 _ g _ => exact iteT (stop rfl _ s1)
        | dc1 _ g _ _ => exact iteT (stop rfl _ s1)
      · rintro σ H1 ⟨t, rfl, s1, hp⟩
        have pr : ∀ {i : Nat} {d : PyData}, ds[i]? = some d → ∃ l r, pairOf d = some (l, r) := fun {i d} e => by
          have hi := (List.getElem?_eq_some_iff.mp e).1
          obtain ⟨u, hu⟩ := hp i (by omega) hi
          rw [getD_at hi] at e
          cases e
          exact ⟨u.1, u.2, hu⟩
        have ha1 := ha.same s1
        refine ⟨.ref a, rfl, a, rfl, ⟨xs, SqT.of (s1 _ _ g)⟩, lcMap (walk_tup (xs := xs)) ((ds.map isPairD).map V.bl) (by simp [len]) (by omega) (fun H2 s2 => s2.seqT (SqT.of (s1 _ _ g))) (fun k x2 H2 H3 y R ho s2 hy kk => ?_) (fun H2 D hD s2 hL => ?_)⟩
        · obtain ⟨rfl, hx2⟩ := hy
          obtain ⟨e2, he2, hq2⟩ := ha1.get hx2
          obtain ⟨l, r, pe⟩ := pr he2
          obtain ⟨t2, rfl, ht⟩ := (hq2.same s2).pair pe
          have ey : y = .bl (decide (l ≤ r)) := by
            rw [List.getElem?_map, List.getElem?_map, he2] at ho
            rw [← Option.some.inj ho]
            show V.bl (isPairD e2) = _
            unfold isPairD
            rw [pe]
          subst ey
          walk_at "rd"
          simp only [ht, Option.some.injEq, HO.tup.injEq, exists_eq_left']
          walk_at "rd"
          exact ⟨_, _, ⟨rfl, rfl⟩, _, _, rfl, rfl, _, rfl, _, rfl, kk _ (Same.refl _)⟩
        · refine ⟨D, ds.map isPairD, rfl, hL, ?_⟩
          have ee : (ds.map isPairD).all id = ds.all isPairD := by rw [List.all_map]; rfl
          rw [ee]
          have ga := s2 _ _ (s1 _ _ g)
          have ha2 := ha1.same s2
          walk_at "rd"
          cases al : ds.all isPairD with
          | false =>
            have er : isRangesD (.tuple ds) = false := by show (ds.all isPairD && (stepsD ds).all id) = _; rw [al]; rfl
            rw [er] at q
            exact iteT (q _ (s1.trans s2))
          | true =>
            have er : isRangesD (.tuple ds) = (stepsD ds).all id := by show (ds.all isPairD && (stepsD ds).all id) = _; rw [al]; rfl
            rw [er] at q
            refine iteF ?_
            refine ⟨.ref a, rfl, a, rfl, xs, ga, (xs.length : Int), 1, rfl, rfl, (xs.length : Int) - 1, rfl, by omega, by omega, lcMap (walk_range (n := ((xs.length : Int) - 1).toNat)) ((stepsD ds).map V.bl) (by rw [List.length_map, stepsD_len, ← len]; omega) (by omega) (fun _ _ => trivial) (fun k x2 H3 H4 y R ho s3 hy kk => ?_) (fun H3 D2 hD2 s3 hL2 => ?_)⟩
            · obtain ⟨rfl, rfl⟩ := hy
              have hk : k + 1 < ds.length := by
                have h1 : k < ((stepsD ds).map V.bl).length := (List.getElem?_eq_some_iff.mp ho).1
                rw [List.length_map, stepsD_len] at h1
                omega
              have g1 : xs[k]? = some xs[k] := List.getElem?_eq_getElem (by omega)
              have g2 : xs[k + 1]? = some xs[k + 1] := List.getElem?_eq_getElem (by omega)
              obtain ⟨d1, e1, q1⟩ := ha2.get g1
              obtain ⟨d2, e2, q2⟩ := ha2.get g2
              obtain ⟨l1, h1, p1⟩ := pr e1
              obtain ⟨l2, h2, p2⟩ := pr e2
              obtain ⟨t1, z1, u1⟩ := (q1.same s3).pair p1
              obtain ⟨t2, z2, u2⟩ := (q2.same s3).pair p2
              have ey : y = .bl (decide (h1 + 2 ≤ l2)) := by
                rw [List.getElem?_map, stepsD_get e1 e2] at ho
                rw [← Option.some.inj ho]
                show V.bl (stepD d1 d2) = _
                unfold stepD
                rw [p1, p2]
              subst ey
              have i1 : atI xs (0 + (k : Int)) = some (.ref t1) := by rw [Int.zero_add]; exact atI_nat (by rw [g1, z1])
              have i2 : atI xs (0 + (k : Int) + 1) = some (.ref t2) := by rw [Int.zero_add]; exact atI_nat (j := k + 1) (by rw [g2, z2])
              have ga3 := s3 _ _ ga
              refine ⟨rfl, ?_⟩
              walk_at "rd"
              simp only [ga3, i1, i2, u1, u2, at20, at21, Option.some.injEq, V.int.injEq, V.ref.injEq, HO.tup.injEq, exists_eq_left']
              exact kk _ (Same.refl _)
            · exact ⟨D2, rfl, stepsD ds, hL2, q _ ((s1.trans s2).trans s3)⟩
    | non => exact iteT (q _ (Same.refl _))
    | bl x => exact iteT (q _ (Same.refl _))
    | int x => exact iteT (q _ (Same.refl _))
    | str x => exact iteT (q _ (Same.refl _))
    | lst g _ _ _ => exact iteT (q _ (Same.refl _))
    | dc0 _ g _ => exact iteT (q _ (Same.refl _))
    | dc1 _ g _ _ => exact iteT (q _ (Same.refl _))
end
end Pf

set_option Elab.async false
set_option linter.all false
set_option maxRecDepth 100000
/-! The drawn values. -/
namespace Pf
open PySem PySem.Spec PyProof.Rows L2
local macro_rules | `(tactic| walk_at "rd") => `(tactic| simp only [tC1, tCK, tB, rNe, rEq, tChain, gTupV, gCons, gNil, Nat.sub_self, Nat.reduceSub, List.replicate_zero, List.replicate_succ, tTest, tIfS, tIf, tNot, tAnd, tOr, tAndV, tOrV, tNotV, tDrop, tNext, rIxV, rIxP,
  gSub, rSetL, tSl, tPart, tNoPart, rSl1, tDNewK, tBM, rAppend, wipe, rAllB, rAnyB, iTup, iList, RZ.iZipA, iRng1, iRng2, tYes, upd_same, at0, at1, at2, at20, at21, ixN30, ixN32, HO.lst.injEq, HO.tup.injEq, Nat.reduceAdd, tSeq, tAsg, tPar, tAug, tOp, tVar, tC, tCB, tCons, tNil, rI, rI0, rU, tUn, gName, tRet, tLst, tLstM, tTup, L2.start, List.map_cons, List.map_nil, List.length_cons, List.length_nil, List.replicate, List.cons_append,
  List.nil_append, List.set_cons_zero, List.set_cons_succ, List.getElem?_cons_zero, List.getElem?_cons_succ, Option.some.injEq, V.int.injEq, V.ref.injEq, V.bl.injEq, V.str.injEq, List.cons.injEq, exists_eq_left', exists_eq_left, exists_and_left, exists_and_right, and_true, true_and, reduceCtorEq, false_and,
  exists_false, or_false, false_or, exists_const, exists_eq, exists_eq', Bool.not_true, Bool.not_false, Bool.false_eq_true, if_true, if_false, ite_true, ite_false])
def tlB : PyData → Bool
  | .tuple ds => decide (ds.length ≤ 1000)
  | _ => true
def szB (n k : Nat) (d : PyData) : Bool := d.showable && (decide (d.shown.length ≤ n) && (decide (d.depth ≤ k) && tlB d))
def Sz (n k : Nat) (d : PyData) : Prop := d.showable = true ∧ d.shown.length ≤ n ∧ d.depth ≤ k ∧ tlB d = true
theorem sz_of {n k : Nat} {d : PyData} (h : szB n k d = true) : Sz n k d := by
  unfold szB at h
  rw [Bool.and_eq_true, Bool.and_eq_true, Bool.and_eq_true] at h
  exact ⟨h.1, of_decide_eq_true h.2.1, of_decide_eq_true h.2.2.1, h.2.2.2⟩
theorem Sz.up {n k n' k' : Nat} {d : PyData} (h : Sz n k d) (hn : n ≤ n') (hk : k ≤ k') : Sz n' k' d := ⟨h.1, Nat.le_trans h.2.1 hn, Nat.le_trans h.2.2.1 hk, h.2.2.2⟩
theorem Sz.tl {n k : Nat} {d : PyData} (h : Sz n k d) : ∀ ds, d = .tuple ds → ds.length ≤ 1000 := fun ds e => by
  have q := h.2.2.2
  rw [e] at q
  exact of_decide_eq_true q
theorem Sz.fits {n k : Nat} {d : PyData} (h : Sz n k d) (hn : n ≤ sizeLine) (hk : k ≤ 60) : Fits d := ⟨h.1, Nat.le_trans h.2.1 hn, Nat.le_trans h.2.2.1 hk⟩
theorem Sz.all {n k : Nat} : ∀ {ds : List PyData}, (∀ d ∈ ds, Sz n k d) → PyData.showableAll ds = true ∧ ((PyData.shownAll ds).map (·.length)).sum ≤ ds.length * n ∧ (PyData.shownAll ds).length = ds.length ∧ PyData.depthAll ds ≤ k
  | [], _ => ⟨rfl, by simp [PyData.shownAll], rfl, Nat.zero_le _⟩
  | d :: ds, h => by
    obtain ⟨h1, h2, h3, _⟩ := h d List.mem_cons_self
    obtain ⟨i1, i2, i3, i4⟩ := Sz.all (ds := ds) fun e he => h e (List.mem_cons_of_mem _ he)
    refine ⟨?_, ?_, ?_, ?_⟩
    · simp only [PyData.showableAll, h1, i1, Bool.and_self]
    · simp only [PyData.shownAll, List.map_cons, List.sum_cons, List.length_cons, Nat.add_mul, Nat.one_mul]
      omega
    · simp only [PyData.shownAll, List.length_cons, i3]
    · simp only [PyData.depthAll]
      exact Nat.max_le.mpr ⟨h3, i4⟩
theorem Sz.tuple {n k : Nat} {ds : List PyData} (h : ∀ d ∈ ds, Sz n k d) (hl : ds.length ≤ 1000 := by simp) : Sz (ds.length * (n + 2) + 3) (k + 1) (.tuple ds) := by
  obtain ⟨i1, i2, i3, i4⟩ := Sz.all h
  refine ⟨by simp only [PyData.showable]; exact i1, ?_, by simp only [PyData.depth]; omega, decide_eq_true hl⟩
  have := tupleText_len_le (PyData.shownAll ds)
  simp only [PyData.shown]
  rw [Nat.mul_add]
  omega
theorem Sz.list {n k : Nat} {ds : List PyData} (h : ∀ d ∈ ds, Sz n k d) : Sz (ds.length * (n + 2) + 3) (k + 1) (.list ds) := by
  obtain ⟨i1, i2, i3, i4⟩ := Sz.all h
  refine ⟨by simp only [PyData.showable]; exact i1, ?_, by simp only [PyData.depth]; omega, rfl⟩
  have := listText_len_le (PyData.shownAll ds)
  simp only [PyData.shown]
  rw [Nat.mul_add]
  omega
theorem Sz.dict {n k : Nat} {x : Str} {d : PyData} (h : Sz n k d) (hx : (reprText x).length ≤ 10) : Sz (n + 20) (k + 1) (.dict [(.str x, d)]) := by
  obtain ⟨h1, h2, h3, _⟩ := h
  refine ⟨by simp only [PyData.showable, PyData.showableKv, h1, Bool.and_self, Bool.true_and], ?_, by simp only [PyData.depth, PyData.depthKv]; omega, rfl⟩
  have := dictText_len_le (PyData.shownKv [(.str x, d)])
  have e2 : (": " : Str).length = 2 := by decide +kernel
  simp only [PyData.shown]
  simp only [PyData.shownKv, PyData.shown, List.map_cons, List.map_nil, List.sum_cons, List.sum_nil, List.length_cons, List.length_nil, strLen_append, e2] at this ⊢
  omega
def consts : List PyData := [.none, .bool true, .bool false, .int 0, .int 1, .int (-1), .int (10 ^ Int.toNat 30), .str "", .str "a", .str "and", .str "or", .str "A", .str "ab", .str "abcdefgh", .str "abcdefghi", .tuple [],
  .list [], .dict [], .tuple [.int 0, .int 1], .tuple [.tuple [.int 0, .int 1]], .list [.tuple [.int 0, .int 1]], .tuple [.tuple [.int 1, .int 0]], .tuple [.tuple [.int 0, .bool true]],
  .tuple [.tuple [.int 0, .int 1], .tuple [.int 2, .int 3]], .tuple [.tuple [.int 0, .int 1, .int 2]]]
theorem consts_sz : consts.all (szB 60 3) = true := by decide +kernel
theorem DqAll.mem {b : Bool} {p : Addr} {H : Hp} : ∀ {vs : List V} {ds : List PyData}, DqAll b p H vs ds → ∀ v ∈ vs, ∃ d, d ∈ ds ∧ Dq b p H v d
  | _, _, .nil, v, h => (List.not_mem_nil h).elim
  | _, _, .cons h t, v, m => by
    rcases List.mem_cons.mp m with e | m
    · rw [e]
      exact ⟨_, List.mem_cons_self, h⟩
    · obtain ⟨d, h1, h2⟩ := DqAll.mem t v m
      exact ⟨d, List.mem_cons_of_mem _ h1, h2⟩
abbrev s__law_odd : Stmt := topS 10
theorem sc__law_odd : FnScope ["_law_pot_here", "_law_some", "_law_found", "_law_turn"] ["_law_pot_here"] (defScope s__law_odd) := ⟨rfl, rfl, rfl, by decide +kernel, rfl, by decide +kernel, by decide +kernel⟩
section
variable {base : Heap} {P : Program} {w : World} {mg : Str → Option Value} {K : PySem.W.Frag}
def sp_odd : Sp := fun vs H Q _ => ∃ (p : Addr) (m : Nat), vs = [.ref p] ∧ Pot H p m ∧ m + 100 < 1000000 ∧ ∀ (H' : Hp) (v : V) (d : PyData), Kp p H H' → Pot H' p (m + 12) → Dq true p H' v d → Sz 60000 20 d → Q v H'
theorem ok_odd {f : Addr} {fd : FuncData} (F : Fun K "_law_odd" "_law_odd" s__law_odd f fd) (T : Txt mg) (C__law_any : Cal P w K mg base 2 "_law_any" sp_any) : FnG P w K mg base 3 f fd ["_law_pot_here"] sp_odd := by
  refine okG F sc__law_odd (fun vs H Q E h => ?_) (fun cdv A outer s H vs Q E hg hr h => ?_)
  · obtain ⟨p, m, rfl, _⟩ := h
    rfl
  · obtain ⟨p, m, rfl, hp, hm, q⟩ := h
    replace hr := And.intro hg hr
    refine ⟨_, (pss_cons (ps_set (i := 1) sc__law_odd.nd rfl (Or.inl rfl) (pe_lstM (pa_cons pe_non (pa_cons pe_bl (pa_cons pe_bl (pa_cons pe_int (pa_cons pe_int (pa_cons (pe_un un_neg pe_int) (pa_cons (pe_op op_powW pe_int pe_int) (pa_cons pe_str (pa_cons pe_str (pa_cons pe_str (pa_cons pe_str (pa_cons pe_str (pa_cons pe_str (pa_cons pe_str (pa_cons pe_str (pa_cons (pe_tup pa_nil) pa_nil))))))))))))))))))
        (pss_cons (ps_set (i := 1) sc__law_odd.nd rfl (Or.inl rfl) (pe_op op_cat (pv 1) (pe_lstM (pa_cons (pe_lstM pa_nil) (pa_cons pe_dnewK (pa_cons (pe_tup (pa_cons pe_int (pa_cons pe_int pa_nil))) (pa_cons (pe_tup (pa_cons (pe_tup (pa_cons pe_int (pa_cons pe_int pa_nil))) pa_nil)) (pa_cons (pe_lstM (pa_cons (pe_tup (pa_cons pe_int (pa_cons pe_int pa_nil))) pa_nil)) (pa_cons (pe_tup (pa_cons (pe_tup (pa_cons pe_int (pa_cons pe_int pa_nil))) pa_nil)) (pa_cons (pe_tup (pa_cons (pe_tup (pa_cons pe_int (pa_cons pe_bl pa_nil))) pa_nil)) (pa_cons (pe_tup (pa_cons (pe_tup (pa_cons pe_int (pa_cons pe_int pa_nil))) (pa_cons (pe_tup (pa_cons pe_int (pa_cons pe_int pa_nil))) pa_nil))) (pa_cons (pe_tup (pa_cons (pe_tup (pa_cons pe_int (pa_cons pe_int (pa_cons pe_int pa_nil)))) pa_nil)) pa_nil))))))))))))
        (pss_cons (ps_set (i := 2) sc__law_odd.nd rfl (Or.inl rfl) (pe_c C__law_any hr (by decide) (by rfl) (pa_cons (pv 0) (pa_cons (pv 1) pa_nil))))
        (pss_cons (ps_for PassesOwn.never rfl (pi_range1 (by rfl) T.b_range (pa_cons (pe_c C__law_any hr (by decide) (by rfl) (pa_cons (pv 0) (pa_cons (pe_lstM (pa_cons pe_int (pa_cons pe_int (pa_cons pe_int (pa_cons pe_int (pa_cons pe_int (pa_cons pe_int pa_nil))))))) pa_nil))) pa_nil)) (pg_name (i := 3) sc__law_odd.nd rfl (Or.inl rfl)) (pss_one (ps_set (i := 2) sc__law_odd.nd rfl (Or.inl rfl) (pe_c C__law_any hr (by decide) (by rfl) (pa_cons (pv 0) (pa_cons (pe_lstM (pa_cons (pe_tup (pa_cons (pv 2) pa_nil)) (pa_cons (pe_lstM (pa_cons (pv 2) pa_nil)) (pa_cons (pe_disp (pps_cons pe_str (pv 2) pps_nil) (by rfl) (by rfl) (fun z => by cases z) (by decide)) (pa_cons (pe_tup (pa_cons (pv 2) (pa_cons (pv 2) pa_nil))) (pa_cons (pe_tup (pa_cons pe_int (pa_cons (pv 2) pa_nil))) pa_nil)))))) pa_nil))))))
        (pss_one (ps_ret (pv 2))))))), ?_⟩
    walk_at "rd"
    refine ⟨by decide +kernel, ?_⟩
    obtain ⟨ys0, ep0⟩ := hp.lst
    refine ⟨by decide, fun a1 n1 => ?_⟩
    have q1 : a1 ≠ p := (ne_of_none ep0 n1).symm
    have s1 := new_same (o := HO.tup []) n1
    have e1 : upd H a1 (HO.tup []) a1 = some (HO.tup []) := upd_same
    generalize upd H a1 (HO.tup []) = H1 at *
    have ep1 := s1 _ _ ep0
    refine ⟨by decide, fun a2 n2 m2 => ?_⟩
    have q2 : a2 ≠ p := (ne_of_none ep1 n2).symm
    have s2 := new_same (o := HO.lst [V.non, V.bl true, V.bl false, V.int 0, V.int 1, V.int (-1), V.int (10 ^ Int.toNat 30), V.str "", V.str "a", V.str "and", V.str "or", V.str "A", V.str "ab", V.str "abcdefgh", V.str "abcdefghi", V.ref a1]) n2
    have e2 : upd H1 a2 (HO.lst [V.non, V.bl true, V.bl false, V.int 0, V.int 1, V.int (-1), V.int (10 ^ Int.toNat 30), V.str "", V.str "a", V.str "and", V.str "or", V.str "A", V.str "ab", V.str "abcdefgh", V.str "abcdefghi", V.ref a1]) a2 = some (HO.lst [V.non, V.bl true, V.bl false, V.int 0, V.int 1, V.int (-1), V.int (10 ^ Int.toNat 30), V.str "", V.str "a", V.str "and", V.str "or", V.str "A", V.str "ab", V.str "abcdefgh", V.str "abcdefghi", V.ref a1]) := upd_same
    generalize upd H1 a2 (HO.lst [V.non, V.bl true, V.bl false, V.int 0, V.int 1, V.int (-1), V.int (10 ^ Int.toNat 30), V.str "", V.str "a", V.str "and", V.str "or", V.str "A", V.str "ab", V.str "abcdefgh", V.str "abcdefghi", V.ref a1]) = H2 at *
    have ep2 := s2 _ _ ep1
    refine ⟨by decide, fun a3 n3 m3 => ?_⟩
    have q3 : a3 ≠ p := (ne_of_none ep2 n3).symm
    have s3 := new_same (o := HO.lst []) n3
    have e3 : upd H2 a3 (HO.lst []) a3 = some (HO.lst []) := upd_same
    generalize upd H2 a3 (HO.lst []) = H3 at *
    have ep3 := s3 _ _ ep2
    refine fun a4 n4 => ?_
    have q4 : a4 ≠ p := (ne_of_none ep3 n4).symm
    have s4 := new_same (o := HO.dK []) n4
    have e4 : upd H3 a4 (HO.dK []) a4 = some (HO.dK []) := upd_same
    generalize upd H3 a4 (HO.dK []) = H4 at *
    have ep4 := s4 _ _ ep3
    refine ⟨by decide, fun a5 n5 => ?_⟩
    have q5 : a5 ≠ p := (ne_of_none ep4 n5).symm
    have s5 := new_same (o := HO.tup [V.int 0, V.int 1]) n5
    have e5 : upd H4 a5 (HO.tup [V.int 0, V.int 1]) a5 = some (HO.tup [V.int 0, V.int 1]) := upd_same
    generalize upd H4 a5 (HO.tup [V.int 0, V.int 1]) = H5 at *
    have ep5 := s5 _ _ ep4
    refine ⟨by decide, fun a6 n6 => ?_⟩
    have q6 : a6 ≠ p := (ne_of_none ep5 n6).symm
    have s6 := new_same (o := HO.tup [V.int 0, V.int 1]) n6
    have e6 : upd H5 a6 (HO.tup [V.int 0, V.int 1]) a6 = some (HO.tup [V.int 0, V.int 1]) := upd_same
    generalize upd H5 a6 (HO.tup [V.int 0, V.int 1]) = H6 at *
    have ep6 := s6 _ _ ep5
    refine ⟨by decide, fun a7 n7 => ?_⟩
    have q7 : a7 ≠ p := (ne_of_none ep6 n7).symm
    have s7 := new_same (o := HO.tup [V.ref a6]) n7
    have e7 : upd H6 a7 (HO.tup [V.ref a6]) a7 = some (HO.tup [V.ref a6]) := upd_same
    generalize upd H6 a7 (HO.tup [V.ref a6]) = H7 at *
    have ep7 := s7 _ _ ep6
    refine ⟨by decide, fun a8 n8 => ?_⟩
    have q8 : a8 ≠ p := (ne_of_none ep7 n8).symm
    have s8 := new_same (o := HO.tup [V.int 0, V.int 1]) n8
    have e8 : upd H7 a8 (HO.tup [V.int 0, V.int 1]) a8 = some (HO.tup [V.int 0, V.int 1]) := upd_same
    generalize upd H7 a8 (HO.tup [V.int 0, V.int 1]) = H8 at *
    have ep8 := s8 _ _ ep7
    refine ⟨by decide, fun a9 n9 m9 => ?_⟩
    have q9 : a9 ≠ p := (ne_of_none ep8 n9).symm
    have s9 := new_same (o := HO.lst [V.ref a8]) n9
    have e9 : upd H8 a9 (HO.lst [V.ref a8]) a9 = some (HO.lst [V.ref a8]) := upd_same
    generalize upd H8 a9 (HO.lst [V.ref a8]) = H9 at *
    have ep9 := s9 _ _ ep8
    refine ⟨by decide, fun a10 n10 => ?_⟩
    have q10 : a10 ≠ p := (ne_of_none ep9 n10).symm
    have s10 := new_same (o := HO.tup [V.int 1, V.int 0]) n10
    have e10 : upd H9 a10 (HO.tup [V.int 1, V.int 0]) a10 = some (HO.tup [V.int 1, V.int 0]) := upd_same
    generalize upd H9 a10 (HO.tup [V.int 1, V.int 0]) = H10 at *
    have ep10 := s10 _ _ ep9
    refine ⟨by decide, fun a11 n11 => ?_⟩
    have q11 : a11 ≠ p := (ne_of_none ep10 n11).symm
    have s11 := new_same (o := HO.tup [V.ref a10]) n11
    have e11 : upd H10 a11 (HO.tup [V.ref a10]) a11 = some (HO.tup [V.ref a10]) := upd_same
    generalize upd H10 a11 (HO.tup [V.ref a10]) = H11 at *
    have ep11 := s11 _ _ ep10
    refine ⟨by decide, fun a12 n12 => ?_⟩
    have q12 : a12 ≠ p := (ne_of_none ep11 n12).symm
    have s12 := new_same (o := HO.tup [V.int 0, V.bl true]) n12
    have e12 : upd H11 a12 (HO.tup [V.int 0, V.bl true]) a12 = some (HO.tup [V.int 0, V.bl true]) := upd_same
    generalize upd H11 a12 (HO.tup [V.int 0, V.bl true]) = H12 at *
    have ep12 := s12 _ _ ep11
    refine ⟨by decide, fun a13 n13 => ?_⟩
    have q13 : a13 ≠ p := (ne_of_none ep12 n13).symm
    have s13 := new_same (o := HO.tup [V.ref a12]) n13
    have e13 : upd H12 a13 (HO.tup [V.ref a12]) a13 = some (HO.tup [V.ref a12]) := upd_same
    generalize upd H12 a13 (HO.tup [V.ref a12]) = H13 at *
    have ep13 := s13 _ _ ep12
    refine ⟨by decide, fun a14 n14 => ?_⟩
    have q14 : a14 ≠ p := (ne_of_none ep13 n14).symm
    have s14 := new_same (o := HO.tup [V.int 0, V.int 1]) n14
    have e14 : upd H13 a14 (HO.tup [V.int 0, V.int 1]) a14 = some (HO.tup [V.int 0, V.int 1]) := upd_same
    generalize upd H13 a14 (HO.tup [V.int 0, V.int 1]) = H14 at *
    have ep14 := s14 _ _ ep13
    refine ⟨by decide, fun a15 n15 => ?_⟩
    have q15 : a15 ≠ p := (ne_of_none ep14 n15).symm
    have s15 := new_same (o := HO.tup [V.int 2, V.int 3]) n15
    have e15 : upd H14 a15 (HO.tup [V.int 2, V.int 3]) a15 = some (HO.tup [V.int 2, V.int 3]) := upd_same
    generalize upd H14 a15 (HO.tup [V.int 2, V.int 3]) = H15 at *
    have ep15 := s15 _ _ ep14
    refine ⟨by decide, fun a16 n16 => ?_⟩
    have q16 : a16 ≠ p := (ne_of_none ep15 n16).symm
    have s16 := new_same (o := HO.tup [V.ref a14, V.ref a15]) n16
    have e16 : upd H15 a16 (HO.tup [V.ref a14, V.ref a15]) a16 = some (HO.tup [V.ref a14, V.ref a15]) := upd_same
    generalize upd H15 a16 (HO.tup [V.ref a14, V.ref a15]) = H16 at *
    have ep16 := s16 _ _ ep15
    refine ⟨by decide, fun a17 n17 => ?_⟩
    have q17 : a17 ≠ p := (ne_of_none ep16 n17).symm
    have s17 := new_same (o := HO.tup [V.int 0, V.int 1, V.int 2]) n17
    have e17 : upd H16 a17 (HO.tup [V.int 0, V.int 1, V.int 2]) a17 = some (HO.tup [V.int 0, V.int 1, V.int 2]) := upd_same
    generalize upd H16 a17 (HO.tup [V.int 0, V.int 1, V.int 2]) = H17 at *
    have ep17 := s17 _ _ ep16
    refine ⟨by decide, fun a18 n18 => ?_⟩
    have q18 : a18 ≠ p := (ne_of_none ep17 n18).symm
    have s18 := new_same (o := HO.tup [V.ref a17]) n18
    have e18 : upd H17 a18 (HO.tup [V.ref a17]) a18 = some (HO.tup [V.ref a17]) := upd_same
    generalize upd H17 a18 (HO.tup [V.ref a17]) = H18 at *
    have ep18 := s18 _ _ ep17
    refine ⟨by decide, fun a19 n19 m19 => ?_⟩
    have q19 : a19 ≠ p := (ne_of_none ep18 n19).symm
    have s19 := new_same (o := HO.lst [V.ref a3, V.ref a4, V.ref a5, V.ref a7, V.ref a9, V.ref a11, V.ref a13, V.ref a16, V.ref a18]) n19
    have e19 : upd H18 a19 (HO.lst [V.ref a3, V.ref a4, V.ref a5, V.ref a7, V.ref a9, V.ref a11, V.ref a13, V.ref a16, V.ref a18]) a19 = some (HO.lst [V.ref a3, V.ref a4, V.ref a5, V.ref a7, V.ref a9, V.ref a11, V.ref a13, V.ref a16, V.ref a18]) := upd_same
    generalize upd H18 a19 (HO.lst [V.ref a3, V.ref a4, V.ref a5, V.ref a7, V.ref a9, V.ref a11, V.ref a13, V.ref a16, V.ref a18]) = H19 at *
    have ep19 := s19 _ _ ep18
    have S19 : Same H19 H19 := Same.refl _
    have S18 := s19.trans S19
    have S17 := s18.trans S18
    have S16 := s17.trans S17
    have S15 := s16.trans S16
    have S14 := s15.trans S15
    have S13 := s14.trans S14
    have S12 := s13.trans S13
    have S11 := s12.trans S12
    have S10 := s11.trans S11
    have S9 := s10.trans S10
    have S8 := s9.trans S9
    have S7 := s8.trans S8
    have S6 := s7.trans S7
    have S5 := s6.trans S6
    have S4 := s5.trans S5
    have S3 := s4.trans S4
    have S2 := s3.trans S3
    have S1 := s2.trans S2
    have S0 := s1.trans S1
    have f1 := S1 _ _ e1
    have f2 := S2 _ _ e2
    have f3 := S3 _ _ e3
    have f4 := S4 _ _ e4
    have f5 := S5 _ _ e5
    have f6 := S6 _ _ e6
    have f7 := S7 _ _ e7
    have f8 := S8 _ _ e8
    have f9 := S9 _ _ e9
    have f10 := S10 _ _ e10
    have f11 := S11 _ _ e11
    have f12 := S12 _ _ e12
    have f13 := S13 _ _ e13
    have f14 := S14 _ _ e14
    have f15 := S15 _ _ e15
    have f16 := S16 _ _ e16
    have f17 := S17 _ _ e17
    have f18 := S18 _ _ e18
    have f19 := S19 _ _ e19
    have all : DqAll true p H19 ([V.non, V.bl true, V.bl false, V.int 0, V.int 1, V.int (-1), V.int (10 ^ Int.toNat 30), V.str "", V.str "a", V.str "and", V.str "or", V.str "A", V.str "ab", V.str "abcdefgh", V.str "abcdefghi", V.ref a1] ++ [V.ref a3, V.ref a4, V.ref a5, V.ref a7, V.ref a9, V.ref a11, V.ref a13, V.ref a16, V.ref a18]) consts := (.cons .non (.cons (.bl true) (.cons (.bl false) (.cons (.int 0) (.cons (.int 1) (.cons (.int (-1)) (.cons (.int _) (.cons (.str _) (.cons (.str _) (.cons (.str _) (.cons (.str _) (.cons (.str _) (.cons (.str _) (.cons (.str _) (.cons (.str _) (.cons (.tup f1 q1 .nil) (.cons (.lst f3 q3 (fun _ => m3) .nil) (.cons (.dc0 rfl f4 q4) (.cons (.tup f5 q5 (.cons (.int 0) (.cons (.int 1) .nil))) (.cons (.tup f7 q7 (.cons (.tup f6 q6 (.cons (.int 0) (.cons (.int 1) .nil))) .nil)) (.cons (.lst f9 q9 (fun _ => m9) (.cons (.tup f8 q8 (.cons (.int 0) (.cons (.int 1) .nil))) .nil)) (.cons (.tup f11 q11 (.cons (.tup f10 q10 (.cons (.int 1) (.cons (.int 0) .nil))) .nil)) (.cons (.tup f13 q13 (.cons (.tup f12 q12 (.cons (.int 0) (.cons (.bl true) .nil))) .nil)) (.cons (.tup f16 q16 (.cons (.tup f14 q14 (.cons (.int 0) (.cons (.int 1) .nil))) (.cons (.tup f15 q15 (.cons (.int 2) (.cons (.int 3) .nil))) .nil))) (.cons (.tup f18 q18 (.cons (.tup f17 q17 (.cons (.int 0) (.cons (.int 1) (.cons (.int 2) .nil)))) .nil)) .nil)))))))))))))))))))))))))
    have ex := all.mem
    have len25 : ([V.non] : List V).length < 2 ^ 20 := by decide
    refine ⟨a2, a19, _, _, rfl, rfl, f2, f19, by simp only [List.length_cons, List.length_nil]; decide, fun c nc => ?_⟩
    have qc : c ≠ p := (ne_of_none ep19 nc).symm
    have pc := (hp.same S0).same (new_same (o := HO.lst ([V.non, V.bl true, V.bl false, V.int 0, V.int 1, V.int (-1), V.int (10 ^ Int.toNat 30), V.str (Str.ofString ""), V.str (Str.ofString "a"), V.str (Str.ofString "and"), V.str (Str.ofString "or"), V.str (Str.ofString "A"), V.str (Str.ofString "ab"), V.str (Str.ofString "abcdefgh"), V.str (Str.ofString "abcdefghi"), V.ref a1] ++ [V.ref a3, V.ref a4, V.ref a5, V.ref a7, V.ref a9, V.ref a11, V.ref a13, V.ref a16, V.ref a18])) nc)
    refine ⟨p, c, _, m, rfl, pc, by omega, qc, upd_same, by simp, by simp, fun HA x kA pA mx => ?_⟩
    obtain ⟨d, hd, hq⟩ := ex x mx
    have z0 : Sz 60 3 d := sz_of (List.all_eq_true.mp consts_sz d hd)
    have kc := (Kp.of (p := p) (new_same (o := HO.lst ([V.non, V.bl true, V.bl false, V.int 0, V.int 1, V.int (-1), V.int (10 ^ Int.toNat 30), V.str (Str.ofString ""), V.str (Str.ofString "a"), V.str (Str.ofString "and"), V.str (Str.ofString "or"), V.str (Str.ofString "A"), V.str (Str.ofString "ab"), V.str (Str.ofString "abcdefgh"), V.str (Str.ofString "abcdefghi"), V.ref a1] ++ [V.ref a3, V.ref a4, V.ref a5, V.ref a7, V.ref a9, V.ref a11, V.ref a13, V.ref a16, V.ref a18])) nc)).trans kA
    have dA : Dq true p HA x d := Dq.keep kc _ _ hq
    have kHA : Kp p H HA := (Kp.of S0).trans kc
    clear all ex pc kc kA
    obtain ⟨yA, eA⟩ := pA.lst
    refine ⟨.ref p, rfl, by decide, fun M nM mM => ?_⟩
    refine ⟨p, M, _, _, rfl, pA.same (new_same nM), by omega, (ne_of_none eA nM).symm, upd_same, by simp, by simp, fun HB y kB pB my => ?_⟩
    obtain ⟨t, rfl, t0, t9⟩ : ∃ t : Int, y = .int t ∧ 0 ≤ t ∧ t ≤ 9 := by
      simp only [List.mem_cons, List.not_mem_nil, or_false] at my
      rcases my with rfl | rfl | rfl | rfl | rfl | rfl
      · exact ⟨0, rfl, by decide, by decide⟩
      · exact ⟨0, rfl, by decide, by decide⟩
      · exact ⟨0, rfl, by decide, by decide⟩
      · exact ⟨1, rfl, by decide, by decide⟩
      · exact ⟨2, rfl, by decide, by decide⟩
      · exact ⟨9, rfl, by decide, by decide⟩
    have kAB := (Kp.of (p := p) (new_same (o := HO.lst [V.int 0, V.int 0, V.int 0, V.int 1, V.int 2, V.int 9]) nM)).trans kB
    refine ⟨t, rfl, by omega, by omega, for_range (lo := 0) (n := t.toNat) (fun i σ H' => ∃ (v : V) (d : PyData) (u : Option V), σ = [some (.ref p), some (.ref c), some v, u] ∧ Kp p H H' ∧ Pot H' p (m + 2 + i) ∧ Dq true p H' v d ∧ Sz (2 ^ i * 100 - 20) (3 + i) d) ?_ ?_ ?_⟩
    · exact ⟨x, d, none, rfl, kHA.trans kAB, pB, Dq.keep kAB _ _ dA, z0.up (by decide) (by decide)⟩
    · rintro i σ HC hi ⟨v, d, u, rfl, kC, pC, dC, zC⟩
      walk_at "rd"
      obtain ⟨yC, g0⟩ := pC.lst
      refine ⟨by decide, fun b1 r1 => ?_⟩
      have q1 : b1 ≠ p := (ne_of_none g0 r1).symm
      have w1 := new_same (o := HO.tup [v]) r1
      have e1 : upd HC b1 (HO.tup [v]) b1 = some (HO.tup [v]) := upd_same
      generalize upd HC b1 (HO.tup [v]) = G1 at *
      have g1 := w1 _ _ g0
      refine ⟨by decide, fun b2 r2 m2 => ?_⟩
      have q2 : b2 ≠ p := (ne_of_none g1 r2).symm
      have w2 := new_same (o := HO.lst [v]) r2
      have e2 : upd G1 b2 (HO.lst [v]) b2 = some (HO.lst [v]) := upd_same
      generalize upd G1 b2 (HO.lst [v]) = G2 at *
      have g2 := w2 _ _ g1
      refine fun b3 r3 => ⟨v, rfl, upd_same, [((Sum.inr (Str.ofString "a") : Key), v)], rfl, by show 1 ≤ 15; decide, ?_⟩
      have hm : mergeK [] [((Sum.inr (Str.ofString "a") : Key), v)] = [((Sum.inr (Str.ofString "a") : Key), v)] := rfl
      rw [hm, upd_upd]
      have q3 : b3 ≠ p := (ne_of_none g2 r3).symm
      have w3 := new_same (o := HO.dK [((Sum.inr (Str.ofString "a") : Key), v)]) r3
      have e3 : upd G2 b3 (HO.dK [((Sum.inr (Str.ofString "a") : Key), v)]) b3 = some (HO.dK [((Sum.inr (Str.ofString "a") : Key), v)]) := upd_same
      generalize upd G2 b3 (HO.dK [((Sum.inr (Str.ofString "a") : Key), v)]) = G3 at *
      have g3 := w3 _ _ g2
      refine ⟨by decide, fun b4 r4 => ?_⟩
      have q4 : b4 ≠ p := (ne_of_none g3 r4).symm
      have w4 := new_same (o := HO.tup [v, v]) r4
      have e4 : upd G3 b4 (HO.tup [v, v]) b4 = some (HO.tup [v, v]) := upd_same
      generalize upd G3 b4 (HO.tup [v, v]) = G4 at *
      have g4 := w4 _ _ g3
      refine ⟨by decide, fun b5 r5 => ?_⟩
      have q5 : b5 ≠ p := (ne_of_none g4 r5).symm
      have w5 := new_same (o := HO.tup [V.int 1, v]) r5
      have e5 : upd G4 b5 (HO.tup [V.int 1, v]) b5 = some (HO.tup [V.int 1, v]) := upd_same
      generalize upd G4 b5 (HO.tup [V.int 1, v]) = G5 at *
      have g5 := w5 _ _ g4
      refine ⟨by decide, fun b6 r6 m6 => ?_⟩
      have q6 : b6 ≠ p := (ne_of_none g5 r6).symm
      have w6 := new_same (o := HO.lst [V.ref b1, V.ref b2, V.ref b3, V.ref b4, V.ref b5]) r6
      have e6 : upd G5 b6 (HO.lst [V.ref b1, V.ref b2, V.ref b3, V.ref b4, V.ref b5]) b6 = some (HO.lst [V.ref b1, V.ref b2, V.ref b3, V.ref b4, V.ref b5]) := upd_same
      generalize upd G5 b6 (HO.lst [V.ref b1, V.ref b2, V.ref b3, V.ref b4, V.ref b5]) = G6 at *
      have g6 := w6 _ _ g5
      have W6 : Same G6 G6 := Same.refl _
      have W5 := w6.trans W6
      have W4 := w5.trans W5
      have W3 := w4.trans W4
      have W2 := w3.trans W3
      have W1 := w2.trans W2
      have W0 := w1.trans W1
      have f1 := W1 _ _ e1
      have f2 := W2 _ _ e2
      have f3 := W3 _ _ e3
      have f4 := W4 _ _ e4
      have f5 := W5 _ _ e5
      have f6 := W6 _ _ e6
      have dF := dC.same W0
      refine ⟨p, b6, _, _, rfl, pC.same W0, by omega, q6, f6, by simp, by simp, fun HD x2 kD pD mx2 => ?_⟩
      have pw : 2 ^ (i + 1) = 2 * 2 ^ i := by rw [Nat.pow_succ, Nat.mul_comm]
      have p1 : 1 ≤ 2 ^ i := Nat.one_le_two_pow
      have z1 : Sz (2 ^ i * 100 - 20) (3 + i) (.int 1) := (sz_of (n := 60) (k := 3) (by decide +kernel)).up (by omega) (by omega)
      have pick : ∃ d2, Dq true p G6 x2 d2 ∧ Sz (2 ^ (i + 1) * 100 - 20) (3 + (i + 1)) d2 := by
        simp only [List.mem_cons, List.not_mem_nil, or_false] at mx2
        rcases mx2 with rfl | rfl | rfl | rfl | rfl
        · exact ⟨_, .tup f1 q1 (.cons dF .nil), (Sz.tuple (fun e he => by rw [List.mem_singleton.mp he]; exact zC)).up (by simp only [List.length_cons, List.length_nil]; omega) (by omega)⟩
        · exact ⟨_, .lst f2 q2 (fun _ => m2) (.cons dF .nil), (Sz.list (fun e he => by rw [List.mem_singleton.mp he]; exact zC)).up (by simp only [List.length_cons, List.length_nil]; omega) (by omega)⟩
        · exact ⟨_, .dc1 rfl f3 q3 dF, (Sz.dict zC (by decide +kernel)).up (by omega) (by omega)⟩
        · exact ⟨_, .tup f4 q4 (.cons dF (.cons dF .nil)), (Sz.tuple (fun e he => by rcases List.mem_cons.mp he with rfl | he; exact zC; rw [List.mem_singleton.mp he]; exact zC)).up (by simp only [List.length_cons, List.length_nil]; omega) (by omega)⟩
        · exact ⟨_, .tup f5 q5 (.cons (.int 1) (.cons dF .nil)), (Sz.tuple (fun e he => by rcases List.mem_cons.mp he with rfl | he; exact z1; rw [List.mem_singleton.mp he]; exact zC)).up (by simp only [List.length_cons, List.length_nil]; omega) (by omega)⟩
      obtain ⟨d2, dq2, sz2⟩ := pick
      exact ⟨kC.trans ((Kp.of W0).trans kD), pD.up (by omega), d2, Dq.keep kD _ _ dq2, sz2⟩
    · rintro σ HC ⟨v, d, u, rfl, kC, pC, dC, zC⟩
      walk_at "rd"
      have e9 : 2 ^ t.toNat ≤ 2 ^ 9 := Nat.pow_le_pow_right (by decide) (by omega)
      exact q _ _ d kC (pC.up (by omega)) dC (zC.up (by omega) (by omega))
end
end Pf

set_option Elab.async false
set_option linter.all false
set_option maxRecDepth 100000
/-! The law. -/
namespace Pf
open PySem PySem.Spec PyProof.Rows L2
local macro_rules | `(tactic| walk_at "rd") => `(tactic| simp only [tC1, tCK, tB, rNe, rEq, tChain, gTupV, gCons, gNil, Nat.sub_self, Nat.reduceSub, List.replicate_zero, List.replicate_succ, tTest, tIfS, tIf, tNot, tAnd, tOr, tAndV, tOrV, tNotV, tDrop, tNext, rIxV, rIxP,
  gSub, rSetL, tSl, tPart, tNoPart, rSl1, tDNewK, tBM, rAppend, wipe, rAllB, rAnyB, iTup, iList, RZ.iZipA, iRng1, iRng2, tYes, upd_same, at0, at1, at2, at20, at21, ixN30, ixN32, HO.lst.injEq, HO.tup.injEq, Nat.reduceAdd, tSeq, tAsg, tPar, tAug, tOp, tVar, tC, tCB, tCons, tNil, rI, rI0, rU, tUn, gName, tRet, tLst, tLstM, tTup, L2.start, List.map_cons, List.map_nil, List.length_cons, List.length_nil, List.replicate, List.cons_append,
  List.nil_append, List.set_cons_zero, List.set_cons_succ, List.getElem?_cons_zero, List.getElem?_cons_succ, Option.some.injEq, V.int.injEq, V.ref.injEq, V.bl.injEq, V.str.injEq, List.cons.injEq, exists_eq_left', exists_eq_left, exists_and_left, exists_and_right, and_true, true_and, reduceCtorEq, false_and,
  exists_false, or_false, false_or, exists_const, exists_eq, exists_eq', Bool.not_true, Bool.not_false, Bool.false_eq_true, if_true, if_false, ite_true, ite_false])
abbrev s__law_thing : Stmt := topS 15
theorem sc__law_thing : FnScope ["_law_pot_here", "_law_far", "_law_spans_here", "_law_way", "_law_at", "_law_wrong"] ["_law_pot_here"] (defScope s__law_thing) := ⟨rfl, rfl, rfl, by decide +kernel, rfl, by decide +kernel, by decide +kernel⟩
abbrev s__law_right : Stmt := topS 16
theorem sc__law_right : FnScope ["_law_pot_here", "_law_turn", "_law_thing_here", "_law_kept", "_law_due", "_law_numbers", "_law_low", "_law_high", "_law_figure", "_law_told"] ["_law_pot_here"] (defScope s__law_right) := ⟨rfl, rfl, rfl, by decide +kernel, rfl, by decide +kernel, by decide +kernel⟩
abbrev s_law : Stmt := topS 17
theorem sc_law : FnScope ["_law_script", "_law_k"] ["_law_script"] (defScope s_law) := ⟨rfl, rfl, rfl, by decide +kernel, rfl, by decide +kernel, by decide +kernel⟩
theorem iteY {a b : Int} {A B : Prop} (h : a = b) (x : A) : if decide (V.int a = V.int b) = true then A else B := by
  rw [if_pos (decide_eq_true (by rw [h]))]
  exact x
theorem iteN {a b : Int} {A B : Prop} (h : a ≠ b) (x : B) : if decide (V.int a = V.int b) = true then A else B := by
  rw [if_neg (fun z => h (V.int.inj (of_decide_eq_true z)))]
  exact x
def Near (q : Int × Int) : Prop := q.1.natAbs < 10 ^ 40 ∧ q.2.natAbs < 10 ^ 40
theorem Far.near {q : Int × Int} (h : Far q) : Near q := by
  have e : (2 : Int) ^ 120 < 10 ^ 39 := by decide +kernel
  obtain ⟨h1, h2, h3, h4⟩ := h
  unfold Near
  omega
theorem Far.near2 {q : Int × Int} (h : Far q) {u w : Int} (hu : 0 ≤ u ∧ u ≤ 10) (hw : 0 ≤ w ∧ w ≤ 10) : Near (q.2 + u, q.2 + w) := by
  have e : (2 : Int) ^ 120 < 10 ^ 39 := by decide +kernel
  obtain ⟨h1, h2, h3, h4⟩ := h
  have g1 : (q.2 + u).natAbs < 10 ^ 40 := by omega
  have g2 : (q.2 + w).natAbs < 10 ^ 40 := by omega
  exact ⟨g1, g2⟩
theorem PrAll.get {H : Hp} : ∀ {xs : List V} {ps : List (Int × Int)} {i : Nat} {v : V}, PrAll H xs ps → xs[i]? = some v → ∃ q, q ∈ ps ∧ PrAt H v q
  | _, _, _, _, .nil, h => by simp at h
  | _, _, 0, _, .cons h1 _, h => by
    simp at h
    rw [← h]
    exact ⟨_, List.mem_cons_self, h1⟩
  | _, _, i + 1, _, .cons _ h2, h => by
    obtain ⟨q, m, k⟩ := PrAll.get (i := i) h2 (by simpa using h)
    exact ⟨q, List.mem_cons_of_mem _ m, k⟩
theorem PrAll.last {H : Hp} {xs : List V} {ps : List (Int × Int)} (h : PrAll H xs ps) (n : xs ≠ []) : ∃ t q, atI xs (-1) = some (.ref t) ∧ H t = some (.tup [.int q.1, .int q.2]) ∧ q ∈ ps := by
  have pos := List.length_pos_iff.mpr n
  have e : xs[xs.length - 1]? = some (xs[xs.length - 1]'(by omega)) := List.getElem?_eq_getElem (by omega)
  obtain ⟨q, m, t, e1, e2⟩ := h.get e
  refine ⟨t, q, ?_, e2, m⟩
  have ea : atI xs (-1) = xs[xs.length - 1]? := by
    unfold atI ixN
    rw [if_neg (by decide), if_pos (by omega)]
    show xs[((-1 : Int) + xs.length).toNat]? = _
    congr 1
    omega
  rw [ea, e, e1]
theorem PrAll.drop {H : Hp} : ∀ {xs : List V} {ps : List (Int × Int)} (n : Nat), PrAll H xs ps → PrAll H (xs.drop n) (ps.drop n)
  | _, _, 0, h => h
  | _, _, _ + 1, .nil => .nil
  | _, _, n + 1, .cons _ t => PrAll.drop n t
theorem PrAll.take {H : Hp} : ∀ {xs : List V} {ps : List (Int × Int)} (n : Nat), PrAll H xs ps → PrAll H (xs.take n) (ps.take n)
  | _, _, 0, _ => .nil
  | _, _, _ + 1, .nil => .nil
  | _, _, n + 1, .cons h t => .cons h (PrAll.take n t)
theorem PrAll.cut {H : Hp} {xs : List V} {ps : List (Int × Int)} (h : PrAll H xs ps) (lo hi : Option Int) : ∃ rs, PrAll H (cutV xs lo hi) rs ∧ rs.length ≤ ps.length ∧ ∀ q ∈ rs, q ∈ ps := by
  unfold cutV
  refine ⟨_, (h.drop _).take _, ?_, fun q hq => List.mem_of_mem_drop (List.mem_of_mem_take hq)⟩
  rw [List.length_take, List.length_drop]
  omega
theorem DqAll.append {b : Bool} {p : Addr} {H : Hp} : ∀ {xs ys : List V} {ds es : List PyData}, DqAll b p H xs ds → DqAll b p H ys es → DqAll b p H (xs ++ ys) (ds ++ es)
  | _, _, _, _, .nil, k => k
  | _, _, _, _, .cons h t, k => .cons h (DqAll.append t k)
theorem int_sz {i : Int} (h : i.natAbs < 10 ^ 40) : Sz 41 0 (.int i) := by
  have e := int_text_length_le10 (k := 40) (by decide) h
  have lg : i.natAbs.log2 < 1920 := by
    by_cases z : i.natAbs = 0
    · rw [z]
      decide
    · exact (Nat.log2_lt z).mpr (Nat.lt_of_lt_of_le h (by decide +kernel))
  refine ⟨by simp only [PyData.showable]; exact decide_eq_true lg, ?_, by simp only [PyData.depth]; omega, rfl⟩
  simp only [PyData.shown]
  rw [PySem.ofString_length]
  exact e
theorem pr_sz {q : Int × Int} (h : Near q) : Sz 100 1 (prD q) := by
  refine (Sz.tuple (n := 41) (k := 0) fun e he => ?_).up (by simp only [List.length_cons, List.length_nil]; omega) (by omega)
  rcases List.mem_cons.mp he with e1 | he
  · rw [e1]
    exact int_sz h.1
  · rw [List.mem_singleton.mp he]
    exact int_sz h.2
theorem prs_sz {ps : List (Int × Int)} (h : ∀ q ∈ ps, Near q) : ∀ d ∈ ps.map prD, Sz 100 1 d := fun d hd => by
  obtain ⟨q, hq, e⟩ := List.mem_map.mp hd
  rw [← e]
  exact pr_sz (h q hq)
theorem PrAll.dp {K : PySem.W.Frag} {H : Hp} : ∀ {xs : List V} {ps : List (Int × Int)}, PrAll H xs ps → DpAll K H xs (ps.map prD)
  | _, _, .nil => .nil
  | _, _, .cons ⟨t, e1, e2⟩ r => by
    subst e1
    exact .cons (.tup (SqT.of e2) (.cons (.int _) (.cons (.int _) .nil))) (PrAll.dp r)
theorem PrAll.rev {H : Hp} : ∀ {xs : List V} {ps : List (Int × Int)}, PrAll H xs ps → PrAll H xs.reverse ps.reverse
  | _, _, .nil => .nil
  | _, _, .cons h r => by
    rw [List.reverse_cons, List.reverse_cons]
    exact (PrAll.rev r).snoc h
theorem prs_lay : ∀ ps : List (Int × Int), PyData.canLayAll0 (ps.map prD) = true ∧ PyData.depthAll (ps.map prD) ≤ 1
  | [] => ⟨rfl, Nat.zero_le _⟩
  | q :: ps => by
    obtain ⟨h1, h2⟩ := prs_lay ps
    have e : PyData.canLay0 (prD q) = true := rfl
    have e2 : PyData.depth (prD q) = 1 := rfl
    refine ⟨?_, ?_⟩
    · simp only [List.map_cons, PyData.canLayAll0, e, h1, Bool.and_self]
    · simp only [List.map_cons, PyData.depthAll, e2]
      omega
theorem shaped_prs (ps : List (Int × Int)) : SeqAt.shaped (.list (ps.map prD)) = true := by
  obtain ⟨h1, h2⟩ := prs_lay ps
  unfold SeqAt.shaped
  have e1 : PyData.canLay0 (.list (ps.map prD)) = true := by simp only [PyData.canLay0]; exact h1
  have e2 : PyData.depth (.list (ps.map prD)) ≤ 64 := by simp only [PyData.depth]; omega
  rw [e1, decide_eq_true e2]
  rfl
section
variable {base : Heap} {P : Program} {w : World} {mg : Str → Option Value} {K : PySem.W.Frag}
def sp_thing : Sp := fun vs H Q _ => ∃ (p : Addr) (m : Nat), vs = [.ref p] ∧ Pot H p m ∧ m + 300 < 1000000 ∧ ∀ (H' : Hp) (v : V) (d : PyData) (b : Bool), Kp p H H' → Pot H' p (m + 100) → Dq b p H' v d → Sz 60000 20 d → Q v H'
theorem ok_thing {f : Addr} {fd : FuncData} (F : Fun K "_law_thing" "_law_thing" s__law_thing f fd) (T : Txt mg) (C__law_any : Cal P w K mg base 2 "_law_any" sp_any) (C__law_draw : Cal P w K mg base 1 "_law_draw" sp_draw)
    (C__law_spans : Cal P w K mg base 3 "_law_spans" sp_spans) (C__law_odd : Cal P w K mg base 3 "_law_odd" sp_odd) : FnG P w K mg base 4 f fd ["_law_pot_here"] sp_thing := by
  refine okG F sc__law_thing (fun vs H Q E h => ?_) (fun cdv A outer s H vs Q E hg hr h => ?_)
  · obtain ⟨p, m, rfl, _⟩ := h
    rfl
  · obtain ⟨p, m, rfl, hp, hm, q⟩ := h
    replace hr := And.intro hg hr
    refine ⟨_, (pss_cons (ps_set (i := 1) sc__law_thing.nd rfl (Or.inl rfl) (pe_c C__law_any hr (by decide) (by rfl) (pa_cons (pv 0) (pa_cons (pe_lst (pa_cons pe_int (pa_cons pe_int (pa_cons (pe_op op_powW pe_int pe_int) pa_nil)))) pa_nil))))
        (pss_cons (ps_par (i := 2) (j := 3) (by rfl) sc__law_thing.nd rfl rfl (by decide) rfl rfl (pa_cons (pe_callTy call_listT (by rfl) T.b_list (by decide +kernel) (pa_cons (pe_c C__law_spans hr (by decide) (by rfl) (pa_cons (pv 0) (pa_cons pe_int (pa_cons (pe_op op_sub pe_int (pv 1)) (pa_cons (pv 1) pa_nil))))) pa_nil)) (pa_cons (pe_c C__law_draw hr (by decide) (by rfl) (pa_cons (pv 0) (pa_cons pe_int pa_nil))) pa_nil)) (by rfl))
        (pss_cons (ps_set (i := 4) sc__law_thing.nd rfl (Or.inl rfl) (pe_c C__law_draw hr (by decide) (by rfl) (pa_cons (pv 0) (pa_cons (pe_op op_add (pe_callB call_lenL (by rfl) T.b_len (by decide +kernel) (pa_cons (pv 2) pa_nil)) pe_int) pa_nil))))
        (pss_cons (ps_if (pt_cmpR op_eq (pv 3) pe_int (nomark _)) (pss_one (ps_ret (pe_c C__law_odd hr (by decide) (by rfl) (pa_cons (pv 0) pa_nil)))) pss_nil)
        (pss_cons (ps_if (PW.pt (pw_and (pt_cmpR op_eq (pv 3) pe_int (nomark _)) (pw_and1 (pt_cmpR (op_neD hr.2.units) (pv 2) (pe_lst pa_nil) (nomark _))))) (pss_one (ps_ret (pe_callTy call_tupleL (by rfl) T.b_tuple (by decide +kernel) (pa_cons (pe_op op_cat (pv 2) (pe_lst (pa_cons (pe_tup (pa_cons (pe_op op_add (pe_ix ix_t (pe_ix ix_v (pv 2) (pe_un un_neg pe_int) (fun _ _ => rfl)) pe_int (fun _ _ => rfl)) (pe_c C__law_draw hr (by decide) (by rfl) (pa_cons (pv 0) (pa_cons pe_int pa_nil)))) (pa_cons (pe_op op_add (pe_ix ix_t (pe_ix ix_v (pv 2) (pe_un un_neg pe_int) (fun _ _ => rfl)) pe_int (fun _ _ => rfl)) pe_int) pa_nil))) pa_nil))) pa_nil)))) pss_nil)
        (pss_cons (ps_if (pt_cmpR op_eq (pv 3) pe_int (nomark _)) (pss_one (ps_ret (pe_callTy call_tupleL (by rfl) T.b_tuple (by decide +kernel) (pa_cons (pe_revL (pv 2)) pa_nil)))) pss_nil)
        (pss_cons (ps_if (pt_cmpR op_eq (pv 3) pe_int (nomark _)) (pss_one (ps_ret (pv 2))) pss_nil)
        (pss_cons (ps_if (pt_cmpR op_eq (pv 3) pe_int (nomark _)) (pss_cons (ps_set (i := 5) sc__law_thing.nd rfl (Or.inl rfl) (pe_lst (pa_cons (pe_tup (pa_cons pe_int (pa_cons pe_int pa_nil))) (pa_cons (pe_lst (pa_cons pe_int (pa_cons pe_int pa_nil))) (pa_cons (pe_tup (pa_cons pe_int pa_nil)) (pa_cons (pe_tup (pa_cons pe_int (pa_cons pe_int (pa_cons pe_int pa_nil)))) (pa_cons (pe_tup (pa_cons pe_bl (pa_cons pe_int pa_nil))) (pa_cons (pe_tup (pa_cons pe_int (pa_cons pe_non pa_nil))) (pa_cons pe_str (pa_cons pe_int (pa_cons (pe_tup (pa_cons pe_int (pa_cons pe_str pa_nil))) (pa_cons (pe_tup (pa_cons (pe_tup (pa_cons pe_int (pa_cons pe_int pa_nil))) pa_nil)) pa_nil))))))))))))
        (pss_one (ps_ret (pe_callTy call_tupleL (by rfl) T.b_tuple (by decide +kernel) (pa_cons (pe_op op_cat (pe_op op_cat (pe_slice sl_list (pv 2) po_none (po_some (pv 4))) (pe_lst (pa_cons (pe_c C__law_any hr (by decide) (by rfl) (pa_cons (pv 0) (pa_cons (pv 5) pa_nil))) pa_nil))) (pe_slice sl_list (pv 2) (po_some (pv 4)) po_none)) pa_nil))))) pss_nil)
        (pss_one (ps_ret (pe_callTy call_tupleL (by rfl) T.b_tuple (by decide +kernel) (pa_cons (pv 2) pa_nil)))))))))))), ?_⟩
    walk_at "rd"
    obtain ⟨ys0, e0⟩ := hp.lst
    refine ⟨by decide +kernel, by decide, fun M nM => ?_⟩
    refine ⟨p, M, _, m, rfl, hp.same (new_same nM), by omega, (ne_of_none e0 nM).symm, upd_same, by simp, by simp, fun H1 x k1 p1 mx => ?_⟩
    obtain ⟨far, rfl, f0, f1⟩ : ∃ far : Int, x = .int far ∧ 0 ≤ far ∧ far ≤ 10 ^ Int.toNat 30 := by
      simp only [List.mem_cons, List.not_mem_nil, or_false] at mx
      rcases mx with rfl | rfl | rfl
      · exact ⟨20, rfl, by decide, by decide +kernel⟩
      · exact ⟨9999, rfl, by decide, by decide +kernel⟩
      · exact ⟨_, rfl, by decide +kernel, Int.le_refl _⟩
    have big30 : (10 : Int) ^ Int.toNat 30 < 2 ^ 110 := by decide +kernel
    have k01 : Kp p H H1 := (Kp.of (new_same nM)).trans k1
    refine ⟨far, rfl, p, 5, 0 - far, far, m + 1, rfl, p1, by omega, by decide, by omega, by omega, by omega, fun H2 t xs ps k2 p2 ht hps l5 fr => ?_⟩
    walk_at "rd"
    simp only [ht, Option.some.injEq, HO.tup.injEq, exists_eq_left']
    intro l nl
    have k02 := k01.trans k2
    obtain ⟨ys2, e2⟩ := p2.lst
    have nlp : l ≠ p := (ne_of_none e2 nl).symm
    have sl := new_same (o := HO.lst xs) nl
    have el : upd H2 l (HO.lst xs) l = some (.lst xs) := upd_same
    generalize upd H2 l (HO.lst xs) = H3 at *
    refine ⟨p, 9, _, rfl, p2.same sl, by omega, by decide, by decide, fun H4 way k4 p4 w0 w9 => ⟨_, _, ⟨rfl, rfl⟩, ?_⟩⟩
    have l4 := k4 _ _ nlp el
    have pr4 : PrAll H4 xs ps := hps.tk ((TK.of sl).trans (TK.kp k4 (sl _ _ e2)))
    have k04 : Kp p H H4 := k02.trans ((Kp.of sl).trans k4)
    refine ⟨l, rfl, xs, l4, ?_⟩
    have xl := pr4.len
    refine ⟨p, _, _, rfl, p4, by omega, by omega, by omega, fun H5 at_ k5 p5 a0 a1 => ?_⟩
    have l5' := k5 _ _ nlp l4
    obtain ⟨ys5, e5⟩ := p5.lst
    obtain ⟨ys4, e4⟩ := p4.lst
    have pr5 : PrAll H5 xs ps := pr4.tk (TK.kp k5 e4)
    have k05 : Kp p H H5 := k04.trans k5
    clear k4 k5 pr4 l4 p4 k04 e4 sl el k02 k01
    have done : ∀ (H6 : Hp) (t : Addr) (zs : List V) (rs : List (Int × Int)), Kp p H5 H6 → Pot H6 p (m + 90) → H6 t = some (.tup zs) → PrAll H6 zs rs → rs.length ≤ 20 → (∀ q ∈ rs, Near q) → Q (.ref t) H6 := by
      intro H6 t zs rs k6 p6 ht6 pr6 hl6 nr6
      obtain ⟨y6, e6⟩ := p6.lst
      exact q H6 (.ref t) (.tuple (rs.map prD)) false (k05.trans k6) (p6.up (by omega)) (.tup ht6 (fun z => by rw [z, e6] at ht6; cases ht6) (PrAll.dq e6 pr6)) ((Sz.tuple (prs_sz nr6) (by rw [List.length_map]; omega)).up (by rw [List.length_map]; omega) (by omega))
    have c : way = 0 ∨ way = 1 ∨ way = 2 ∨ way = 3 ∨ way = 4 ∨ (4 < way) := by omega
    rcases c with rfl | rfl | rfl | rfl | rfl | w5
    · exact ⟨rfl, iteY rfl ⟨p, _, rfl, p5, by omega, fun H6 v d k6 p6 dq sz => q H6 v d true (k05.trans k6) (p6.up (by omega)) dq sz⟩⟩
    · refine ⟨rfl, iteN (by decide) ⟨rfl, iteY rfl ⟨by decide, fun B nB => ?_⟩⟩⟩
      have sB := new_same (o := HO.lst []) nB
      refine ⟨.list (ps.map prD), .list [], .lst (SqL.of (sB _ _ l5')) (PrAll.dp (pr5.tk (TK.of sB))), .lst (SqL.of upd_same) .nil, shaped_prs ps, by decide +kernel, _, rfl, ?_⟩
      have p6 := p5.same sB
      have e6 := sB _ _ e5
      have l6 := sB _ _ l5'
      have pr6 := pr5.tk (TK.of sB)
      cases pr5 with
      | nil =>
        refine iteF ?_
        refine ⟨rfl, iteN (by decide) ⟨rfl, iteN (by decide) ⟨rfl, iteN (by decide) ⟨l, rfl, _, l6, fun t nt => ?_⟩⟩⟩⟩
        exact done _ t [] [] ((Kp.of sB).trans (Kp.of (new_same nt))) ((p6.same (new_same nt)).up (by omega)) upd_same .nil (by simp) (fun _ z => (List.not_mem_nil z).elim)
      | @cons v0 q0 vs0 qs0 h1 h2 =>
        refine iteT ?_
        obtain ⟨tl, qq, at1_, htl, hqm⟩ := pr6.last (List.cons_ne_nil _ _)
        refine ⟨l, rfl, _, l6, _, at1_, tl, rfl, _, htl, _, at21, p, _, _, rfl, p6, by omega, by decide, by decide, fun H7 u k7 p7 u0 u1 => ?_⟩
        have l7 := k7 _ _ nlp l6
        have tk7 := TK.kp k7 e6
        refine ⟨_, rfl, u, rfl, l, rfl, _, l7, _, at1_, tl, rfl, _, tk7 _ _ htl, _, at21, _, rfl, by decide, fun T nT => ⟨by decide, fun L nL => ?_⟩⟩
        have sT := new_same (o := HO.tup [V.int (qq.2 + u), V.int (qq.2 + 4)]) nT
        have sL := new_same (o := HO.lst [V.ref T]) nL
        have xlen := pr6.len
        refine ⟨l, L, _, _, rfl, rfl, sL _ _ (sT _ _ l7), upd_same, by simp only [List.length_cons, List.length_nil] at xlen l5 ⊢; exact Nat.le_trans (show _ ≤ 20 by omega) (by decide), fun C nC => ⟨C, rfl, _, upd_same, fun t2 nt2 => ?_⟩⟩
        have sC := new_same (o := HO.lst ((v0 :: vs0) ++ [V.ref T])) nC
        have st := new_same (o := HO.tup ((v0 :: vs0) ++ [V.ref T])) nt2
        refine done _ t2 _ (_ ++ [(qq.2 + u, qq.2 + 4)]) ((Kp.of sB).trans (k7.trans (Kp.of (sT.trans (sL.trans (sC.trans st)))))) ((p7.same (sT.trans (sL.trans (sC.trans st)))).up (by omega)) upd_same ((pr6.tk (tk7.trans (TK.of (sT.trans (sL.trans (sC.trans st)))))).snoc ⟨T, rfl, st _ _ (sC _ _ (sL _ _ upd_same))⟩) (by rw [List.length_append]; simp only [List.length_cons, List.length_nil] at l5 ⊢; omega) (fun q hq => ?_)
        rcases List.mem_append.mp hq with hq | hq
        · exact (fr q hq).near
        · rw [List.mem_singleton.mp hq]
          exact (fr qq hqm).near2 (by omega) (by omega)
    · refine ⟨rfl, iteN (by decide) ⟨rfl, iteN (by decide) ⟨rfl, iteY rfl ⟨.ref l, rfl, l, xs, rfl, SqL.of l5', fun R nR => ⟨R, rfl, _, upd_same, fun t nt => ?_⟩⟩⟩⟩⟩
      exact done _ t _ ps.reverse ((Kp.of (new_same nR)).trans (Kp.of (new_same nt))) (((p5.same (new_same nR)).same (new_same nt)).up (by omega)) upd_same ((pr5.tk ((TK.of (new_same nR)).trans (TK.of (new_same nt)))).rev) (by rw [List.length_reverse]; omega) (fun q hq => (fr q (List.mem_reverse.mp hq)).near)
    · refine ⟨rfl, iteN (by decide) ⟨rfl, iteN (by decide) ⟨rfl, iteN (by decide) ⟨rfl, iteY rfl ?_⟩⟩⟩⟩
      exact q H5 (.ref l) (.list (ps.map prD)) false k05 (p5.up (by omega)) (.lst l5' nlp (fun z => nomatch z) (PrAll.dq e5 pr5)) ((Sz.list (prs_sz fun q hq => (fr q hq).near)).up (by rw [List.length_map]; omega) (by omega))
    · refine ⟨rfl, iteN (by decide) ⟨rfl, iteN (by decide) ⟨rfl, iteN (by decide) ⟨rfl, iteN (by decide) ⟨rfl, iteY rfl ?_⟩⟩⟩⟩⟩
      refine ⟨by decide, fun b1 r1 => ?_⟩
      have q1 : b1 ≠ p := (ne_of_none e5 r1).symm
      have w1 := new_same (o := HO.tup [V.int 5, V.int 4]) r1
      have z1 : upd H5 b1 (HO.tup [V.int 5, V.int 4]) b1 = some (HO.tup [V.int 5, V.int 4]) := upd_same
      generalize upd H5 b1 (HO.tup [V.int 5, V.int 4]) = G1 at *
      have g1 := w1 _ _ e5
      refine ⟨by decide, fun b2 r2 => ?_⟩
      have q2 : b2 ≠ p := (ne_of_none g1 r2).symm
      have w2 := new_same (o := HO.lst [V.int 0, V.int 1]) r2
      have z2 : upd G1 b2 (HO.lst [V.int 0, V.int 1]) b2 = some (HO.lst [V.int 0, V.int 1]) := upd_same
      generalize upd G1 b2 (HO.lst [V.int 0, V.int 1]) = G2 at *
      have g2 := w2 _ _ g1
      refine ⟨by decide, fun b3 r3 => ?_⟩
      have q3 : b3 ≠ p := (ne_of_none g2 r3).symm
      have w3 := new_same (o := HO.tup [V.int 0]) r3
      have z3 : upd G2 b3 (HO.tup [V.int 0]) b3 = some (HO.tup [V.int 0]) := upd_same
      generalize upd G2 b3 (HO.tup [V.int 0]) = G3 at *
      have g3 := w3 _ _ g2
      refine ⟨by decide, fun b4 r4 => ?_⟩
      have q4 : b4 ≠ p := (ne_of_none g3 r4).symm
      have w4 := new_same (o := HO.tup [V.int 0, V.int 1, V.int 2]) r4
      have z4 : upd G3 b4 (HO.tup [V.int 0, V.int 1, V.int 2]) b4 = some (HO.tup [V.int 0, V.int 1, V.int 2]) := upd_same
      generalize upd G3 b4 (HO.tup [V.int 0, V.int 1, V.int 2]) = G4 at *
      have g4 := w4 _ _ g3
      refine ⟨by decide, fun b5 r5 => ?_⟩
      have q5 : b5 ≠ p := (ne_of_none g4 r5).symm
      have w5 := new_same (o := HO.tup [V.bl false, V.int 1]) r5
      have z5 : upd G4 b5 (HO.tup [V.bl false, V.int 1]) b5 = some (HO.tup [V.bl false, V.int 1]) := upd_same
      generalize upd G4 b5 (HO.tup [V.bl false, V.int 1]) = G5 at *
      have g5 := w5 _ _ g4
      refine ⟨by decide, fun b6 r6 => ?_⟩
      have q6 : b6 ≠ p := (ne_of_none g5 r6).symm
      have w6 := new_same (o := HO.tup [V.int 0, V.non]) r6
      have z6 : upd G5 b6 (HO.tup [V.int 0, V.non]) b6 = some (HO.tup [V.int 0, V.non]) := upd_same
      generalize upd G5 b6 (HO.tup [V.int 0, V.non]) = G6 at *
      have g6 := w6 _ _ g5
      refine ⟨by decide, fun b7 r7 => ?_⟩
      have q7 : b7 ≠ p := (ne_of_none g6 r7).symm
      have w7 := new_same (o := HO.tup [V.int 0, V.str (Str.ofString "1")]) r7
      have z7 : upd G6 b7 (HO.tup [V.int 0, V.str (Str.ofString "1")]) b7 = some (HO.tup [V.int 0, V.str (Str.ofString "1")]) := upd_same
      generalize upd G6 b7 (HO.tup [V.int 0, V.str (Str.ofString "1")]) = G7 at *
      have g7 := w7 _ _ g6
      refine ⟨by decide, fun b8 r8 => ?_⟩
      have q8 : b8 ≠ p := (ne_of_none g7 r8).symm
      have w8 := new_same (o := HO.tup [V.int 0, V.int 1]) r8
      have z8 : upd G7 b8 (HO.tup [V.int 0, V.int 1]) b8 = some (HO.tup [V.int 0, V.int 1]) := upd_same
      generalize upd G7 b8 (HO.tup [V.int 0, V.int 1]) = G8 at *
      have g8 := w8 _ _ g7
      refine ⟨by decide, fun b9 r9 => ?_⟩
      have q9 : b9 ≠ p := (ne_of_none g8 r9).symm
      have w9 := new_same (o := HO.tup [V.ref b8]) r9
      have z9 : upd G8 b9 (HO.tup [V.ref b8]) b9 = some (HO.tup [V.ref b8]) := upd_same
      generalize upd G8 b9 (HO.tup [V.ref b8]) = G9 at *
      have g9 := w9 _ _ g8
      refine ⟨by decide, fun b10 r10 => ?_⟩
      have q10 : b10 ≠ p := (ne_of_none g9 r10).symm
      have w10 := new_same (o := HO.lst [V.ref b1, V.ref b2, V.ref b3, V.ref b4, V.ref b5, V.ref b6, V.str (Str.ofString "01"), V.int 7, V.ref b7, V.ref b9]) r10
      have z10 : upd G9 b10 (HO.lst [V.ref b1, V.ref b2, V.ref b3, V.ref b4, V.ref b5, V.ref b6, V.str (Str.ofString "01"), V.int 7, V.ref b7, V.ref b9]) b10 = some (HO.lst [V.ref b1, V.ref b2, V.ref b3, V.ref b4, V.ref b5, V.ref b6, V.str (Str.ofString "01"), V.int 7, V.ref b7, V.ref b9]) := upd_same
      generalize upd G9 b10 (HO.lst [V.ref b1, V.ref b2, V.ref b3, V.ref b4, V.ref b5, V.ref b6, V.str (Str.ofString "01"), V.int 7, V.ref b7, V.ref b9]) = G10 at *
      have g10 := w10 _ _ g9
      have W10 : Same G10 G10 := Same.refl _
      have W9 := w10.trans W10
      have W8 := w9.trans W9
      have W7 := w8.trans W8
      have W6 := w7.trans W7
      have W5 := w6.trans W6
      have W4 := w5.trans W5
      have W3 := w4.trans W4
      have W2 := w3.trans W3
      have W1 := w2.trans W2
      have W0 := w1.trans W1
      have y1 := W1 _ _ z1
      have y2 := W2 _ _ z2
      have y3 := W3 _ _ z3
      have y4 := W4 _ _ z4
      have y5 := W5 _ _ z5
      have y6 := W6 _ _ z6
      have y7 := W7 _ _ z7
      have y8 := W8 _ _ z8
      have y9 := W9 _ _ z9
      have y10 := W10 _ _ z10
      refine ⟨at_, rfl, l, xs, rfl, SqL.of (W0 _ _ l5'), fun S1 nS1 => ?_⟩
      have sS1 := new_same (o := HO.lst (cutV xs none (some at_))) nS1
      have f1 : upd G10 S1 (HO.lst (cutV xs none (some at_))) S1 = some (HO.lst (cutV xs none (some at_))) := upd_same
      generalize upd G10 S1 (HO.lst (cutV xs none (some at_))) = G11 at *
      have qS1 : S1 ≠ p := (ne_of_none g10 nS1).symm
      refine ⟨p, b10, _, _, rfl, (p5.same W0).same sS1, by omega, q10, sS1 _ _ y10, by simp, by simp, fun G12 x k12 p12 mx => ⟨by decide, fun S2 nS2 => ?_⟩⟩
      have pick : ∃ d, Dq false p G10 x d ∧ Sz 60 3 d := by
        simp only [List.mem_cons, List.not_mem_nil, or_false] at mx
        rcases mx with rfl | rfl | rfl | rfl | rfl | rfl | rfl | rfl | rfl | rfl
        · exact ⟨.tuple [.int 5, .int 4], .tup y1 q1 (.cons (.int 5) (.cons (.int 4) .nil)), sz_of (by decide +kernel)⟩
        · exact ⟨.list [.int 0, .int 1], .lst y2 q2 (fun z => nomatch z) (.cons (.int 0) (.cons (.int 1) .nil)), sz_of (by decide +kernel)⟩
        · exact ⟨.tuple [.int 0], .tup y3 q3 (.cons (.int 0) .nil), sz_of (by decide +kernel)⟩
        · exact ⟨.tuple [.int 0, .int 1, .int 2], .tup y4 q4 (.cons (.int 0) (.cons (.int 1) (.cons (.int 2) .nil))), sz_of (by decide +kernel)⟩
        · exact ⟨.tuple [.bool false, .int 1], .tup y5 q5 (.cons (.bl false) (.cons (.int 1) .nil)), sz_of (by decide +kernel)⟩
        · exact ⟨.tuple [.int 0, .none], .tup y6 q6 (.cons (.int 0) (.cons .non .nil)), sz_of (by decide +kernel)⟩
        · exact ⟨.str (Str.ofString "01"), .str _, sz_of (by decide +kernel)⟩
        · exact ⟨.int 7, .int 7, sz_of (by decide +kernel)⟩
        · exact ⟨.tuple [.int 0, .str (Str.ofString "1")], .tup y7 q7 (.cons (.int 0) (.cons (.str _) .nil)), sz_of (by decide +kernel)⟩
        · exact ⟨.tuple [.tuple [.int 0, .int 1]], .tup y9 q9 (.cons (.tup y8 q8 (.cons (.int 0) (.cons (.int 1) .nil))) .nil), sz_of (by decide +kernel)⟩
      obtain ⟨d, dx, zx⟩ := pick
      have dx12 : Dq false p G12 x d := Dq.keep ((Kp.of sS1).trans k12) _ _ dx
      have pr10 := pr5.tk (TK.of W0)
      have pr12 : PrAll G12 xs ps := pr10.tk ((TK.of sS1).trans (TK.kp k12 (sS1 _ _ g10)))
      have l12 := k12 _ _ nlp (sS1 _ _ (W0 _ _ l5'))
      have f12 := k12 _ _ qS1 f1
      have k512 : Kp p H5 G12 := (Kp.of (W0.trans sS1)).trans k12
      obtain ⟨y12, e12⟩ := p12.lst
      obtain ⟨r1, c1, c2, c3⟩ := pr12.cut none (some at_)
      obtain ⟨r2, d1, d2, d3⟩ := pr12.cut (some at_) none
      clear pr10 k12 f1 sS1 mx dx
      have sS2 := new_same (o := HO.lst [x]) nS2
      have n1 : (cutV xs none (some at_)).length + ([x] : List V).length ≤ sizeLine := by
        have := c1.len
        simp only [List.length_cons, List.length_nil]
        exact Nat.le_trans (show _ ≤ 20 by omega) (by decide)
      refine ⟨S1, S2, _, _, rfl, rfl, sS2 _ _ f12, upd_same, n1, fun S3 nS3 => ?_⟩
      have sS3 := new_same (o := HO.lst (cutV xs none (some at_) ++ [x])) nS3
      refine ⟨at_, rfl, l, xs, rfl, SqL.of (sS3 _ _ (sS2 _ _ l12)), fun S4 nS4 => ?_⟩
      have sS4 := new_same (o := HO.lst (cutV xs (some at_) none)) nS4
      have n2 : (cutV xs none (some at_) ++ [x]).length + (cutV xs (some at_) none).length ≤ sizeLine := by
        have h1 := c1.len
        have h2 := d1.len
        rw [List.length_append]
        simp only [List.length_cons, List.length_nil]
        exact Nat.le_trans (show _ ≤ 20 by omega) (by decide)
      refine ⟨S3, S4, _, _, rfl, rfl, sS4 _ _ upd_same, upd_same, n2, fun S5 nS5 => ⟨S5, rfl, _, upd_same, fun t2 nt2 => ?_⟩⟩
      have sS5 := new_same (o := HO.lst (cutV xs none (some at_) ++ [x] ++ cutV xs (some at_) none)) nS5
      have sS6 := new_same (o := HO.tup (cutV xs none (some at_) ++ [x] ++ cutV xs (some at_) none)) nt2
      have sAll := sS2.trans (sS3.trans (sS4.trans (sS5.trans sS6)))
      have eF := sAll _ _ e12
      refine q _ (.ref t2) (.tuple (r1.map prD ++ [d] ++ r2.map prD)) false (k05.trans (k512.trans (Kp.of sAll))) ((p12.same sAll).up (by omega)) (.tup upd_same (fun z => ?_) ?_) ?_
      · subst z
        rw [upd_same] at eF
        cases eF
      · exact ((PrAll.dq eF (c1.tk (TK.of sAll))).append (.cons (dx12.same sAll) .nil)).append (PrAll.dq eF (d1.tk (TK.of sAll)))
      · have lenA : (r1.map prD ++ [d] ++ r2.map prD).length ≤ 11 := by
          rw [List.length_append, List.length_append, List.length_map, List.length_map]
          simp only [List.length_cons, List.length_nil]
          omega
        refine (Sz.tuple (n := 100) (k := 3) (fun e he => ?_) (by omega)).up (by omega) (by omega)
        rcases List.mem_append.mp he with he | he
        · rcases List.mem_append.mp he with he | he
          · exact (prs_sz (fun q hq => (fr q (c3 q hq)).near) e he).up (by omega) (by omega)
          · rw [List.mem_singleton.mp he]
            exact zx.up (by omega) (by omega)
        · exact (prs_sz (fun q hq => (fr q (d3 q hq)).near) e he).up (by omega) (by omega)
    · refine ⟨rfl, iteN (by omega) ⟨rfl, iteN (by omega) ⟨rfl, iteN (by omega) ⟨rfl, iteN (by omega) ⟨rfl, iteN (by omega) ⟨l, rfl, _, l5', fun t nt => ?_⟩⟩⟩⟩⟩⟩
      exact done _ t xs ps (Kp.of (new_same nt)) ((p5.same (new_same nt)).up (by omega)) upd_same (pr5.tk (TK.of (new_same nt))) (by omega) (fun q hq => (fr q hq).near)
end
end Pf

set_option Elab.async false
set_option linter.all false
set_option maxRecDepth 100000
/-! The law's look, and the law. -/
namespace Pf
open PySem PySem.Spec PyProof.Rows L2
local macro_rules | `(tactic| walk_at "rd") => `(tactic| simp only [tC1, tCK, tB, rNe, rEq, tChain, gTupV, gCons, gNil, Nat.sub_self, Nat.reduceSub, List.replicate_zero, List.replicate_succ, tTest, tIfS, tIf, tNot, tAnd, tOr, tAndV, tOrV, tNotV, tDrop, tNext, rIxV, rIxP,
  gSub, rSetL, tSl, tPart, tNoPart, rSl1, tDNewK, tBM, rAppend, wipe, rAllB, rAnyB, iTup, iList, RZ.iZipA, iRng1, iRng2, tYes, upd_same, at0, at1, at2, at20, at21, ixN30, ixN32, HO.lst.injEq, HO.tup.injEq, Nat.reduceAdd, tSeq, tAsg, tPar, tAug, tOp, tVar, tC, tCB, tCons, tNil, rI, rI0, rU, tUn, gName, tRet, tLst, tLstM, tTup, L2.start, List.map_cons, List.map_nil, List.length_cons, List.length_nil, List.replicate, List.cons_append,
  List.nil_append, List.set_cons_zero, List.set_cons_succ, List.getElem?_cons_zero, List.getElem?_cons_succ, Option.some.injEq, V.int.injEq, V.ref.injEq, V.bl.injEq, V.str.injEq, List.cons.injEq, exists_eq_left', exists_eq_left, exists_and_left, exists_and_right, and_true, true_and, reduceCtorEq, false_and,
  exists_false, or_false, false_or, exists_const, exists_eq, exists_eq', Bool.not_true, Bool.not_false, Bool.false_eq_true, if_true, if_false, ite_true, ite_false])
theorem fits2 (x y : Bool) : Fits (.list [.bool x, .bool y]) := by
  cases x <;> cases y <;> exact (sz_of (n := 60) (k := 3) (by decide +kernel)).fits (by decide) (by decide)
theorem all_pairs {ds : List PyData} (h : isRangesD (.tuple ds) = true) : ds.all isPairD = true := by
  have h' : (ds.all isPairD && (stepsD ds).all id) = true := h
  exact (Bool.and_eq_true_iff.mp h').1
theorem DqAll.tk {b : Bool} {p : Addr} {H H' : Hp} (k : TK H H') : ∀ {xs : List V} {ds : List PyData}, DqAll b p H xs ds → ds.all isPairD = true → DqAll b p H' xs ds
  | _, _, .nil, _ => .nil
  | _, _, @DqAll.cons _ _ _ v _ d ds h t, al => by
    have al' : (isPairD d && ds.all isPairD) = true := al
    obtain ⟨a1, a2⟩ := Bool.and_eq_true_iff.mp al'
    refine .cons ?_ (DqAll.tk k t a2)
    unfold isPairD at a1
    split at a1
    · rename_i z e
      unfold pairOf at e
      split at e
      · cases h with
        | tup g ne ha =>
          cases ha with
          | cons h1 t1 =>
            cases t1 with
            | cons h2 t2 =>
              cases h1
              cases h2
              cases t2
              exact .tup (k _ _ g) ne (.cons (.int _) (.cons (.int _) .nil))
      · cases e
    · cases a1
theorem Kp.skip {p c : Addr} {H H7 H8 : Hp} (k : Kp p H H7) (hn : H c = none) (k2 : Kp c H7 H8) : Kp p H H8 := fun b o n e => k2 b o (ne_of_none e hn) (k b o n e)
def swap2 : List V → List V
  | [a, b] => [b, a]
  | zs => zs
section
variable {base : Heap} {P : Program} {w : World} {mg : Str → Option Value} {K : PySem.W.Frag}
def sp_right : Sp := fun vs H Q _ => ∃ (p : Addr), vs = [.ref p] ∧ Pot H p 0 ∧ ∀ H', Kp p H H' → Q (.bl true) H'
theorem ok_right {f : Addr} {fd : FuncData} (F : Fun K "_law_right" "_law_right" s__law_right f fd) (T : Txt mg) (C__law_thing : Cal P w K mg base 4 "_law_thing" sp_thing) (C__law_is_set : Cal P w K mg base 3 "_law_is_set" sp_ranges)
    (C_is_ranges : Cal P w K mg base 3 "is_ranges" sp_ranges) (CK_is_ranges_value : CalK P w K mg base 3 "is_ranges" ["value"] (fun zs => zs) sp_ranges) (C_holds : Cal P w K mg base 1 "holds" sp_holds)
    (CK_holds_number_ranges : CalK P w K mg base 1 "holds" ["number", "ranges"] swap2 sp_holds) (C__law_in : Cal P w K mg base 1 "_law_in" sp_in) : FnG P w K mg base 5 f fd ["_law_pot_here"] sp_right := by
  refine okG F sc__law_right (fun vs H Q E h => ?_) (fun cdv A outer s H vs Q E hg hr h => ?_)
  · obtain ⟨p, rfl, _⟩ := h
    rfl
  · obtain ⟨p, rfl, hp, q⟩ := h
    replace hr := And.intro hg hr
    refine ⟨_, (pss_cons (ps_for PassesOwn.never rfl (pi_range1 (by rfl) T.b_range (pa_cons pe_int pa_nil)) (pg_name (i := 1) sc__law_right.nd rfl (Or.inl rfl)) (pss_cons (ps_set (i := 2) sc__law_right.nd rfl (Or.inl rfl) (pe_c C__law_thing hr (by decide) (by rfl) (pa_cons (pv 0) pa_nil)))
        (pss_cons (ps_par (i := 3) (j := 4) (by rfl) sc__law_right.nd rfl rfl (by decide) rfl rfl (pa_cons (pe_callB (call_reprV hr) (by rfl) T.b_repr (by decide +kernel) (pa_cons (pv 2) pa_nil)) (pa_cons (pe_c C__law_is_set hr (by decide) (by rfl) (pa_cons (pv 2) pa_nil)) pa_nil)) (by rfl))
        (pss_cons (ps_if (PW.pt (pw_or (pt_cmpR op_ne (pe_callB (call_reprV hr) (by rfl) T.b_repr (by decide +kernel) (pa_cons (pe_lst (pa_cons (pe_c C_is_ranges hr (by decide) (by rfl) (pa_cons (pv 2) pa_nil)) (pa_cons (pe_cK0 CK_is_ranges_value hr (by decide) (by rfl) (pk_cons (pv 2) pk_nil)) pa_nil))) pa_nil)) (pe_callB (call_reprV hr) (by rfl) T.b_repr (by decide +kernel) (pa_cons (pe_lst (pa_cons (pv 4) (pa_cons (pv 4) pa_nil))) pa_nil)) (nomark _)) (pw_or1 (pt_cmpR op_ne (pe_callB (call_reprV hr) (by rfl) T.b_repr (by decide +kernel) (pa_cons (pv 2) pa_nil)) (pv 3) (nomark _))))) (pss_one (ps_ret pe_bl)) pss_nil)
        (pss_cons (ps_set (i := 5) sc__law_right.nd rfl (Or.inl rfl) (pe_lst (pa_cons pe_int (pa_cons (pe_op op_powW pe_int pe_int) pa_nil))))
        (pss_cons (ps_for PassesOwn.never rfl (pi_tup (pe_ifExp (pt_val (pv 4)) (pv 2) (pe_tup pa_nil))) (pg_tupV (n := 2) rfl (pgs_cons (pg_name (i := 6) sc__law_right.nd rfl (Or.inl rfl)) (pgs_cons (pg_name (i := 7) sc__law_right.nd rfl (Or.inl rfl)) pgs_nil))) (pss_one (ps_expr (pe_bm PySem.F.plainAttrs_list PySem.F.slot_list_extend PySem.F.type_list_extend mt_extend (pv 5) (pa_cons (pe_lst (pa_cons (pe_op op_sub (pv 6) pe_int) (pa_cons (pv 6) (pa_cons (pe_op op_fdivW (pe_op op_add (pv 6) (pv 7)) pe_int) (pa_cons (pv 7) (pa_cons (pe_op op_add (pv 7) pe_int) pa_nil)))))) pa_nil)))))
        (pss_one (ps_for PassesOwn.never rfl (pi_list (pe_ifExp (pt_val (pv 4)) (pv 5) (pe_lst pa_nil))) (pg_name (i := 8) sc__law_right.nd rfl (Or.inl rfl)) (pss_cons (ps_set (i := 9) sc__law_right.nd rfl (Or.inl rfl) (pe_lst (pa_cons (pe_c C_holds hr (by decide) (by rfl) (pa_cons (pv 2) (pa_cons (pv 8) pa_nil))) (pa_cons (pe_cK0 CK_holds_number_ranges hr (by decide) (by rfl) (pk_cons (pv 8) (pk_cons (pv 2) pk_nil))) pa_nil))))
        (pss_one (ps_if (pt_cmpR op_ne (pe_callB (call_reprV hr) (by rfl) T.b_repr (by decide +kernel) (pa_cons (pv 9) pa_nil)) (pe_callB (call_reprV hr) (by rfl) T.b_repr (by decide +kernel) (pa_cons (pe_op op_rep (pe_lst (pa_cons (pe_c C__law_in hr (by decide) (by rfl) (pa_cons (pv 2) (pa_cons (pv 8) pa_nil))) pa_nil)) pe_int) pa_nil)) (nomark _)) (pss_one (ps_ret pe_bl)) pss_nil)))))))))))
        (pss_one (ps_ret pe_bl))), ?_⟩
    walk_at "rd"
    refine ⟨60, rfl, by decide, by decide, for_range (lo := 0) (n := 60) (fun i σ H' => ∃ s1 s2 s3 s4 s5 s6 s7 s8 s9 : Option V, σ = [some (.ref p), s1, s2, s3, s4, s5, s6, s7, s8, s9] ∧ Kp p H H' ∧ Pot H' p (100 * i)) ⟨_, _, _, _, _, _, _, _, _, rfl, Kp.refl _ _, hp⟩ ?_ ?_⟩
    · rintro i σ H0 hi ⟨s1, s2, s3, s4, s5, s6, s7, s8, s9, rfl, k0, p0⟩
      walk_at "rd"
      refine ⟨p, _, rfl, p0, by omega, fun H1 v d b k1 p1 dq sz => ?_⟩
      have fd_ : Fits d := sz.fits (by decide) (by decide)
      walk_at "rd"
      refine ⟨d, ⟨b, p, dq⟩, fd_, v, d, b, p, rfl, dq, sz.tl, fun H2 s2 => ⟨_, _, ⟨rfl, rfl⟩, v, d, b, p, rfl, dq.same s2, sz.tl, fun H3 s3 => ⟨v, d, b, p, rfl, (dq.same s2).same s3, sz.tl, fun H4 s4 => ⟨by decide, fun A1 nA1 => ?_⟩⟩⟩⟩
      have s14 := s2.trans (s3.trans s4)
      obtain ⟨yp, ep⟩ := (p1.same s14).lst
      have q1 : A1 ≠ p := (ne_of_none ep nA1).symm
      have sA1 := new_same (o := HO.lst [V.bl (isRangesD d), V.bl (isRangesD d)]) nA1
      have eA1 : upd H4 A1 (HO.lst [V.bl (isRangesD d), V.bl (isRangesD d)]) A1 = some (HO.lst [V.bl (isRangesD d), V.bl (isRangesD d)]) := upd_same
      refine ⟨.list [.bool (isRangesD d), .bool (isRangesD d)], ⟨false, p, .lst eA1 q1 (fun z => nomatch z) (.cons (.bl _) (.cons (.bl _) .nil))⟩, fits2 _ _, by decide, fun A2 nA2 => ?_⟩
      generalize upd H4 A1 (HO.lst [V.bl (isRangesD d), V.bl (isRangesD d)]) = H5 at *
      have ep5 := sA1 _ _ ep
      have q2 : A2 ≠ p := (ne_of_none ep5 nA2).symm
      have sA2 := new_same (o := HO.lst [V.bl (isRangesD d), V.bl (isRangesD d)]) nA2
      have eA2 : upd H5 A2 (HO.lst [V.bl (isRangesD d), V.bl (isRangesD d)]) A2 = some (HO.lst [V.bl (isRangesD d), V.bl (isRangesD d)]) := upd_same
      refine ⟨.list [.bool (isRangesD d), .bool (isRangesD d)], ⟨false, p, .lst eA2 q2 (fun z => nomatch z) (.cons (.bl _) (.cons (.bl _) .nil))⟩, fits2 _ _, rfl, iteNS rfl ?_⟩
      generalize upd H5 A2 (HO.lst [V.bl (isRangesD d), V.bl (isRangesD d)]) = H6 at *
      have s16 := s14.trans (sA1.trans sA2)
      refine ⟨d, ⟨b, p, dq.same s16⟩, fd_, rfl, iteNS rfl ⟨by decide +kernel, by decide, fun A3 nA3 => ?_⟩⟩
      have ep6 := sA2 _ _ ep5
      have q3 : A3 ≠ p := (ne_of_none ep6 nA3).symm
      have sA3 := new_same (o := HO.lst [V.int 0, V.int (10 ^ Int.toNat 30)]) nA3
      have eA3 : upd H6 A3 (HO.lst [V.int 0, V.int (10 ^ Int.toNat 30)]) A3 = some (HO.lst [V.int 0, V.int (10 ^ Int.toNat 30)]) := upd_same
      generalize upd H6 A3 (HO.lst [V.int 0, V.int (10 ^ Int.toNat 30)]) = H7 at *
      have s17 := s16.trans sA3
      have nA31 : H1 A3 = none := s16.free nA3
      have p7 := p1.same s17
      have k06 : Kp p H H6 := k0.trans (k1.trans (Kp.of s16))
      have k07 : Kp p H H7 := k06.trans (Kp.of sA3)
      have nA30 : H A3 = none := k06.free ep6 nA3
      clear sA1 sA2 s2 s3 s4 s14 ep ep5
      cases hr2 : isRangesD d with
      | false =>
        refine ⟨_, rfl, _, rfl, iteF ⟨by decide, fun E1 nE1 => ⟨E1, rfl, ⟨[], SqT.of upd_same⟩, for_tup (K := K) (xs := []) (fun _ σ H' => σ = [some (.ref p), some (.int (0 + (i : Int))), some v, some (.str d.shown), some (.bl false), some (.ref A3), s6, s7, s8, s9] ∧ H' = upd H7 E1 (.tup [])) ⟨rfl, rfl⟩ (fun _ _ _ _ h => by rw [h.2]; exact SqT.of upd_same) (fun _ _ _ _ h => by simp at h) ?_⟩⟩⟩
        rintro σ H' ⟨rfl, rfl⟩
        have sE1 := new_same (o := HO.tup []) nE1
        refine ⟨_, rfl, _, rfl, iteF ⟨by decide, fun E2 nE2 => ⟨E2, rfl, ⟨[], SqL.of upd_same⟩, for_list (K := K) (xs := []) (fun _ σ H' => σ = [some (.ref p), some (.int (0 + (i : Int))), some v, some (.str d.shown), some (.bl false), some (.ref A3), s6, s7, s8, s9] ∧ H' = upd (upd H7 E1 (.tup [])) E2 (.lst [])) ⟨rfl, rfl⟩ (fun _ _ _ _ h => by rw [h.2]; exact SqL.of upd_same) (fun _ _ _ _ h => by simp at h) ?_⟩⟩⟩
        rintro σ H' ⟨rfl, rfl⟩
        have sE2 := new_same (o := HO.lst []) nE2
        exact ⟨⟨_, _, _, _, _, _, _, _, _, rfl⟩, k07.trans (Kp.of (sE1.trans sE2)), (p7.same (sE1.trans sE2)).up (by omega)⟩
      | true =>
        cases d with
        | none => cases hr2
        | bool _ => cases hr2
        | int _ => cases hr2
        | str _ => cases hr2
        | list _ => cases hr2
        | dict _ => cases hr2
        | tuple ds =>
        have al := all_pairs hr2
        have small := sz.tl ds rfl
        cases dq with
        | @tup a xs _ ga nep ha =>
        have len := ha.length
        have big : (10000 : Nat) ≤ sizeLine := by decide
        have items : ∀ {j : Nat} {x : V}, xs[j]? = some x → ∃ t l r, x = .ref t ∧ H1 t = some (.tup [.int l, .int r]) := fun {j x} hx => by
          obtain ⟨e, he, hq⟩ := ha.get hx
          obtain ⟨l, r, pe⟩ := pair_of al he
          obtain ⟨t, e1, e2⟩ := hq.pair pe
          exact ⟨t, l, r, e1, e2⟩
        have t17 : TK H1 H7 := TK.of s17
        refine ⟨_, rfl, _, rfl, iteT ⟨.ref a, rfl, a, rfl, ⟨xs, SqT.of (s17 _ _ ga)⟩, for_tup (K := K) (xs := xs) (fun j σ H' => ∃ (s6 s7 : Option V) (ns : List Int), σ = [some (.ref p), some (.int (0 + (i : Int))), some (.ref a), some (.str (PyData.shown (.tuple ds))), some (.bl true), some (.ref A3), s6, s7, s8, s9] ∧ Kp A3 H7 H' ∧ H' A3 = some (.lst (ns.map V.int)) ∧ ns.length ≤ 2 + 5 * j)
          ⟨s6, s7, [0, 10 ^ Int.toNat 30], rfl, Kp.refl _ _, eA3, Nat.le_refl _⟩ (fun j σ H' _ ⟨_, _, _, _, kk, _, _⟩ => SqT.of ((TK.kp kk eA3) _ _ (s17 _ _ ga))) ?_ ?_⟩⟩
        · rintro j x σ H8 hx ⟨u6, u7, ns, rfl, k8, e8, l8⟩
          obtain ⟨t, l, r, rfl, ht⟩ := items hx
          have hj : j < xs.length := (List.getElem?_eq_some_iff.mp hx).1
          have t8 : TK H7 H8 := TK.kp k8 eA3
          have ht8 := t8 _ _ (t17 _ _ ht)
          walk_at "rd"
          simp only [ht8, Option.some.injEq, HO.tup.injEq, exists_eq_left']
          walk_at "rd"
          refine ⟨_, _, ⟨rfl, rfl⟩, _, _, rfl, rfl, Or.inl ⟨rfl, _, SqL.of e8⟩, l, rfl, l, rfl, r, rfl, ⟨by decide, by decide⟩, r, rfl, by decide, fun B nB => ?_⟩
          exact ⟨A3, B, ns.map V.int, _, rfl, rfl, new_same nB _ _ e8, upd_same, by rw [List.length_map]; simp only [List.length_cons, List.length_nil]; omega, (k8.trans (Kp.of (new_same nB))).trans Kp.put, ns ++ [l - 1, l, (l + r) / 2, r, r + 1], by rw [upd_same, List.map_append]; rfl, by rw [List.length_append]; simp only [List.length_cons, List.length_nil]; omega⟩
        · rintro σ H8 ⟨u6, u7, ns, rfl, k8, e8, l8⟩
          have t8 : TK H7 H8 := TK.kp k8 eA3
          have ga8 := t8 _ _ (t17 _ _ ga)
          have dq8 : Dq b p H8 (.ref a) (.tuple ds) := .tup ga8 nep (ha.tk (t17.trans t8) al)
          have p8 : Pot H8 p (100 * i + 100) := p7.eq (by
            obtain ⟨y7, e7⟩ := p7.lst
            rw [e7]
            exact k8 _ _ q3.symm e7)
          have k08 : Kp p H H8 := k07.skip nA30 k8
          refine ⟨_, rfl, _, rfl, iteT ⟨.ref A3, rfl, A3, rfl, ⟨_, SqL.of e8⟩, for_list (K := K) (xs := ns.map V.int) (fun j σ H' => ∃ (v6 v7 v8 v9 : Option V), σ = [some (.ref p), some (.int (0 + (i : Int))), some (.ref a), some (.str (PyData.shown (.tuple ds))), some (.bl true), some (.ref A3), v6, v7, v8, v9] ∧ Same H8 H')
            ⟨_, _, _, _, rfl, Same.refl _⟩ (fun j σ H' _ ⟨_, _, _, _, _, ss⟩ => SqL.of (ss _ _ e8)) ?_ ?_⟩⟩
          · rintro j x σ H9 hx ⟨v6, v7, v8, v9, rfl, s9_⟩
            obtain ⟨n, rfl⟩ : ∃ n, x = V.int n := by
              rw [List.getElem?_map] at hx
              cases e : ns[j]? with
              | none => rw [e] at hx; cases hx
              | some n => rw [e] at hx; exact ⟨n, (Option.some.inj hx).symm⟩
            have dq9 := dq8.same s9_
            walk_at "rd"
            obtain ⟨y9, e9⟩ := (p8.same s9_).lst
            refine ⟨a, ds, b, p, n, rfl, dq9, hr2, small, ⟨a, ds, b, p, n, rfl, dq9, hr2, small, by decide, fun B nB => ?_⟩⟩
            have sB := new_same (o := HO.lst [V.bl (inD ds n), V.bl (inD ds n)]) nB
            have qB : B ≠ p := (ne_of_none e9 nB).symm
            refine ⟨.list [.bool (inD ds n), .bool (inD ds n)], ⟨false, p, .lst upd_same qB (fun z => nomatch z) (.cons (.bl _) (.cons (.bl _) .nil))⟩, fits2 _ _, a, ds, b, p, n, rfl, dq9.same sB, al, small, fun H10 s10 => ⟨by decide, fun C nC => ?_⟩⟩
            have sC := new_same (o := HO.lst [V.bl (inD ds n)]) nC
            refine ⟨C, 2, _, rfl, rfl, upd_same, by decide, by decide, by show 1 * 2 ≤ sizeLine; decide, fun D nD => ?_⟩
            have sD := new_same (o := HO.lst (List.replicate (2 : Int).toNat [V.bl (inD ds n)]).flatten) nD
            have qD : D ≠ p := (ne_of_none (sC _ _ (s10 _ _ (sB _ _ e9))) nD).symm
            have eD : upd (upd H10 C (HO.lst [V.bl (inD ds n)])) D (HO.lst (List.replicate (2 : Int).toNat [V.bl (inD ds n)]).flatten) D = some (HO.lst [V.bl (inD ds n), V.bl (inD ds n)]) := upd_same
            exact ⟨.list [.bool (inD ds n), .bool (inD ds n)], ⟨false, p, .lst eD qD (fun z => nomatch z) (.cons (.bl _) (.cons (.bl _) .nil))⟩, fits2 _ _, rfl, iteNS rfl (s9_.trans (sB.trans (s10.trans (sC.trans sD))))⟩
          · rintro σ H9 ⟨v6, v7, v8, v9, rfl, s9_⟩
            exact ⟨⟨_, _, _, _, _, _, _, _, _, rfl⟩, k08.trans (Kp.of s9_), (p8.same s9_).up (by omega)⟩
    · rintro σ H0 ⟨s1, s2, s3, s4, s5, s6, s7, s8, s9, rfl, k0, p0⟩
      walk_at "rd"
      exact q _ k0
def sp_law (K : PySem.W.Frag) : Sp := fun vs H Q _ => ∃ (a : Addr) (ns : List Int), vs = [.ref a] ∧ SqL K H a (ns.map V.int) ∧ ns.length ≤ 63 ∧ ∀ H', Q (.bl true) H'
theorem ok_law {f : Addr} {fd : FuncData} (F : Fun K "law" "law" s_law f fd) (T : Txt mg) (C__law_pot : Cal P w K mg base 1 "_law_pot" (sp_pot K)) (C__law_right : Cal P w K mg base 5 "_law_right" sp_right) : FnG P w K mg base 6 f fd ["_law_script"] (sp_law K) := by
  refine okG F sc_law (fun vs H Q E h => ?_) (fun cdv A outer s H vs Q E hg hr h => ?_)
  · obtain ⟨a, ns, rfl, _⟩ := h
    rfl
  · obtain ⟨a, ns, rfl, hS, hl, q⟩ := h
    replace hr := And.intro hg hr
    refine ⟨_, (pss_cons (ps_for PassesOwn.never rfl (pi_range1 (by rfl) T.b_range (pa_cons (pe_callB (call_max2 rfl) (by rfl) T.b_max (by decide +kernel) (pa_cons pe_int (pa_cons (pe_callB (call_min2 rfl) (by rfl) T.b_min (by decide +kernel) (pa_cons pe_int (pa_cons (pe_callB call_len_seq (by rfl) T.b_len (by decide +kernel) (pa_cons (pv 0) pa_nil)) pa_nil))) pa_nil))) pa_nil)) (pg_name (i := 1) sc_law.nd rfl (Or.inl rfl)) (pss_one (ps_if (pt_not (pt_val (pe_c C__law_right hr (by decide) (by rfl) (pa_cons (pe_c C__law_pot hr (by decide) (by rfl) (pa_cons (pv 0) (pa_cons (pv 1) pa_nil))) pa_nil)))) (pss_one (ps_ret pe_bl)) pss_nil)))
        (pss_one (ps_ret pe_bl))), ?_⟩
    walk_at "rd"
    have least : ∀ L : Int, 0 ≤ L → 0 ≤ (if (if L < 3 then L else 3) > 1 then (if L < 3 then L else 3) else 1) ∧ (if (if L < 3 then L else 3) > 1 then (if L < 3 then L else 3) else 1) ≤ 3 := fun L h => by
      split <;> split <;> omega
    obtain ⟨b1, b2⟩ := least ((ns.map V.int).length : Nat) (by omega)
    refine ⟨.ref a, rfl, a, rfl, ns.map V.int, .inl hS, 3, _, rfl, 1, _, rfl, _, rfl, ?_, ?_, for_range (lo := 0) (fun i σ H' => ∃ t : Option V, σ = [some (.ref a), t] ∧ Same H H') ⟨none, rfl, Same.refl _⟩ ?_ ?_⟩
    · exact Int.le_trans (by decide) b1
    · exact Int.lt_of_le_of_lt b2 (by decide)
    · rintro i σ H0 hi ⟨t, rfl, s0⟩
      have i3 : i < 3 := by
        have := Int.toNat_le_toNat b2
        exact Nat.lt_of_lt_of_le hi this
      walk_at "rd"
      refine ⟨a, ns, i, by rw [Int.zero_add], s0.seq hS, hl, by omega, fun H1 p s1 np pot => ⟨p, rfl, pot, fun H2 k2 => ?_⟩⟩
      have s2 : Same H H2 := fun c o e => k2 c o (ne_of_none (s0 _ _ e) np) (s1 _ _ (s0 _ _ e))
      exact ⟨true, rfl, iteF s2⟩
    · rintro σ H0 ⟨t, rfl, s0⟩
      walk_at "rd"
      exact q _
end
end Pf

set_option Elab.async false
set_option linter.all false
set_option maxRecDepth 100000
/-! The end. -/
namespace Pf
open PySem PySem.Spec PyProof.Rows L2
theorem kbn {K : PySem.W.Frag} {x qual : Str} {st : Stmt} {f : Addr} {fd : FuncData} {ps ks : List Str} {g : List Value → List Value} {gV : List V → List V} (F : Fun K x qual st f fd)
    (h : ∀ (kV doc pm : Value) (an : Option Addr) (cdv ct : Value) (ws : List Value), ws.length = ks.length → bindArgs (PySem.W.fnOf x qual (defArgs st) (defBody st) (defScope st) .none kV doc pm an cdv ct) ⟨[], ks.zip ws⟩ = pure (ps.zip (g ws)))
    (rel : ∀ {zs : List V} {ws : List Value}, Vals zs ws → Vals (gV zs) (g ws)) : KBn K fd ps 0 ks (fun _ ws => g ws) (fun _ zs => gV zs) := by
  obtain ⟨_, _, kV, doc, pm, an, cdv, ct, _, rfl, _, _⟩ := F.ex
  refine ⟨fun s us ws _ h1 h2 => ?_, fun _ r => rel r⟩
  have e := List.eq_nil_of_length_eq_zero h1
  subst e
  exact .of_eq (h kV doc pm an cdv ct ws h2)
def swapW : List Value → List Value
  | [a, b] => [b, a]
  | zs => zs
theorem swap_rel : ∀ {zs : List V} {ws : List Value}, Vals zs ws → Vals (swap2 zs) (swapW ws)
  | _, _, .nil => .nil
  | _, _, .cons h .nil => .cons h .nil
  | _, _, .cons h (.cons k .nil) => .cons k (.cons h .nil)
  | _, _, .cons h (.cons k (.cons l r)) => .cons h (.cons k (.cons l r))
section
variable {base : Heap} {P : Program} {w : World} {mg : Str → Option Value} {K : PySem.W.Frag}
theorem all_ok {f : Addr} {fd : FuncData} (T : Txt mg) (F : Fun K "law" "law" s_law f fd)
    {f0 : Addr} {fd0 : FuncData} (F0 : Fun K "is_number" "is_number" s_is_number f0 fd0) (b0 : Binds K fd0 ["value"] []) (m0 : mg "is_number" = some (.ref f0))
    {f1 : Addr} {fd1 : FuncData} (F1 : Fun K "is_ranges" "is_ranges" s_is_ranges f1 fd1) (b1 : Binds K fd1 ["value"] []) (m1 : mg "is_ranges" = some (.ref f1))
    {f2 : Addr} {fd2 : FuncData} (F2 : Fun K "holds" "holds" s_holds f2 fd2) (b2 : Binds K fd2 ["ranges", "number"] []) (m2 : mg "holds" = some (.ref f2))
    {f3 : Addr} {fd3 : FuncData} (F3 : Fun K "is_pair" "is_pair" s_is_pair f3 fd3) (b3 : Binds K fd3 ["value"] []) (m3 : mg "is_pair" = some (.ref f3))
    {f4 : Addr} {fd4 : FuncData} (F4 : Fun K "_law_pot" "_law_pot" s__law_pot f4 fd4) (b4 : Binds K fd4 ["_law_script", "_law_k"] []) (m4 : mg "_law_pot" = some (.ref f4))
    {f5 : Addr} {fd5 : FuncData} (F5 : Fun K "_law_draw" "_law_draw" s__law_draw f5 fd5) (b5 : Binds K fd5 ["_law_pot_here", "_law_many"] []) (m5 : mg "_law_draw" = some (.ref f5))
    {f6 : Addr} {fd6 : FuncData} (F6 : Fun K "_law_any" "_law_any" s__law_any f6 fd6) (b6 : Binds K fd6 ["_law_pot_here", "_law_items"] []) (m6 : mg "_law_any" = some (.ref f6))
    {f7 : Addr} {fd7 : FuncData} (F7 : Fun K "_law_odd" "_law_odd" s__law_odd f7 fd7) (b7 : Binds K fd7 ["_law_pot_here"] []) (m7 : mg "_law_odd" = some (.ref f7))
    {f8 : Addr} {fd8 : FuncData} (F8 : Fun K "_law_spans" "_law_spans" s__law_spans f8 fd8) (b8 : Binds K fd8 ["_law_pot_here", "_law_most", "_law_low", "_law_high"] []) (m8 : mg "_law_spans" = some (.ref f8))
    {f9 : Addr} {fd9 : FuncData} (F9 : Fun K "_law_in" "_law_in" s__law_in f9 fd9) (b9 : Binds K fd9 ["_law_spans_here", "_law_figure"] []) (m9 : mg "_law_in" = some (.ref f9))
    {f10 : Addr} {fd10 : FuncData} (F10 : Fun K "_law_is_integer" "_law_is_integer" s__law_is_integer f10 fd10) (b10 : Binds K fd10 ["_law_thing_here"] []) (m10 : mg "_law_is_integer" = some (.ref f10))
    {f11 : Addr} {fd11 : FuncData} (F11 : Fun K "_law_is_set" "_law_is_set" s__law_is_set f11 fd11) (b11 : Binds K fd11 ["_law_thing_here"] []) (m11 : mg "_law_is_set" = some (.ref f11))
    {f12 : Addr} {fd12 : FuncData} (F12 : Fun K "_law_thing" "_law_thing" s__law_thing f12 fd12) (b12 : Binds K fd12 ["_law_pot_here"] []) (m12 : mg "_law_thing" = some (.ref f12))
    {f13 : Addr} {fd13 : FuncData} (F13 : Fun K "_law_right" "_law_right" s__law_right f13 fd13) (b13 : Binds K fd13 ["_law_pot_here"] []) (m13 : mg "_law_right" = some (.ref f13)) :
    FnG P w K mg base 6 f fd ["_law_script"] (sp_law K) := by
  have C_is_number : Cal P w K mg base 1 "is_number" sp_number := ⟨_, _, _, ok_number F0 T, m0, F0.kp, b0⟩
  have C_is_pair : Cal P w K mg base 2 "is_pair" sp_pair := ⟨_, _, _, ok_pair F3 T C_is_number, m3, F3.kp, b3⟩
  have G1 := ok_ranges (P := P) (w := w) (base := base) F1 T C_is_pair
  have C_is_ranges : Cal P w K mg base 3 "is_ranges" sp_ranges := ⟨_, _, _, G1, m1, F1.kp, b1⟩
  have CK1 : CalK P w K mg base 3 "is_ranges" ["value"] (fun zs => zs) sp_ranges := ⟨_, _, _, fun ws => ws, G1, m1, F1.kp, kbn F1 (fun _ _ _ _ _ _ ws h => match ws, h with | [_], _ => rfl) (fun r => r)⟩
  have G2 := ok_holds (P := P) (w := w) (base := base) F2 T
  have C_holds : Cal P w K mg base 1 "holds" sp_holds := ⟨_, _, _, G2, m2, F2.kp, b2⟩
  have CK2 : CalK P w K mg base 1 "holds" ["number", "ranges"] swap2 sp_holds := ⟨_, _, _, swapW, G2, m2, F2.kp, kbn F2 (fun _ _ _ _ _ _ ws h => match ws, h with | [_, _], _ => rfl) swap_rel⟩
  have C_pot : Cal P w K mg base 1 "_law_pot" (sp_pot K) := ⟨_, _, _, ok_pot F4 T, m4, F4.kp, b4⟩
  have C_draw : Cal P w K mg base 1 "_law_draw" sp_draw := ⟨_, _, _, ok_draw F5 T, m5, F5.kp, b5⟩
  have C_any : Cal P w K mg base 2 "_law_any" sp_any := ⟨_, _, _, ok_any F6 T C_draw, m6, F6.kp, b6⟩
  have C_odd : Cal P w K mg base 3 "_law_odd" sp_odd := ⟨_, _, _, ok_odd F7 T C_any, m7, F7.kp, b7⟩
  have C_spans : Cal P w K mg base 3 "_law_spans" sp_spans := ⟨_, _, _, ok_spans F8 T C_draw C_any, m8, F8.kp, b8⟩
  have C_in : Cal P w K mg base 1 "_law_in" sp_in := ⟨_, _, _, ok_in F9 T, m9, F9.kp, b9⟩
  have C_integer : Cal P w K mg base 1 "_law_is_integer" sp_number := ⟨_, _, _, ok_integer F10 T, m10, F10.kp, b10⟩
  have C_set : Cal P w K mg base 3 "_law_is_set" sp_ranges := ⟨_, _, _, ok_set F11 T C_integer, m11, F11.kp, b11⟩
  have C_thing : Cal P w K mg base 4 "_law_thing" sp_thing := ⟨_, _, _, ok_thing F12 T C_any C_draw C_spans C_odd, m12, F12.kp, b12⟩
  have C_right : Cal P w K mg base 5 "_law_right" sp_right := ⟨_, _, _, ok_right F13 T C_thing C_set C_is_ranges CK1 C_holds CK2 C_in, m13, F13.kp, b13⟩
  exact ok_law F T C_pot C_right
end
theorem all_mk {l : PySem.W.OpenLaw} {w : World} {K : PySem.W.Frag} {h : Heap} {mg : Str → Option Value} {fa f0 f1 f2 f3 f4 f5 f6 f7 f8 f9 f10 f11 f12 f13 f14 : Addr} (X : K.In h) (G : h.Ns mainGlobals mg) (hfa : mg "law" = some (.ref fa))
    {od0 an0 od1 an1 od2 an2 od3 an3 od4 an4 od5 an5 od6 an6 od7 an7 od8 an8 od9 an9 od10 an10 od11 an11 od12 an12 od13 an13 od14 an14 : Option Addr} {sl0 sl1 sl2 sl3 sl4 sl5 sl6 sl7 sl8 sl9 sl10 sl11 sl12 sl13 sl14 : Array (Option Value)} {oc0 kV0 dc0 pm0 cd0 ct0 oc1 kV1 dc1 pm1 cd1 ct1 oc2 kV2 dc2 pm2 cd2 ct2 oc3 kV3 dc3 pm3 cd3 ct3 oc4 kV4 dc4 pm4 cd4 ct4 oc5 kV5 dc5 pm5 cd5 ct5 oc6 kV6 dc6 pm6 cd6 ct6 oc7 kV7 dc7 pm7 cd7 ct7 oc8 kV8 dc8 pm8 cd8 ct8 oc9 kV9 dc9 pm9 cd9 ct9 oc10 kV10 dc10 pm10 cd10 ct10 oc11 kV11 dc11 pm11 cd11 ct11 oc12 kV12 dc12 pm12 cd12 ct12 oc13 kV13 dc13 pm13 cd13 ct13 oc14 kV14 dc14 pm14 cd14 ct14 : Value}
    (a0 : PySem.W.nsIn K mainGlobals "is_number" = some (some (.ref f0))) (l0 : K.lookup f0 = some ⟨oc0, od0, .func (PySem.W.fnOf "is_number" "is_number" (defArgs s_is_number) (defBody s_is_number) (defScope s_is_number) .none kV0 dc0 pm0 an0 cd0 ct0), sl0⟩) (c0 : PySem.W.codeIn K cd0 "is_number" = true) (k0 : PySem.W.keepIn K (.ref f0) = true)
    (a1 : PySem.W.nsIn K mainGlobals "is_ranges" = some (some (.ref f1))) (l1 : K.lookup f1 = some ⟨oc1, od1, .func (PySem.W.fnOf "is_ranges" "is_ranges" (defArgs s_is_ranges) (defBody s_is_ranges) (defScope s_is_ranges) .none kV1 dc1 pm1 an1 cd1 ct1), sl1⟩) (c1 : PySem.W.codeIn K cd1 "is_ranges" = true) (k1 : PySem.W.keepIn K (.ref f1) = true)
    (a2 : PySem.W.nsIn K mainGlobals "holds" = some (some (.ref f2))) (l2 : K.lookup f2 = some ⟨oc2, od2, .func (PySem.W.fnOf "holds" "holds" (defArgs s_holds) (defBody s_holds) (defScope s_holds) .none kV2 dc2 pm2 an2 cd2 ct2), sl2⟩) (c2 : PySem.W.codeIn K cd2 "holds" = true) (k2 : PySem.W.keepIn K (.ref f2) = true)
    (a3 : PySem.W.nsIn K mainGlobals "is_pair" = some (some (.ref f3))) (l3 : K.lookup f3 = some ⟨oc3, od3, .func (PySem.W.fnOf "is_pair" "is_pair" (defArgs s_is_pair) (defBody s_is_pair) (defScope s_is_pair) .none kV3 dc3 pm3 an3 cd3 ct3), sl3⟩) (c3 : PySem.W.codeIn K cd3 "is_pair" = true) (k3 : PySem.W.keepIn K (.ref f3) = true)
    (a4 : PySem.W.nsIn K mainGlobals "_law_pot" = some (some (.ref f4))) (l4 : K.lookup f4 = some ⟨oc4, od4, .func (PySem.W.fnOf "_law_pot" "_law_pot" (defArgs s__law_pot) (defBody s__law_pot) (defScope s__law_pot) .none kV4 dc4 pm4 an4 cd4 ct4), sl4⟩) (c4 : PySem.W.codeIn K cd4 "_law_pot" = true) (k4 : PySem.W.keepIn K (.ref f4) = true)
    (a5 : PySem.W.nsIn K mainGlobals "_law_draw" = some (some (.ref f5))) (l5 : K.lookup f5 = some ⟨oc5, od5, .func (PySem.W.fnOf "_law_draw" "_law_draw" (defArgs s__law_draw) (defBody s__law_draw) (defScope s__law_draw) .none kV5 dc5 pm5 an5 cd5 ct5), sl5⟩) (c5 : PySem.W.codeIn K cd5 "_law_draw" = true) (k5 : PySem.W.keepIn K (.ref f5) = true)
    (a6 : PySem.W.nsIn K mainGlobals "_law_any" = some (some (.ref f6))) (l6 : K.lookup f6 = some ⟨oc6, od6, .func (PySem.W.fnOf "_law_any" "_law_any" (defArgs s__law_any) (defBody s__law_any) (defScope s__law_any) .none kV6 dc6 pm6 an6 cd6 ct6), sl6⟩) (c6 : PySem.W.codeIn K cd6 "_law_any" = true) (k6 : PySem.W.keepIn K (.ref f6) = true)
    (a7 : PySem.W.nsIn K mainGlobals "_law_odd" = some (some (.ref f7))) (l7 : K.lookup f7 = some ⟨oc7, od7, .func (PySem.W.fnOf "_law_odd" "_law_odd" (defArgs s__law_odd) (defBody s__law_odd) (defScope s__law_odd) .none kV7 dc7 pm7 an7 cd7 ct7), sl7⟩) (c7 : PySem.W.codeIn K cd7 "_law_odd" = true) (k7 : PySem.W.keepIn K (.ref f7) = true)
    (a8 : PySem.W.nsIn K mainGlobals "_law_spans" = some (some (.ref f8))) (l8 : K.lookup f8 = some ⟨oc8, od8, .func (PySem.W.fnOf "_law_spans" "_law_spans" (defArgs s__law_spans) (defBody s__law_spans) (defScope s__law_spans) .none kV8 dc8 pm8 an8 cd8 ct8), sl8⟩) (c8 : PySem.W.codeIn K cd8 "_law_spans" = true) (k8 : PySem.W.keepIn K (.ref f8) = true)
    (a9 : PySem.W.nsIn K mainGlobals "_law_in" = some (some (.ref f9))) (l9 : K.lookup f9 = some ⟨oc9, od9, .func (PySem.W.fnOf "_law_in" "_law_in" (defArgs s__law_in) (defBody s__law_in) (defScope s__law_in) .none kV9 dc9 pm9 an9 cd9 ct9), sl9⟩) (c9 : PySem.W.codeIn K cd9 "_law_in" = true) (k9 : PySem.W.keepIn K (.ref f9) = true)
    (a10 : PySem.W.nsIn K mainGlobals "_law_is_integer" = some (some (.ref f10))) (l10 : K.lookup f10 = some ⟨oc10, od10, .func (PySem.W.fnOf "_law_is_integer" "_law_is_integer" (defArgs s__law_is_integer) (defBody s__law_is_integer) (defScope s__law_is_integer) .none kV10 dc10 pm10 an10 cd10 ct10), sl10⟩) (c10 : PySem.W.codeIn K cd10 "_law_is_integer" = true) (k10 : PySem.W.keepIn K (.ref f10) = true)
    (a11 : PySem.W.nsIn K mainGlobals "_law_is_set" = some (some (.ref f11))) (l11 : K.lookup f11 = some ⟨oc11, od11, .func (PySem.W.fnOf "_law_is_set" "_law_is_set" (defArgs s__law_is_set) (defBody s__law_is_set) (defScope s__law_is_set) .none kV11 dc11 pm11 an11 cd11 ct11), sl11⟩) (c11 : PySem.W.codeIn K cd11 "_law_is_set" = true) (k11 : PySem.W.keepIn K (.ref f11) = true)
    (a12 : PySem.W.nsIn K mainGlobals "_law_thing" = some (some (.ref f12))) (l12 : K.lookup f12 = some ⟨oc12, od12, .func (PySem.W.fnOf "_law_thing" "_law_thing" (defArgs s__law_thing) (defBody s__law_thing) (defScope s__law_thing) .none kV12 dc12 pm12 an12 cd12 ct12), sl12⟩) (c12 : PySem.W.codeIn K cd12 "_law_thing" = true) (k12 : PySem.W.keepIn K (.ref f12) = true)
    (a13 : PySem.W.nsIn K mainGlobals "_law_right" = some (some (.ref f13))) (l13 : K.lookup f13 = some ⟨oc13, od13, .func (PySem.W.fnOf "_law_right" "_law_right" (defArgs s__law_right) (defBody s__law_right) (defScope s__law_right) .none kV13 dc13 pm13 an13 cd13 ct13), sl13⟩) (c13 : PySem.W.codeIn K cd13 "_law_right" = true) (k13 : PySem.W.keepIn K (.ref f13) = true)
    (a14 : PySem.W.nsIn K mainGlobals "law" = some (some (.ref f14))) (l14 : K.lookup f14 = some ⟨oc14, od14, .func (PySem.W.fnOf "law" "law" (defArgs s_law) (defBody s_law) (defScope s_law) .none kV14 dc14 pm14 an14 cd14 ct14), sl14⟩) (c14 : PySem.W.codeIn K cd14 "law" = true) (k14 : PySem.W.keepIn K (.ref f14) = true)
    (z_abs : PySem.W.nsIn K mainGlobals "abs" = some none)
    (z_all : PySem.W.nsIn K mainGlobals "all" = some none)
    (z_any : PySem.W.nsIn K mainGlobals "any" = some none)
    (z_bool : PySem.W.nsIn K mainGlobals "bool" = some none)
    (z_int : PySem.W.nsIn K mainGlobals "int" = some none)
    (z_isinstance : PySem.W.nsIn K mainGlobals "isinstance" = some none)
    (z_len : PySem.W.nsIn K mainGlobals "len" = some none)
    (z_list : PySem.W.nsIn K mainGlobals "list" = some none)
    (z_max : PySem.W.nsIn K mainGlobals "max" = some none)
    (z_min : PySem.W.nsIn K mainGlobals "min" = some none)
    (z_range : PySem.W.nsIn K mainGlobals "range" = some none)
    (z_repr : PySem.W.nsIn K mainGlobals "repr" = some none)
    (z_tuple : PySem.W.nsIn K mainGlobals "tuple" = some none)
    (z_zip : PySem.W.nsIn K mainGlobals "zip" = some none) :
    ∃ fd : FuncData, (∀ (s : Shared) (v : Value), BindsTo s fd ⟨[v], []⟩ [("_law_script", v)]) ∧ ∀ base : Heap, K.In base → base.Ns mainGlobals mg → FnG l.prog w K mg base 6 fa fd ["_law_script"] (sp_law K) := by
  have e := hfa.symm.trans (PySem.W.mg_of X G a14)
  cases e
  have b0 := (fun_mk (st := s_is_number) l0 c0 k0).binds (ps := ["value"]) fun _ _ _ _ _ _ us hl => match us, hl with | [_], _ => rfl
  have b1 := (fun_mk (st := s_is_ranges) l1 c1 k1).binds (ps := ["value"]) fun _ _ _ _ _ _ us hl => match us, hl with | [_], _ => rfl
  have b2 := (fun_mk (st := s_holds) l2 c2 k2).binds (ps := ["ranges", "number"]) fun _ _ _ _ _ _ us hl => match us, hl with | [_, _], _ => rfl
  have b3 := (fun_mk (st := s_is_pair) l3 c3 k3).binds (ps := ["value"]) fun _ _ _ _ _ _ us hl => match us, hl with | [_], _ => rfl
  have b4 := (fun_mk (st := s__law_pot) l4 c4 k4).binds (ps := ["_law_script", "_law_k"]) fun _ _ _ _ _ _ us hl => match us, hl with | [_, _], _ => rfl
  have b5 := (fun_mk (st := s__law_draw) l5 c5 k5).binds (ps := ["_law_pot_here", "_law_many"]) fun _ _ _ _ _ _ us hl => match us, hl with | [_, _], _ => rfl
  have b6 := (fun_mk (st := s__law_any) l6 c6 k6).binds (ps := ["_law_pot_here", "_law_items"]) fun _ _ _ _ _ _ us hl => match us, hl with | [_, _], _ => rfl
  have b7 := (fun_mk (st := s__law_odd) l7 c7 k7).binds (ps := ["_law_pot_here"]) fun _ _ _ _ _ _ us hl => match us, hl with | [_], _ => rfl
  have b8 := (fun_mk (st := s__law_spans) l8 c8 k8).binds (ps := ["_law_pot_here", "_law_most", "_law_low", "_law_high"]) fun _ _ _ _ _ _ us hl => match us, hl with | [_, _, _, _], _ => rfl
  have b9 := (fun_mk (st := s__law_in) l9 c9 k9).binds (ps := ["_law_spans_here", "_law_figure"]) fun _ _ _ _ _ _ us hl => match us, hl with | [_, _], _ => rfl
  have b10 := (fun_mk (st := s__law_is_integer) l10 c10 k10).binds (ps := ["_law_thing_here"]) fun _ _ _ _ _ _ us hl => match us, hl with | [_], _ => rfl
  have b11 := (fun_mk (st := s__law_is_set) l11 c11 k11).binds (ps := ["_law_thing_here"]) fun _ _ _ _ _ _ us hl => match us, hl with | [_], _ => rfl
  have b12 := (fun_mk (st := s__law_thing) l12 c12 k12).binds (ps := ["_law_pot_here"]) fun _ _ _ _ _ _ us hl => match us, hl with | [_], _ => rfl
  have b13 := (fun_mk (st := s__law_right) l13 c13 k13).binds (ps := ["_law_pot_here"]) fun _ _ _ _ _ _ us hl => match us, hl with | [_], _ => rfl
  exact ⟨PySem.W.fnOf "law" "law" (defArgs s_law) (defBody s_law) (defScope s_law) .none kV14 dc14 pm14 an14 cd14 ct14, fun s v => .of_eq rfl, fun base _ _ =>
    all_ok ⟨PySem.W.mg_none_of X G z_abs, PySem.W.mg_none_of X G z_all, PySem.W.mg_none_of X G z_any, PySem.W.mg_none_of X G z_bool, PySem.W.mg_none_of X G z_int, PySem.W.mg_none_of X G z_isinstance, PySem.W.mg_none_of X G z_len, PySem.W.mg_none_of X G z_list, PySem.W.mg_none_of X G z_max, PySem.W.mg_none_of X G z_min, PySem.W.mg_none_of X G z_range, PySem.W.mg_none_of X G z_repr, PySem.W.mg_none_of X G z_tuple, PySem.W.mg_none_of X G z_zip⟩ (fun_mk (st := s_law) l14 c14 k14) (fun_mk (st := s_is_number) l0 c0 k0) b0 (PySem.W.mg_of X G a0) (fun_mk (st := s_is_ranges) l1 c1 k1) b1 (PySem.W.mg_of X G a1) (fun_mk (st := s_holds) l2 c2 k2) b2 (PySem.W.mg_of X G a2) (fun_mk (st := s_is_pair) l3 c3 k3) b3 (PySem.W.mg_of X G a3) (fun_mk (st := s__law_pot) l4 c4 k4) b4 (PySem.W.mg_of X G a4) (fun_mk (st := s__law_draw) l5 c5 k5) b5 (PySem.W.mg_of X G a5) (fun_mk (st := s__law_any) l6 c6 k6) b6 (PySem.W.mg_of X G a6) (fun_mk (st := s__law_odd) l7 c7 k7) b7 (PySem.W.mg_of X G a7) (fun_mk (st := s__law_spans) l8 c8 k8) b8 (PySem.W.mg_of X G a8) (fun_mk (st := s__law_in) l9 c9 k9) b9 (PySem.W.mg_of X G a9) (fun_mk (st := s__law_is_integer) l10 c10 k10) b10 (PySem.W.mg_of X G a10) (fun_mk (st := s__law_is_set) l11 c11 k11) b11 (PySem.W.mg_of X G a11) (fun_mk (st := s__law_thing) l12 c12 k12) b12 (PySem.W.mg_of X G a12) (fun_mk (st := s__law_right) l13 c13 k13) b13 (PySem.W.mg_of X G a13)⟩
end Pf
open PySem PySem.W PyProof.Rows
set_option maxHeartbeats 0 in
theorem PySem.Challenge.cw_piecefacts_k01_range_sets_of_any_value_holds : PySem.Challenge.rw_piecefacts_k01_range_sets_of_any_value.Holds := by
  w_on; o_law; k_head; (case hw => w_witness2)
  k_fill
  refine Pf.walkG (l := PySem.Challenge.rw_piecefacts_k01_range_sets_of_any_value) (k := 6) (x := "_law_script") (sp := Pf.sp_law) rfl rfl ⟨rfl, by decide, by decide⟩ (fun w h Y => PySem.W.kIn_of Y) ?F (fun _ _ a ns hl hS => ⟨a, ns, rfl, hS, hl, fun _ => rfl⟩)
  case F =>
    intro w mg fa h KX G hmg
    refine' Pf.all_mk KX G hmg ?a0 ?l0 ?c0 ?k0 ?a1 ?l1 ?c1 ?k1 ?a2 ?l2 ?c2 ?k2 ?a3 ?l3 ?c3 ?k3 ?a4 ?l4 ?c4 ?k4 ?a5 ?l5 ?c5 ?k5 ?a6 ?l6 ?c6 ?k6 ?a7 ?l7 ?c7 ?k7 ?a8 ?l8 ?c8 ?k8 ?a9 ?l9 ?c9 ?k9 ?a10 ?l10 ?c10 ?k10 ?a11 ?l11 ?c11 ?k11 ?a12 ?l12 ?c12 ?k12 ?a13 ?l13 ?c13 ?k13 ?a14 ?l14 ?c14 ?k14 ?z_abs ?z_all ?z_any ?z_bool ?z_int ?z_isinstance ?z_len ?z_list ?z_max ?z_min ?z_range ?z_repr ?z_tuple ?z_zip
    (case a0 => k_is); (case l0 => k_is); (case c0 => k_is); (case k0 => k_is); (case a1 => k_is); (case l1 => k_is); (case c1 => k_is); (case k1 => k_is); (case a2 => k_is); (case l2 => k_is); (case c2 => k_is); (case k2 => k_is); (case a3 => k_is); (case l3 => k_is); (case c3 => k_is); (case k3 => k_is); (case a4 => k_is); (case l4 => k_is); (case c4 => k_is); (case k4 => k_is); (case a5 => k_is); (case l5 => k_is); (case c5 => k_is); (case k5 => k_is); (case a6 => k_is); (case l6 => k_is); (case c6 => k_is); (case k6 => k_is); (case a7 => k_is); (case l7 => k_is); (case c7 => k_is); (case k7 => k_is); (case a8 => k_is); (case l8 => k_is); (case c8 => k_is); (case k8 => k_is); (case a9 => k_is); (case l9 => k_is); (case c9 => k_is); (case k9 => k_is); (case a10 => k_is); (case l10 => k_is); (case c10 => k_is); (case k10 => k_is); (case a11 => k_is); (case l11 => k_is); (case c11 => k_is); (case k11 => k_is); (case a12 => k_is); (case l12 => k_is); (case c12 => k_is); (case k12 => k_is); (case a13 => k_is); (case l13 => k_is); (case c13 => k_is); (case k13 => k_is); (case a14 => k_is); (case l14 => k_is); (case c14 => k_is); (case k14 => k_is); (case z_abs => k_is); (case z_all => k_is); (case z_any => k_is); (case z_bool => k_is); (case z_int => k_is); (case z_isinstance => k_is); (case z_len => k_is); (case z_list => k_is); (case z_max => k_is); (case z_min => k_is); (case z_range => k_is); (case z_repr => k_is); (case z_tuple => k_is); (case z_zip => k_is)
